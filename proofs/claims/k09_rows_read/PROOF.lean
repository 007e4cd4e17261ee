import PyProof.Rows.All
import Wide.All
import OpenK.AllK
import Wide.FinOn
import Lean
import PyProof.EqAt
import PyProof.EqKinds
import PyProof.TupleCall
import PySem.Challenge.RW_growbook_k09_rows_read
set_option Elab.async false
set_option linter.all false
set_option maxRecDepth 100000
set_option maxHeartbeats 4000000
namespace L2
open PySem PySem.Spec PyProof.Rows
abbrev Key := Sum Int Str
def keyIs : Key → Value → Bool
  | .inl k, v => Value.isInt k v
  | .inr x, v => Value.isStrOf x v
def keyH (w : World) : Key → Int
  | .inl k => hashInt k
  | .inr x => hashStr w x
theorem keyIs_shape : ∀ {k : Key} {v : Value}, keyIs k v = true → (∃ i t, k = Sum.inl i ∧ v = Value.int i t) ∨ (∃ x t, k = Sum.inr x ∧ v = Value.str x t)
  | .inl i, v, h => by
    obtain ⟨t, e⟩ := Value.isInt_shape (k := i) (v := v) h
    exact .inl ⟨i, t, rfl, e⟩
  | .inr x, v, h => by
    obtain ⟨t, e⟩ := Value.isStrOf_shape (x := x) (v := v) h
    exact .inr ⟨x, t, rfl, e⟩
theorem key_ll (a b : Int) : decide ((Sum.inl a : Key) = Sum.inl b) = (a == b) := by
  by_cases e : a = b
  · subst e; simp
  · have h : ¬ (Sum.inl a : Key) = Sum.inl b := fun q => e (Sum.inl.inj q)
    rw [decide_eq_false h]
    exact (beq_eq_false_iff_ne.mpr e).symm
theorem key_rr (a b : Str) : decide ((Sum.inr a : Key) = Sum.inr b) = decide (a = b) := by
  by_cases e : a = b
  · subst e; simp
  · have h : ¬ (Sum.inr a : Key) = Sum.inr b := fun q => e (Sum.inr.inj q)
    rw [decide_eq_false h, decide_eq_false e]
theorem key_lr (a : Int) (b : Str) : decide ((Sum.inl a : Key) = Sum.inr b) = false := decide_eq_false (fun q => nomatch q)
theorem key_rl (a : Str) (b : Int) : decide ((Sum.inr a : Key) = Sum.inl b) = false := decide_eq_false (fun q => nomatch q)
def mixKind (prog : Program) (w : World) : PySem.KeyKind prog w Key where
  is := keyIs
  hash := keyH w
  inj := fun v a b ha hb => by
    rcases keyIs_shape ha with ⟨i, t, rfl, rfl⟩ | ⟨x, t, rfl, rfl⟩
    · rcases keyIs_shape hb with ⟨j, u, rfl, e⟩ | ⟨y, u, rfl, e⟩
      · injection e with e1 _; rw [e1]
      · exact nomatch e
    · rcases keyIs_shape hb with ⟨j, u, rfl, e⟩ | ⟨y, u, rfl, e⟩
      · exact nomatch e
      · injection e with e1 _; rw [e1]
  byValue := fun k v h => by
    rcases keyIs_shape h with ⟨i, t, rfl, rfl⟩ | ⟨x, t, rfl, rfl⟩ <;> rfl
  pyHash := fun hv h => by
    rcases keyIs_shape hv with ⟨i, t, rfl, rfl⟩ | ⟨x, t, rfl, rfl⟩
    · exact wpAny_pyHash_int h
    · exact wpAny_pyHash_str h
  eqBool := fun hu hv h => by
    rcases keyIs_shape hu with ⟨i, t, rfl, rfl⟩ | ⟨x, t, rfl, rfl⟩
    · rcases keyIs_shape hv with ⟨j, u, rfl, rfl⟩ | ⟨y, u, rfl, rfl⟩
      · rw [key_ll] at h; exact wpAny_eqBool_int h
      · rw [key_lr] at h; exact SeqAt.EqAt.int_str i t y u _ _ _ _ h
    · rcases keyIs_shape hv with ⟨j, u, rfl, rfl⟩ | ⟨y, u, rfl, rfl⟩
      · rw [key_rl] at h; exact SeqAt.EqAt.str_int x t j u _ _ _ _ h
      · rw [key_rr] at h; exact wpAny_eqBool_str h
  «strs» := fun k x t v h => by
    rcases keyIs_shape h with ⟨i, u, rfl, e⟩ | ⟨y, u, rfl, e⟩
    · exact nomatch e
    · injection e with e1 _
      subst e1
      cases v <;> rfl
end L2
namespace L2
open PySem PySem.Spec PyProof.Rows
inductive V where
  | non | bl (b : Bool) | int (i : Int) | str (x : Str) | byt (b : Array UInt8) | flt (b : UInt64) | ref (a : Addr) | ty (n : String)
  deriving DecidableEq
def RelV : V → Value → Prop
  | .non, u => u = Value.none
  | .bl b, u => u = Value.bool b
  | .int i, u => ∃ t, u = Value.int i t
  | .str x, u => ∃ t, u = Value.str x t
  | .byt b, u => ∃ t, u = Value.bytes b t
  | .flt b, u => ∃ t, u = Value.float b t
  | .ref a, u => u = Value.ref a
  | .ty n, u => u = Value.type n
abbrev Vals : List V → List Value → Prop := Paired RelV
theorem Vals.length {xs : List V} {us : List Value} (r : Vals xs us) : xs.length = us.length := Paired.length r
theorem Vals.get : ∀ {xs : List V} {us : List Value} {i : Nat} {x : V}, Vals xs us → xs[i]? = some x → ∃ u, us[i]? = some u ∧ RelV x u
  | _, _, _, _, .nil, e => by simp at e
  | _, _, 0, _, .cons r _, e => by simp at e; subst e; exact ⟨_, rfl, r⟩
  | _, _, i + 1, x, .cons _ t, e => by
    obtain ⟨u, h1, h2⟩ := Vals.get (i := i) (x := x) t (by simpa using e)
    exact ⟨u, by simpa using h1, h2⟩
theorem Vals.append : ∀ {xs ys : List V} {us ws : List Value}, Vals xs us → Vals ys ws → Vals (xs ++ ys) (us ++ ws)
  | _, _, _, _, .nil, s => s
  | _, _, _, _, .cons r t, s => .cons r (Vals.append t s)
def RelO : Option V → Option Value → Prop
  | some v, some u => RelV v u
  | none, none => True
  | _, _ => False
def KV {κ : Type} : List (κ × V) → List (κ × Value) → Prop := Paired fun (p : κ × V) (q : κ × Value) => p.1 = q.1 ∧ RelV p.2 q.2
def kV : Key → V
  | .inl i => .int i
  | .inr x => .str x
inductive HO where
    | lst (xs : List V)
    | tup (xs : List V)
    | dK (kvs : List (Key × V)) | dT (kvs : List (List Key × V))
    | set (S : Int → Bool) (n : Nat)
    | ins (C dx : Addr) (fs : List (Str × V))
    | own (x : Addr)
    | xd (fs : List (Str × V))
    | met (f x : Addr)
    | rng (lo hi : Int)
    | frz (o : Obj) (u : HO)
    | tbl (ps : Array Value)
    | ext (φ : Heap → Prop)
abbrev Hp := Addr → Option HO
def upd (H : Hp) (a : Addr) (o : HO) : Hp := fun b => if b = a then some o else H b
theorem upd_same {H : Hp} {a : Addr} {o : HO} : upd H a o a = some o := by unfold upd; rw [if_pos rfl]
theorem upd_ne {H : Hp} {a b : Addr} {o : HO} (h : b ≠ a) : upd H a o b = H b := by unfold upd; rw [if_neg h]
theorem ne_of_none {H : Hp} {a b : Addr} {o : HO} (h : H a = some o) (h' : H b = none) : a ≠ b := by
  intro e; subst e; rw [h] at h'; cases h'
section
variable (P : Program) (w : World)
def ObjOk (H : Hp) (h : Heap) (a : Addr) : HO → Prop
  | .lst xs => xs.length ≤ sizeLine ∧ ∃ (its : List Value) (n : Nat), Vals xs its ∧ h.get? a = some { cls := .type "list", data := .seq its.toArray n }
  | .tup xs => xs.length ≤ sizeLine ∧ ∃ its : List Value, Vals xs its ∧ IsTup h a its.toArray
  | .dK kvs => kvs.length ≤ sizeLine ∧ (a == sysModules) = false ∧ ∃ vs, KV kvs vs ∧ h.DictOf (mixKind P w) a vs
  | .dT kvs => kvs.length ≤ sizeLine ∧ (a == sysModules) = false ∧ ∃ xs : List (List Key × Addr × Value),
      Paired (fun (p : List Key × V) (q : List Key × Addr × Value) => p.1 = q.1 ∧ H q.2.1 = some (.tup (p.1.map kV)) ∧ RelV p.2 q.2.2) kvs xs ∧
      ∃ o es ep, h.get? a = some o ∧ o.ExactDict ∧ o.data = .dict es ep ∧ es.toList = xs.map (entryOfKey (tupleKind (mixKind P w))) ∧ (xs.map (·.1)).Nodup
  | .set S n => h.SetOf (intKind P w) a S n
  | .ins C dx fs => H dx = some (.own a) ∧ fs.length ≤ 1000 ∧ dx ≠ a ∧ h.get? a = some (PySem.W.instObj C dx) ∧
      ∃ mA, h.Ns1 dx mA ∧ (∀ f, RelO (fs.lookup f) (mA f)) ∧ PySem.Within mA (fs.map (·.1))
  | .own _ => ∃ o, h.get? a = some o
  | .xd fs => ∃ mA, h.Ns1 a mA ∧ ∀ f, RelO (fs.lookup f) (mA f)
  | .rng lo hi => ∃ t u v, h.get? a = some { cls := .type "range", data := .fields #[.int lo t, .int hi u, .int 1 v] }
  | .frz o u => h.get? a = some o ∧ ObjOk H h a u
  | .tbl ps => h.get? a = some { cls := .none, data := .fields ps }
  | .met f x => h.get? a = some (PySem.W.methodObj (.ref f) (.ref x))
  | .ext φ => φ h ∧ (∃ o, h.get? a = some o) ∧ ∀ h1 h2 : Heap, φ h1 → (∀ o, h1.get? a = some o → h2.get? a = some o) → φ h2
def HOk (H : Hp) (h : Heap) : Prop := ∀ a o, H a = some o → ObjOk P w H h a o
end
section
variable {P : Program} {w : World} {H H' : Hp} {h h' : Heap} {a : Addr} {o : HO}
theorem ObjOk.lt (x : ObjOk P w H h a o) : a < h.objs.size := by
  cases o with
  | lst xs => obtain ⟨_, _, _, _, e⟩ := x; exact Heap.lt_size e
  | tup xs => obtain ⟨_, _, _, p⟩ := x; exact p.lt
  | dK kvs => obtain ⟨_, _, _, _, o, _, _, e, _⟩ := x; exact Heap.lt_size e
  | dT kvs => obtain ⟨_, _, _, _, o, _, _, e, _⟩ := x; exact Heap.lt_size e
  | set S n => obtain ⟨o, _, _, _, e, _⟩ := x; exact Heap.lt_size e
  | ins C dx fs => obtain ⟨_, _, _, e, _⟩ := x; exact Heap.lt_size e
  | own y => obtain ⟨_, e⟩ := x; exact Heap.lt_size e
  | xd fs => obtain ⟨_, ⟨_, _, _, e, _⟩, _⟩ := x; exact Heap.lt_size e
  | rng lo hi => obtain ⟨_, _, _, e⟩ := x; exact Heap.lt_size e
  | frz ob u => obtain ⟨e, _⟩ := x; exact Heap.lt_size e
  | tbl ps => exact Heap.lt_size (show h.get? a = some _ from x)
  | met f y => exact Heap.lt_size (show h.get? a = some _ from x)
  | ext φ => obtain ⟨_, ⟨_, e⟩, _⟩ := x; exact Heap.lt_size e
theorem Paired.mapP {α β : Type} {F G : α → β → Prop} : ∀ {l₁ : List α} {l₂ : List β}, Paired F l₁ l₂ → (∀ a b, F a b → G a b) → Paired G l₁ l₂
  | _, _, .nil, _ => .nil
  | _, _, .cons r t, f => .cons (f _ _ r) (Paired.mapP t f)
theorem ObjOk.stay (x : ObjOk P w H h a o) (k : ∀ b u, (b = a ∨ H b = some (.own a)) → h.get? b = some u → h'.get? b = some u)
    (ho : ∀ b, H b = some (.own a) → H' b = some (.own a)) (ht : ∀ b xs, H b = some (.tup xs) → H' b = some (.tup xs)) : ObjOk P w H' h' a o := by
  induction o with
  | lst xs => obtain ⟨z, its, n, r, e⟩ := x; exact ⟨z, its, n, r, k _ _ (.inl rfl) e⟩
  | tup xs => obtain ⟨z, its, r, ob, e, c⟩ := x; exact ⟨z, its, r, ob, k _ _ (.inl rfl) e, c⟩
  | dK kvs => obtain ⟨z, y, vs, r, ob, es, ep, e, c⟩ := x; exact ⟨z, y, vs, r, ob, es, ep, k _ _ (.inl rfl) e, c⟩
  | dT kvs =>
    obtain ⟨z, y, xs, r, ob, es, ep, e, c⟩ := x
    exact ⟨z, y, xs, Paired.mapP r fun p q z => ⟨z.1, ht _ _ z.2.1, z.2.2⟩, ob, es, ep, k _ _ (.inl rfl) e, c⟩
  | set S n => obtain ⟨ob, es, ep, t, e, c⟩ := x; exact ⟨ob, es, ep, t, k _ _ (.inl rfl) e, c⟩
  | ins C dx fs =>
    obtain ⟨d, z, ne, e, mA, ⟨od, es, ep, e2, c⟩, r⟩ := x
    exact ⟨ho _ d, z, ne, k _ _ (.inl rfl) e, mA, ⟨od, es, ep, k _ _ (.inr d) e2, c⟩, r⟩
  | own y => obtain ⟨ob, e⟩ := x; exact ⟨ob, k _ _ (.inl rfl) e⟩
  | xd fs => obtain ⟨mA, ⟨od, es, ep, e, c⟩, r⟩ := x; exact ⟨mA, ⟨od, es, ep, k _ _ (.inl rfl) e, c⟩, r⟩
  | rng lo hi => obtain ⟨t, u, v, e⟩ := x; exact ⟨t, u, v, k _ _ (.inl rfl) e⟩
  | frz ob u ih => obtain ⟨e, q⟩ := x; exact ⟨k _ _ (.inl rfl) e, ih q⟩
  | tbl ps =>
    have e : h.get? a = some { cls := .none, data := .fields ps } := x
    show h'.get? a = some { cls := .none, data := .fields ps }
    exact k a _ (.inl rfl) e
  | met f y =>
    have e : h.get? a = some (PySem.W.methodObj (.ref f) (.ref y)) := x
    show h'.get? a = some (PySem.W.methodObj (.ref f) (.ref y))
    exact k a _ (.inl rfl) e
  | ext φ => obtain ⟨p, ⟨o, e⟩, st⟩ := x; exact ⟨st _ _ p fun o q => k _ _ (.inl rfl) q, ⟨o, k _ _ (.inl rfl) e⟩, st⟩
theorem HOk.lt (x : HOk P w H h) (e : H a = some o) : a < h.objs.size := (x a o e).lt
theorem HOk.fresh (x : HOk P w H h) (e : h.objs.size ≤ a) : H a = none := by
  cases q : H a with
  | none => rfl
  | some u => exact absurd (Nat.lt_of_lt_of_le (x.lt q) e) (Nat.lt_irrefl _)
theorem HOk.kept (x : HOk P w H h) (k : ∀ b u, h.get? b = some u → h'.get? b = some u) : HOk P w H h' := fun a o e =>
  (x a o e).stay (fun b u _ q => k b u q) (fun _ q => q) fun _ _ q => q
theorem HOk.laid (x : HOk P w H h) (k : ∀ b u, h.get? b = some u → h'.get? b = some u) (hp : h.objs.size ≤ a) (new : ObjOk P w (upd H a o) h' a o) : HOk P w (upd H a o) h' := fun b u e => by
  have hn := x.fresh hp
  by_cases hb : b = a
  · subst hb; rw [upd_same] at e; cases e; exact new
  · rw [upd_ne hb] at e
    exact (x b u e).stay (fun c v _ q => k c v q) (fun c q => by rw [upd_ne (ne_of_none q hn)]; exact q) fun c xs q => by rw [upd_ne (ne_of_none q hn)]; exact q
end
def Rd (H : Hp) (a : Addr) (u : HO) : Prop := H a = some u ∨ ∃ o, H a = some (.frz o u)
theorem Rd.ok {P : Program} {w : World} {H : Hp} {h : Heap} {a : Addr} {u : HO} (r : Rd H a u) (x : HOk P w H h) : ObjOk P w H h a u := by
  rcases r with r | ⟨o, r⟩
  · exact x a u r
  · obtain ⟨_, q⟩ := x a _ r
    exact q
def Mut : Option HO → Prop
  | some (.lst _) => True
  | some (.dK _) => True
  | some (.dT _) => True
  | some (.set _ _) => True
  | some (.ins _ _ _) => True
  | some (.ext _) => True
  | _ => False
section
variable {P : Program} {w : World} {H : Hp} {h h' : Heap} {x e : Addr} {o' : HO}
theorem HOk.write (ok : HOk P w H h) (mu : Mut (H x)) (he : e = x ∨ H e = some (.own x)) (k : ∀ b u, b ≠ e → h.get? b = some u → h'.get? b = some u) (heo : ∃ u, h'.get? e = some u)
    (new : ObjOk P w (upd H x o') h' x o') : HOk P w (upd H x o') h' := fun b u q => by
  have nown : ∀ c y, H c = some (.own y) → c ≠ x := fun c y r z => by subst z; rw [r] at mu; exact mu
  have ntup : ∀ c xs, H c = some (.tup xs) → c ≠ x := fun c xs r z => by subst z; rw [r] at mu; exact mu
  by_cases hb : b = x
  · subst hb; rw [upd_same] at q; cases q; exact new
  · rw [upd_ne hb] at q
    by_cases hbe : b = e
    · have q' : H b = some (.own x) := by
        rcases he with z | z
        · exact absurd (hbe.trans z) hb
        · rw [hbe]; exact z
      rw [q] at q'; cases q'
      obtain ⟨v, hv⟩ := heo
      exact ⟨v, by rw [hbe]; exact hv⟩
    · refine (ok b u q).stay (fun c v hc r => k c v ?_ r) (fun c r => by rw [upd_ne (nown c b r)]; exact r) fun c xs r => by rw [upd_ne (ntup c xs r)]; exact r
      rcases hc with rfl | hc
      · exact hbe
      · rintro rfl
        rcases he with z | z
        · exact nown c b hc z
        · rw [hc] at z; cases z; exact hb rfl
end
structure Un (fs ex : List Addr) (H H' : Hp) (h h' : Heap) : Prop where
  keep : ∀ b o, h.get? b = some o → H b = none → b ∉ fs → b ∉ ex → h'.get? b = some o
  slot : ∀ b o, h.get? b = some o → H b = none → b ∈ fs → b ∉ ex → ∃ sl, h'.get? b = some { o with slots := sl }
  free : ∀ b o, h.get? b = some o → H b = none → b ∉ ex → H' b = none
  there : ∀ b o, h.get? b = some o → b ∉ ex → ∃ o', h'.get? b = some o'
  tups : ∀ b xs, H b = some (.tup xs) → H' b = some (.tup xs)
  frzs : ∀ b o u, H b = some (.frz o u) → H' b = some (.frz o u)
  tbls : ∀ b ps, H b = some (.tbl ps) → ∃ more, H' b = some (.tbl (ps ++ more))
section
variable {fs fs' ex ex' : List Addr} {H H1 H2 : Hp} {h h1 h2 h' : Heap} {a x e : Addr} {o : HO}
theorem Un.any (u : Un fs ex H H1 h h1) {b : Addr} {ob : Obj} (q : h.get? b = some ob) (n : H b = none) (hx : b ∉ ex) : ∃ sl, h1.get? b = some { ob with slots := sl } := by
  by_cases hb : b ∈ fs
  · exact u.slot b ob q n hb hx
  · exact ⟨ob.slots, u.keep b ob q n hb hx⟩
theorem Un.kept (k : ∀ b u, h.get? b = some u → h'.get? b = some u) : Un fs ex H H h h' :=
  ⟨fun b ob q _ _ _ => k b ob q, fun b ob q _ _ _ => ⟨ob.slots, k b ob q⟩, fun _ _ _ n _ => n, fun b ob q _ => ⟨ob, k b ob q⟩, fun _ _ q => q, fun _ _ _ q => q, fun _ ps q => ⟨#[], by rw [q]; simp⟩⟩
theorem Un.refl : Un fs ex H H h h := Un.kept fun _ _ q => q
theorem Un.laid (k : ∀ b u, h.get? b = some u → h'.get? b = some u) (hp : h.objs.size ≤ a) (hn : H a = none) : Un fs ex H (upd H a o) h h' where
  keep := fun b u q _ _ _ => k b u q
  slot := fun b u q _ _ _ => ⟨u.slots, k b u q⟩
  free := fun b u q n _ => by rw [upd_ne (Nat.ne_of_lt (Nat.lt_of_lt_of_le (Heap.lt_size q) hp))]; exact n
  there := fun b u q _ => ⟨u, k b u q⟩
  tups := fun b xs q => by rw [upd_ne (ne_of_none q hn)]; exact q
  frzs := fun b u xs q => by rw [upd_ne (ne_of_none q hn)]; exact q
  tbls := fun b ps q => ⟨#[], by rw [upd_ne (ne_of_none q hn), q]; simp⟩
theorem Un.write (mu : Mut (H x)) (he : e = x ∨ H e = some (.own x)) (k : ∀ b u, b ≠ e → h.get? b = some u → h'.get? b = some u) (heo : ∃ u, h'.get? e = some u) : Un fs ex H (upd H x o) h h' := by
  have hx : ∀ b, H b = none → b ≠ x := fun b n z => by subst z; rw [n] at mu; exact mu
  have hb : ∀ b, H b = none → b ≠ e := fun b n z => by
    subst z
    rcases he with r | r
    · exact hx b n r
    · rw [n] at r; cases r
  have hm : ∀ b u, H b = some u → ¬ Mut (some u) → b ≠ x := fun b u q nm z => by subst z; rw [q] at mu; exact nm mu
  refine ⟨fun b u q n _ _ => k b u (hb b n) q, fun b u q n _ _ => ⟨u.slots, k b u (hb b n) q⟩, fun b u q n _ => by rw [upd_ne (hx b n)]; exact n, fun b u q _ => ?_,
    fun b xs q => by rw [upd_ne (hm b _ q fun z => z)]; exact q, fun b u xs q => by rw [upd_ne (hm b _ q fun z => z)]; exact q, fun b ps q => ⟨#[], by rw [upd_ne (hm b _ q fun z => z), q]; simp⟩⟩
  by_cases hbe : b = e
  · subst hbe; exact heo
  · exact ⟨u, k b u hbe q⟩
end
def trk (h : Heap) (H : Hp) : List Addr := (List.range h.objs.size).filter fun a => (H a).isSome
def hidT (h : Heap) (H : Hp) : Heap := PySem.W.hideAll h (trk h H)
theorem hidT_size (h : Heap) (H : Hp) : (hidT h H).objs.size = h.objs.size := PySem.W.hideAll_size _ _
theorem hidT_get {h : Heap} {H : Hp} {b : Addr} {o : Obj} (e : h.get? b = some o) (n : H b = none) : (hidT h H).get? b = some o :=
  PySem.W.hideAll_get _ e fun hm => by
    have q : (H b).isSome = true := (List.mem_filter.mp hm).2
    rw [n] at q; simp at q
theorem of_hidT {h : Heap} {H : Hp} {b : Addr} {o : Obj} (e : (hidT h H).get? b = some o) : h.get? b = some o ∧ H b = none := by
  have e' : h.get? b = some o := PySem.W.of_hideAll (trk h H) e
  refine ⟨e', ?_⟩
  cases q : H b with
  | none => rfl
  | some x =>
    have hm : b ∈ trk h H := List.mem_filter.mpr ⟨List.mem_range.mpr (Heap.lt_size e'), by simp [q]⟩
    have z : (hidT h H).get? b = none := PySem.W.hideAll_none (trk h H) hm
    rw [z] at e; cases e
def allNews (g h : Heap) (L : Addr) : List (Addr × Obj) := (List.range h.objs.size).filterMap fun a => if a = L ∨ (g.get? a).isSome = true then none else (h.get? a).map fun o => (a, o)
def rest (g h : Heap) (L d : Addr) : List (Addr × Obj) := (allNews g h L).filter fun p => decide (p.1 ≠ d)
end L2
namespace L2
open PySem PySem.Spec PyProof.Rows
structure Mod (K : PySem.W.Frag) (mg : Str → Option Value) (base : Heap) : Prop where
  kin : K.In base
  glob : base.Ns mainGlobals mg
  blt : ∃ mb, base.Ns builtinsNs mb ∧ ∀ x : Str, x ≠ "__name__" → mb x = bootBuiltins x
  nolimit : base.NoLimit
structure Cx where
  prog : Program
  w : World
  K : PySem.W.Frag
  mg : Str → Option Value
  base : Heap
  A : Around
  N : List Str
  s₀ : Shared
  H₀ : Hp
  env : Env
  outer : List Env
  stack : List Env
  ex : List Addr
  fn : Str → Bool
  calm : Bool
  pn : List (Addr × Obj)
  xe : Value → Shared → Prop
def frs (l : List Env) : List Addr := l.filterMap (·.frame)
abbrev Cx.fs (X : Cx) : List Addr := frs X.outer
def Vis (sc : Scope) (x : Str) : Prop := sc.names.lookup x = some .local ∨ sc.names.lookup x = some .cell ∨ sc.names.lookup x = some .free
def Loc (sc : Scope) (x : Str) : Prop := sc.names.lookup x = some .local ∨ sc.names.lookup x = some .cell
def Look (env : Env) (h : Heap) (m : Str → Option Value) (x : Str) (u : Value) : Prop :=
  (env.kindOf x = some .local ∧ m x = some u) ∨ ((env.kindOf x = some .cell ∨ env.kindOf x = some .free) ∧ ∃ c, env.cells.lookup x = some c ∧ h.IsCell c (some u))
structure Cx.Ok (X : Cx) : Prop where
  mod : Mod X.K X.mg X.base
  kind : X.env.scope.kind = .function
  glob : X.env.globals = mainGlobals
  blt : X.env.builtins = builtinsNs
  above : X.s₀.heap.objs.size ≤ X.env.locals
  inj : ∀ x y c, X.env.cells.lookup x = some c → X.env.cells.lookup y = some c → x = y
  has : ∀ x, (X.env.kindOf x = some .cell ∨ X.env.kindOf x = some .free) → ∃ c, X.env.cells.lookup x = some c
  cab : ∀ x c, X.fn x = true → X.env.cells.lookup x = some c → X.s₀.heap.objs.size ≤ c
  hd : X.calm = true → X.A.handled = none
  frames : X.A.frames = some X.stack
  stk : X.stack = X.outer ∨ (X.stack = X.env :: X.outer ∧ X.env.frame = some X.env.locals)
  exf : ∀ b ∈ X.ex, b ≠ X.env.locals ∧ ∀ x c, X.env.cells.lookup x = some c → c ≠ b
  bs : ∀ b o, X.base.get? b = some o → X.s₀.heap.get? b = some o ∧ X.H₀ b = none
  bsz : X.base.objs.size ≤ X.s₀.heap.objs.size
  noex : ∀ b o, X.base.get? b = some o → b ∉ X.ex
  exfs : ∀ b ∈ X.ex, b ∉ X.fs
  funs : X.s₀.heap.FunFrames X.base X.outer
  frf : ∀ b ∈ X.fs, X.H₀ b = none
structure Inv (X : Cx) (pins : List (Addr × Obj)) (σ : List (Option V)) (H : Hp) (s : Shared) : Prop where
  ok : X.Ok
  os : s.os = X.s₀.os
  bare : AllBare s.gens
  base : Un X.fs X.ex X.H₀ H X.s₀.heap s.heap
  loc : ∃ m, s.heap.Ns X.env.locals m ∧ ∀ (i : Nat) (x : Str) (v : V), X.N[i]? = some x → σ[i]? = some (some v) → Vis X.env.scope x → ∃ u, RelV v u ∧ Look X.env s.heap m x u
  cell : ∀ x c, X.env.cells.lookup x = some c → ∃ v, s.heap.IsCell c v
  free : H X.env.locals = none
  freeC : ∀ x c, X.env.cells.lookup x = some c → H c = none ∨ (X.fn x = false ∧ ∃ o, H c = some (.frz o (.own 0)))
  pin : ∀ p ∈ X.pn ++ pins, s.heap.get? p.1 = some p.2 ∧ H p.1 = none ∧ p.1 ≠ X.env.locals ∧ p.1 ∉ X.fs ∧ ∀ v, p.2.data ≠ .cell v
  hok : HOk X.prog X.w H s.heap
  len : σ.length = X.N.length
section
variable {X : Cx} {pins : List (Addr × Obj)} {σ : List (Option V)} {H H' : Hp} {s : Shared} {h' : Heap}
theorem Cx.Ok.nofr (ok : X.Ok) {b : Addr} {o : Obj} (e : X.base.get? b = some o) : b ∉ X.fs := fun hb => by
  have := (ok.funs.mem hb).1
  rw [e] at this; cases this
theorem Inv.bs (I : Inv X pins σ H s) : ∀ b o, X.base.get? b = some o → s.heap.get? b = some o ∧ H b = none := fun b o e =>
  ⟨I.base.keep b o (I.ok.bs b o e).1 (I.ok.bs b o e).2 (I.ok.nofr e) (I.ok.noex b o e), I.base.free b o (I.ok.bs b o e).1 (I.ok.bs b o e).2 (I.ok.noex b o e)⟩
theorem Inv.bk (I : Inv X pins σ H s) : ∀ b o, X.base.get? b = some o → s.heap.get? b = some o := fun b o e => (I.bs b o e).1
theorem Inv.mod (I : Inv X pins σ H s) : Mod X.K X.mg X.base := I.ok.mod
theorem Inv.kIn (I : Inv X pins σ H s) : X.K.In s.heap := I.ok.mod.kin.keeps I.bk
theorem Inv.lt (I : Inv X pins σ H s) : X.env.locals < s.heap.objs.size := let ⟨_, hn, _⟩ := I.loc; hn.lt
theorem Inv.sz (I : Inv X pins σ H s) : X.s₀.heap.objs.size ≤ s.heap.objs.size := Nat.le_trans I.ok.above (Nat.le_of_lt I.lt)
theorem Inv.nofs (I : Inv X pins σ H s) {a : Addr} (h : s.heap.objs.size ≤ a) : a ∉ X.fs := fun hb => by
  obtain ⟨_, o, ho, _⟩ := I.ok.funs.mem hb
  exact absurd (Nat.lt_of_lt_of_le (Heap.lt_size ho) (Nat.le_trans I.sz h)) (Nat.lt_irrefl _)
theorem Inv.cne (I : Inv X pins σ H s) : ∀ x c, X.env.cells.lookup x = some c → c ≠ X.env.locals := fun x c e z => by
  obtain ⟨v, o, ho, hd⟩ := I.cell x c e
  obtain ⟨m, ⟨o', es, ep, ho', hd', _⟩, _⟩ := I.loc
  rw [z, ho'] at ho; cases ho; rw [hd'] at hd; cases hd
theorem Inv.funs (I : Inv X pins σ H s) : s.heap.FunFrames X.base X.outer := by
  have all : ∀ (l : List Env), (∀ b ∈ frs l, b ∈ X.fs) → X.s₀.heap.FunFrames X.base l → s.heap.FunFrames X.base l := by
    intro l
    induction l with
    | nil => intro _ _; trivial
    | cons env r ih =>
      intro hs hl
      obtain ⟨hk, ⟨L, o, hf, hn, ho, hd⟩, hr⟩ := hl
      have hL : L ∈ X.fs := hs L (by unfold frs; rw [List.filterMap_cons, hf]; exact List.mem_cons_self)
      obtain ⟨sl, e⟩ := I.base.slot L o ho (I.ok.frf L hL) hL fun z => I.ok.exfs L z hL
      exact ⟨hk, ⟨L, _, hf, hn, e, hd⟩, ih (fun b hb => hs b (by unfold frs; rw [List.filterMap_cons, hf]; exact List.mem_cons_of_mem _ hb)) hr⟩
  exact all X.outer (fun _ hb => hb) I.ok.funs
theorem Inv.stack (I : Inv X pins σ H s) : s.heap.FunFrames X.base X.stack := by
  rcases I.ok.stk with e | ⟨e, hf⟩
  · rw [e]; exact I.funs
  · rw [e]
    obtain ⟨m, hn, _⟩ := I.loc
    refine .cons (by rw [I.ok.kind]; decide) hf hn ?_ I.funs
    exact Heap.get?_none_of_le (Nat.le_trans I.ok.bsz I.ok.above)
theorem Inv.stkSub (I : Inv X pins σ H s) : ∀ b ∈ frs X.stack, b ∈ X.env.locals :: X.fs := fun b hb => by
  rcases I.ok.stk with e | ⟨e, hf⟩
  · rw [e] at hb; exact List.mem_cons_of_mem _ hb
  · rw [e] at hb
    unfold frs at hb
    rw [List.filterMap_cons, hf] at hb
    exact hb
theorem Inv.stkFree (I : Inv X pins σ H s) : ∀ b ∈ frs X.stack, H b = none := fun b hb => by
  rcases List.mem_cons.mp (I.stkSub b hb) with e | hb
  · rw [e]; exact I.free
  · obtain ⟨_, o, ho, _⟩ := I.ok.funs.mem hb
    exact I.base.free b o ho (I.ok.frf b hb) fun z => I.ok.exfs b z hb
theorem Inv.step {g' : Array GenState} {t' : Nat} {d' : Drawn} {ch : List Addr} (I : Inv X pins σ H s)
    (hch : ∀ b ∈ ch, (b ∈ X.ex ∨ X.s₀.heap.objs.size ≤ b) ∧ b ≠ X.env.locals ∧ (∀ x c, X.env.cells.lookup x = some c → c ≠ b) ∧ ∀ p ∈ X.pn ++ pins, p.1 ≠ b)
    (keep : ∀ b o, b ≠ X.env.locals → b ∉ X.fs → b ∉ ch → s.heap.get? b = some o → H b = none → h'.get? b = some o)
    (slot : ∀ b o, b ≠ X.env.locals → b ∈ X.fs → b ∉ ch → s.heap.get? b = some o → H b = none → ∃ sl, h'.get? b = some { o with slots := sl }) (free : ∀ b o, b ∉ ch → s.heap.get? b = some o → H b = none → H' b = none)
    (there : ∀ b o, b ∉ ch → s.heap.get? b = some o → ∃ o', h'.get? b = some o')
    (tups : ∀ b xs, H b = some (.tup xs) → H' b = some (.tup xs)) (frzs : ∀ b o u, H b = some (.frz o u) → H' b = some (.frz o u)) (tbls : ∀ b ps, H b = some (.tbl ps) → ∃ more, H' b = some (.tbl (ps ++ more)))
    (ns : ∀ m, s.heap.Ns X.env.locals m → h'.Ns X.env.locals m) (hok : HOk X.prog X.w H' h') (hg : AllBare g') :
    Inv X pins σ H' { s with heap := h', gens := g', drawn := d', toks := t' } := by
  have neL : ∀ b o, X.s₀.heap.get? b = some o → b ≠ X.env.locals := fun b o e => Nat.ne_of_lt (Nat.lt_of_lt_of_le (Heap.lt_size e) I.ok.above)
  have neC : ∀ b o, X.s₀.heap.get? b = some o → b ∉ X.ex → b ∉ ch := fun b o e hx hb => by
    rcases (hch b hb).1 with z | z
    · exact hx z
    · exact absurd (Nat.lt_of_lt_of_le (Heap.lt_size e) z) (Nat.lt_irrefl _)
  have cellK : ∀ x c, X.env.cells.lookup x = some c → ∀ v, s.heap.IsCell c v → h'.IsCell c v := fun x c e v ⟨o, ho, hd⟩ => by
    have nch : c ∉ ch := fun z => (hch c z).2.2.1 x c e rfl
    rcases I.freeC x c e with fc | ⟨_, of, hf⟩
    · by_cases hc : c ∈ X.fs
      · obtain ⟨sl, q⟩ := slot c o (I.cne x c e) hc nch ho fc
        exact ⟨_, q, hd⟩
      · exact ⟨o, keep c o (I.cne x c e) hc nch ho fc, hd⟩
    · obtain ⟨e1, _⟩ := I.hok c _ hf
      obtain ⟨e2, _⟩ := hok c _ (frzs c _ _ hf)
      rw [ho] at e1; cases e1
      exact ⟨o, e2, hd⟩
  refine ⟨I.ok, I.os, hg, ⟨fun b o e n hb hx => ?_, fun b o e n hb hx => ?_, fun b o e n hx => ?_, fun b o e hx => ?_, fun b xs e => tups b xs (I.base.tups b xs e), fun b o xs e => frzs b o xs (I.base.frzs b o xs e), fun b ps e => ?_⟩, ?_, fun x c e => ?_, ?_, fun x c e => ?_, fun p hp => ?_, hok, I.len⟩
  · exact keep b o (neL b o e) hb (neC b o e hx) (I.base.keep b o e n hb hx) (I.base.free b o e n hx)
  · obtain ⟨sl, e1⟩ := I.base.slot b o e n hb hx
    obtain ⟨sl', e2⟩ := slot b _ (neL b o e) hb (neC b o e hx) e1 (I.base.free b o e n hx)
    exact ⟨sl', e2⟩
  · obtain ⟨o', e1⟩ := I.base.there b o e hx
    exact free b o' (neC b o e hx) e1 (I.base.free b o e n hx)
  · obtain ⟨o', e1⟩ := I.base.there b o e hx
    exact there b o' (neC b o e hx) e1
  · obtain ⟨m1, e1⟩ := I.base.tbls b ps e
    obtain ⟨m2, e2⟩ := tbls b _ e1
    exact ⟨m1 ++ m2, by rw [e2, Array.append_assoc]⟩
  · obtain ⟨m, hn, hl⟩ := I.loc
    refine ⟨m, ns m hn, fun i x v e1 e2 e3 => ?_⟩
    obtain ⟨u, r, l⟩ := hl i x v e1 e2 e3
    refine ⟨u, r, ?_⟩
    rcases l with l | ⟨k, c, e, z⟩
    · exact .inl l
    · exact .inr ⟨k, c, e, cellK x c e _ z⟩
  · obtain ⟨v, z⟩ := I.cell x c e
    exact ⟨v, cellK x c e v z⟩
  · obtain ⟨m, ⟨o, _, _, ho, _⟩, _⟩ := I.loc
    exact free _ o (fun z => (hch _ z).2.1 rfl) ho I.free
  · obtain ⟨v, o, ho, hd⟩ := I.cell x c e
    rcases I.freeC x c e with fc | ⟨fn0, of, hf⟩
    · exact .inl (free c o (fun z => (hch c z).2.2.1 x c e rfl) ho fc)
    · exact .inr ⟨fn0, of, frzs c _ _ hf⟩
  · obtain ⟨e, n, ne, nf, d⟩ := I.pin p hp
    have nch : p.1 ∉ ch := fun z => (hch p.1 z).2.2.2 p hp rfl
    exact ⟨keep p.1 p.2 ne nf nch e n, free p.1 p.2 nch e n, ne, nf, d⟩
theorem Inv.un {t' : Nat} (I : Inv X pins σ H s) (u : Un X.fs [] H H' s.heap h') (hok : HOk X.prog X.w H' h') : Inv X pins σ H' { s with heap := h', toks := t' } := by
  obtain ⟨m, ⟨o, es, ep, ho, r⟩, _⟩ := id I.loc
  obtain ⟨sl, hL⟩ := u.any ho I.free (by simp)
  exact I.step (g' := s.gens) (d' := s.drawn) (ch := []) (fun _ z => nomatch z) (fun b o _ hb _ e n => u.keep b o e n hb (by simp)) (fun b o _ hb _ e n => u.slot b o e n hb (by simp)) (fun b o _ e n => u.free b o e n (by simp)) (fun b o _ e => u.there b o e (by simp)) u.tups u.frzs u.tbls (fun m' hm => by
    obtain ⟨o', es', ep', ho', r'⟩ := hm
    rw [ho] at ho'; cases ho'
    exact ⟨_, es', ep', hL, r'⟩) hok I.bare
theorem Inv.call {g' : Array GenState} {t' : Nat} {d' : Drawn} {ch : List Addr} (I : Inv X pins σ H s) (u : Un (frs X.stack) ch H H' s.heap h') (hok : HOk X.prog X.w H' h') (hg : AllBare g')
    (hch : ∀ b ∈ ch, (b ∈ X.ex ∨ X.s₀.heap.objs.size ≤ b) ∧ b ≠ X.env.locals ∧ (∀ x c, X.env.cells.lookup x = some c → c ≠ b) ∧ ∀ p ∈ X.pn ++ pins, p.1 ≠ b) :
    Inv X pins σ H' { s with heap := h', gens := g', drawn := d', toks := t' } := by
  obtain ⟨m, ⟨o, es, ep, ho, r⟩, _⟩ := id I.loc
  obtain ⟨sl, hL⟩ := u.any ho I.free fun z => (hch _ z).2.1 rfl
  exact I.step (ch := ch) hch (fun b o hL hb hc e n => u.keep b o e n (fun z => (List.mem_cons.mp (I.stkSub b z)).elim hL hb) hc) (fun b o _ _ hc e n => u.any e n hc) (fun b o hc e n => u.free b o e n hc) (fun b o hc e => u.there b o e hc) u.tups u.frzs u.tbls (fun m' hm => by
    obtain ⟨o', es', ep', ho', r'⟩ := hm
    rw [ho] at ho'; cases ho'
    exact ⟨_, es', ep', hL, r'⟩) hok hg
theorem Inv.turned {t' : Nat} {it : Addr} (I : Inv X pins σ H s) (k : ∀ b o, b ≠ it → s.heap.get? b = some o → h'.get? b = some o) (hn : H it = none) (hL : it ≠ X.env.locals)
    (h1 : it ∈ X.ex ∨ X.s₀.heap.objs.size ≤ it) (h2 : ∀ x c, X.env.cells.lookup x = some c → c ≠ it) (h3 : ∀ p ∈ X.pn ++ pins, p.1 ≠ it) : Inv X pins σ H { s with heap := h', toks := t' } := by
  have nit : ∀ b u, H b = some u → b ≠ it := fun b u e z => by rw [z, hn] at e; cases e
  refine I.step (g' := s.gens) (d' := s.drawn) (ch := [it]) (fun b hb => ?_) (fun b o _ _ hc e _ => k b o (fun z => hc (by simp [z])) e) (fun b o _ _ hc e _ => ⟨o.slots, k b o (fun z => hc (by simp [z])) e⟩) (fun _ _ _ _ n => n)
    (fun b o hc e => ⟨o, k b o (fun z => hc (by simp [z])) e⟩) (fun _ _ e => e) (fun _ _ _ e => e) (fun b ps e => ⟨#[], by rw [e]; simp⟩) (fun m hm => ?_) (fun b u e => ?_) I.bare
  · have e : b = it := by simpa using hb
    subst e
    exact ⟨h1, hL, h2, h3⟩
  · obtain ⟨o, es, ep, ho, r⟩ := hm
    exact ⟨o, es, ep, k _ o (Ne.symm hL) ho, r⟩
  · refine (I.hok b u e).stay (fun c v hc q => k c v ?_ q) (fun _ q => q) fun _ _ q => q
    rcases hc with z | z
    · rw [z]; exact nit b u e
    · exact nit c _ z
theorem Inv.tok (I : Inv X pins σ H s) (t : Nat) : Inv X pins σ H { s with toks := t } := I.un (h' := s.heap) (t' := t) Un.refl I.hok
theorem Inv.kept {t' : Nat} (I : Inv X pins σ H s) (k : ∀ b u, s.heap.get? b = some u → h'.get? b = some u) : Inv X pins σ H { s with heap := h', toks := t' } := I.un (Un.kept k) (I.hok.kept k)
theorem Inv.laid {a : Addr} {o : HO} {t' : Nat} (I : Inv X pins σ H s) (k : ∀ b u, s.heap.get? b = some u → h'.get? b = some u) (hp : s.heap.objs.size ≤ a) (new : ObjOk X.prog X.w (upd H a o) h' a o) :
    Inv X pins σ (upd H a o) { s with heap := h', toks := t' } := I.un (Un.laid k hp (I.hok.fresh hp)) (I.hok.laid k hp new)
theorem Inv.write {x e : Addr} {o : HO} {t' : Nat} (I : Inv X pins σ H s) (mu : Mut (H x)) (he : e = x ∨ H e = some (.own x)) (k : ∀ b u, b ≠ e → s.heap.get? b = some u → h'.get? b = some u) (heo : ∃ u, h'.get? e = some u)
    (new : ObjOk X.prog X.w (upd H x o) h' x o) : Inv X pins σ (upd H x o) { s with heap := h', toks := t' } := I.un (Un.write mu he k heo) (I.hok.write mu he k heo new)
theorem Inv.pins_of {pins' : List (Addr × Obj)} (I : Inv X pins σ H s) (h : ∀ p ∈ pins', s.heap.get? p.1 = some p.2 ∧ H p.1 = none ∧ p.1 ≠ X.env.locals ∧ p.1 ∉ X.fs ∧ ∀ v, p.2.data ≠ .cell v) : Inv X pins' σ H s :=
  ⟨I.ok, I.os, I.bare, I.base, I.loc, I.cell, I.free, I.freeC, fun p hp => (List.mem_append.mp hp).elim (fun z => I.pin p (List.mem_append_left _ z)) (h p), I.hok, I.len⟩
theorem nodup_ix {N : List Str} (hN : N.Nodup) {i j : Nat} {x : Str} (a : N[i]? = some x) (b : N[j]? = some x) : i = j := by
  obtain ⟨h1, e1⟩ := List.getElem?_eq_some_iff.mp a
  obtain ⟨h2, e2⟩ := List.getElem?_eq_some_iff.mp b
  exact (List.getElem_inj hN).mp (e1.trans e2.symm)
theorem store_ok2 {M : Model} {A : Around} {E : Value → Shared → Prop} {i : Nat} {x : Str} {v : V} {u : Value} {Q : Unit → Shared → Prop} (I : Inv X pins σ H s) (hN : X.N.Nodup) (hi : X.N[i]? = some x) (hx : Loc X.env.scope x) (r : RelV v u)
    (h : ∀ s', Inv X pins (σ.set i (some v)) H s' → (∃ a, Heap.SameBut a s.heap s'.heap ∧ (a = X.env.locals ∨ X.env.cells.lookup x = some a)) → Q () s') (hf : X.fn x = true ∨ X.env.scope.names.lookup x = some .local := by first | exact .inl rfl | exact .inr rfl | assumption) : wpAny M A (storeName X.env x u) Q E s := by
  obtain ⟨m, hn, hl⟩ := id I.loc
  have hcls : (X.env.scope.kind == .class || (X.env.scope.kind == .module && X.env.locals != X.env.globals)) = false := by rw [I.ok.kind]; rfl
  have hiσ : i < σ.length := by rw [I.len]; exact (List.getElem?_eq_some_iff.mp hi).1
  have cne := I.cne
  have tracked : ∀ {a : Addr} {h' : Heap}, (∃ o, s.heap.get? a = some o ∧ H a = none) → Heap.SameBut a s.heap h' → HOk X.prog X.w H h' := fun {a h'} ha hs b ob e => by
    obtain ⟨_, _, hfree⟩ := ha
    refine (I.hok b ob e).stay (fun c w' hc q => (hs.2 c ?_).trans q) (fun _ q => q) fun _ _ q => q
    rintro rfl
    rcases hc with rfl | hc
    · rw [hfree] at e; cases e
    · rw [hfree] at hc; cases hc
  rcases hx with hk | hk
  · refine wpAny_storeName_local hk hn (fun h' hn' hs => ?_) hcls
    obtain ⟨oL, _, _, hoL, _⟩ := id hn
    refine h _ ⟨I.ok, I.os, I.bare, ⟨fun b o e n hb hx => ?_, fun b o e n hb hx => ?_, I.base.free, fun b o e hx => ?_, I.base.tups, I.base.frzs, I.base.tbls⟩, ⟨_, hn', fun j y v' e1 e2 e3 => ?_⟩, fun y c e => ?_, I.free, I.freeC, fun p hp => ?_, tracked ⟨oL, hoL, I.free⟩ hs, by simpa using I.len⟩ ⟨_, hs, .inl rfl⟩
    · exact (hs.2 b (Nat.ne_of_lt (Nat.lt_of_lt_of_le (Heap.lt_size e) I.ok.above))).trans (I.base.keep b o e n hb hx)
    · obtain ⟨sl, e1⟩ := I.base.slot b o e n hb hx
      exact ⟨sl, (hs.2 b (Nat.ne_of_lt (Nat.lt_of_lt_of_le (Heap.lt_size e) I.ok.above))).trans e1⟩
    · obtain ⟨o', e1⟩ := I.base.there b o e hx
      exact ⟨o', (hs.2 b (Nat.ne_of_lt (Nat.lt_of_lt_of_le (Heap.lt_size e) I.ok.above))).trans e1⟩
    · by_cases hj : j = i
      · subst hj
        rw [hi] at e1; cases e1
        rw [List.getElem?_set_self hiσ] at e2
        cases e2
        exact ⟨u, r, .inl ⟨hk, by simp⟩⟩
      · rw [List.getElem?_set_ne (Ne.symm hj)] at e2
        obtain ⟨u', r', q⟩ := hl j y v' e1 e2 e3
        refine ⟨u', r', ?_⟩
        rcases q with ⟨k, e⟩ | ⟨k, c, e, z⟩
        · refine .inl ⟨k, ?_⟩
          have : y ≠ x := fun e => hj (nodup_ix hN e1 (e ▸ hi))
          simp [this, e]
        · exact .inr ⟨k, c, e, z.sameBut hs (cne y c e)⟩
    · obtain ⟨w', z⟩ := I.cell y c e
      exact ⟨w', z.sameBut hs (cne y c e)⟩
    · obtain ⟨e, n, ne, nf, d⟩ := I.pin p hp
      exact ⟨(hs.2 p.1 ne).trans e, n, ne, nf, d⟩
  · have hfn : X.fn x = true := by
      rcases hf with z | z
      · exact z
      · rw [z] at hk; cases hk
    obtain ⟨c, hc⟩ := I.ok.has x (.inl hk)
    obtain ⟨w', z⟩ := I.cell x c hc
    refine wpAny_storeName_cell I.ok.kind hk hc z (fun h' hc' hs => ?_)
    obtain ⟨oc, hoc, hocd⟩ := id z
    refine h { s with heap := h' } ⟨I.ok, I.os, I.bare, ⟨fun b o e n hb hx => ?_, fun b o e n hb hx => ?_, I.base.free, fun b o e hx => ?_, I.base.tups, I.base.frzs, I.base.tbls⟩, ⟨m, hn.sameBut hs (Ne.symm (cne x c hc)), fun j y v' e1 e2 e3 => ?_⟩, fun y c' e => ?_, I.free, I.freeC, fun p hp => ?_, tracked ⟨oc, hoc, (I.freeC x c hc).resolve_right fun z => by rw [hfn] at z; cases z.1⟩ hs, by simpa using I.len⟩ ⟨c, hs, .inr hc⟩
    · exact (hs.2 b (Nat.ne_of_lt (Nat.lt_of_lt_of_le (Heap.lt_size e) (I.ok.cab x c hfn hc)))).trans (I.base.keep b o e n hb hx)
    · obtain ⟨sl, e1⟩ := I.base.slot b o e n hb hx
      exact ⟨sl, (hs.2 b (Nat.ne_of_lt (Nat.lt_of_lt_of_le (Heap.lt_size e) (I.ok.cab x c hfn hc)))).trans e1⟩
    · obtain ⟨o', e1⟩ := I.base.there b o e hx
      exact ⟨o', (hs.2 b (Nat.ne_of_lt (Nat.lt_of_lt_of_le (Heap.lt_size e) (I.ok.cab x c hfn hc)))).trans e1⟩
    · by_cases hj : j = i
      · subst hj
        rw [hi] at e1; cases e1
        rw [List.getElem?_set_self hiσ] at e2
        cases e2
        exact ⟨u, r, .inr ⟨.inl hk, c, hc, hc'⟩⟩
      · rw [List.getElem?_set_ne (Ne.symm hj)] at e2
        obtain ⟨u', r', q⟩ := hl j y v' e1 e2 e3
        refine ⟨u', r', ?_⟩
        rcases q with q | ⟨k, c', e, z'⟩
        · exact .inl q
        · refine .inr ⟨k, c', e, z'.sameBut hs ?_⟩
          rintro rfl
          exact hj (nodup_ix hN e1 (I.ok.inj _ _ _ e hc ▸ hi))
    · by_cases hcc : c' = c
      · subst hcc; exact ⟨_, hc'⟩
      · obtain ⟨w2, z2⟩ := I.cell y c' e
        exact ⟨w2, z2.sameBut hs hcc⟩
    · obtain ⟨e, n, ne, nf, d⟩ := I.pin p hp
      refine ⟨(hs.2 p.1 ?_).trans e, n, ne, nf, d⟩
      intro q
      rw [q, hoc] at e
      have q' : oc = p.2 := Option.some.inj e
      exact d w' (by rw [← q']; exact hocd)
theorem store_ok {M : Model} {A : Around} {E : Value → Shared → Prop} {i : Nat} {x : Str} {v : V} {u : Value} {Q : Unit → Shared → Prop} (I : Inv X pins σ H s) (hN : X.N.Nodup) (hi : X.N[i]? = some x) (hx : Loc X.env.scope x) (r : RelV v u)
    (h : ∀ s', Inv X pins (σ.set i (some v)) H s' → Q () s') (hf : X.fn x = true ∨ X.env.scope.names.lookup x = some .local := by first | exact .inl rfl | exact .inr rfl | assumption) : wpAny M A (storeName X.env x u) Q E s :=
  store_ok2 I hN hi hx r (fun s' I' _ => h s' I') hf
theorem Inv.call' {s' : Shared} {ch : List Addr} (I : Inv X pins σ H s) (ho : s'.os = s.os) (u : Un (frs X.stack) ch H H' s.heap s'.heap) (hok : HOk X.prog X.w H' s'.heap) (hg : AllBare s'.gens)
    (hch : ∀ b ∈ ch, (b ∈ X.ex ∨ X.s₀.heap.objs.size ≤ b) ∧ b ≠ X.env.locals ∧ (∀ x c, X.env.cells.lookup x = some c → c ≠ b) ∧ ∀ p ∈ X.pn ++ pins, p.1 ≠ b) : Inv X pins σ H' s' := by
  obtain ⟨h', g', d', t', o'⟩ := s'
  have e : o' = s.os := ho
  subst e
  exact I.call (g' := g') (t' := t') (d' := d') u hok hg hch
end
abbrev XK := Value → Option Addr → Hp → Prop
abbrev St := List (Option V)
abbrev VK := V → Hp → Prop
abbrev TE := St → Hp → VK → Prop
abbrev TT := St → Hp → (Bool → Hp → Prop) → Prop
abbrev TA := St → Hp → (List V → Hp → Prop) → Prop
structure Ends where
  nx : St → Hp → Prop
  rt : VK
  bk : St → Hp → Prop := fun _ _ => False
  ct : St → Hp → Prop := fun _ _ => False
abbrev TS := Ends → St → Hp → Prop
def EP (X : Cx) (pins : List (Addr × Obj)) (σ : St) (Q : VK) (u : Value) (s' : Shared) : Prop := ∃ v H', Inv X pins σ H' s' ∧ RelV v u ∧ Q v H'
def TP (X : Cx) (pins : List (Addr × Obj)) (σ : St) (Q : Bool → Hp → Prop) (b : Bool) (s' : Shared) : Prop := ∃ H', Inv X pins σ H' s' ∧ Q b H'
def AP (X : Cx) (pins : List (Addr × Obj)) (σ : St) (Q : List V → Hp → Prop) (us : List Value) (s' : Shared) : Prop := ∃ vs H', Inv X pins σ H' s' ∧ Vals vs us ∧ Q vs H'
def SP (X : Cx) (pins : List (Addr × Obj)) (D : Ends) (f : Flow) (s' : Shared) : Prop :=
  match f with
  | .next => ∃ σ' H', Inv X pins σ' H' s' ∧ D.nx σ' H'
  | .brk => ∃ σ' H', Inv X pins σ' H' s' ∧ D.bk σ' H'
  | .cont => ∃ σ' H', Inv X pins σ' H' s' ∧ D.ct σ' H'
  | .ret u => ∃ v σ' H', Inv X pins σ' H' s' ∧ RelV v u ∧ D.rt v H'
def PE (X : Cx) (e : Expr) (t : TE) : Prop :=
  ∀ (pins : List (Addr × Obj)) (s : Shared) (σ : St) (H : Hp) (Q : VK), Inv X pins σ H s → t σ H Q → wpAny (model X.prog X.w) X.A (eval e X.env) (EP X pins σ Q) X.xe s
def PT (X : Cx) (e : Expr) (t : TT) : Prop :=
  ∀ (pins : List (Addr × Obj)) (s : Shared) (σ : St) (H : Hp) (Q : Bool → Hp → Prop), Inv X pins σ H s → t σ H Q → wpAny (model X.prog X.w) X.A (isTrue e X.env (eval e X.env)) (TP X pins σ Q) X.xe s
def PW (X : Cx) (e : Expr) (t : TT) : Prop :=
  ∀ (whole : Sem Value) (pins : List (Addr × Obj)) (s : Shared) (σ : St) (H : Hp) (Q : Bool → Hp → Prop), Inv X pins σ H s → t σ H Q → wpAny (model X.prog X.w) X.A (isTrue e X.env whole) (TP X pins σ Q) X.xe s
theorem PW.pt {X : Cx} {e : Expr} {t : TT} (h : PW X e t) : PT X e t := h _
def PA (X : Cx) (es : List Expr) (t : TA) : Prop :=
  ∀ (pos : Pos) (pins : List (Addr × Obj)) (s : Shared) (σ : St) (H : Hp) (Q : List V → Hp → Prop), Inv X pins σ H s → t σ H Q → wpAny (model X.prog X.w) X.A (spliced (backTo pos (starEach es X.env))) (AP X pins σ Q) X.xe s
def PS (X : Cx) (st : Stmt) (t : TS) : Prop :=
  ∀ (pins : List (Addr × Obj)) (s : Shared) (σ : St) (H : Hp) (D : Ends), Inv X pins σ H s → t D σ H → wpAny (model X.prog X.w) X.A (exec st X.env) (SP X pins D) X.xe s
def PSs (X : Cx) (st : List Stmt) (t : TS) : Prop :=
  ∀ (pins : List (Addr × Obj)) (s : Shared) (σ : St) (H : Hp) (D : Ends), Inv X pins σ H s → t D σ H → wpAny (model X.prog X.w) X.A (execs st X.env) (SP X pins D) X.xe s
theorem thn {α : Type} {t : Sem α} {Q Q' : α → Shared → Prop} {M : Model} {A : Around} {E : Value → Shared → Prop} {s : Shared} (h : wpAny M A t Q E s) (hQ : ∀ a s, Q a s → Q' a s) : wpAny M A t Q' E s := wpAny_mono h hQ fun _ _ x => x
end L2
namespace L2
open PySem PySem.Spec PyProof.Rows
section
variable {X : Cx}
def tVar (i : Nat) : TE := fun σ H Q => ∃ v, σ[i]? = some (some v) ∧ Q v H
def tC (v : V) : TE := fun _ H Q => Q v H
theorem pe_var {i : Nat} {x : Str} {pos : Pos} (hN : X.N[i]? = some x) (hv : Vis X.env.scope x) (hd : (x == ("__debug__" : Str)) = false := by decide) (hcd : (x == ("__classdict__" : Str)) = false := by decide) : PE X (.Name x pos) (tVar i) := by
  intro pins s σ H Q I h
  obtain ⟨v, e, h⟩ := h
  obtain ⟨m, hn, hl⟩ := I.loc
  obtain ⟨u, r, l⟩ := hl i x v hN e hv
  have fin : EP X pins σ Q u s := ⟨v, H, I, r, h⟩
  rcases l with ⟨hk, hm⟩ | ⟨hk, c, hc, hcell⟩
  · exact wpAny_Name (wpAny_loadName_local I.ok.kind hk hn hm fin) hd
  · rcases hk with hk | hk
    · exact wpAny_Name (wpAny_loadName_cell I.ok.kind hk hc hcell fin) hd
    · exact wpAny_Name (wpAny_loadName_free I.ok.kind hk hc hcell fin hcd) hd
theorem pe_int {i j pos} : PE X (.Constant (.int i) j pos) (tC (.int i)) := fun _ _ _ H _ I h => wpAny_Constant_int ⟨.int i, H, I.tok _, ⟨_, rfl⟩, h⟩
theorem pe_bl {b j pos} : PE X (.Constant (.bool b) j pos) (tC (.bl b)) := fun _ _ _ H _ I h => Constant_bool ⟨.bl b, H, I, rfl, h⟩
theorem pe_non {j pos} : PE X (.Constant .none j pos) (tC .non) := fun _ _ _ H _ I h => Constant_none ⟨.non, H, I, rfl, h⟩
theorem pe_str {x j pos} : PE X (.Constant (.str x) j pos) (tC (.str x)) := fun _ _ _ H _ I h => Calls.Constant_str ⟨.str x, H, I.tok _, ⟨_, rfl⟩, h⟩
def Gl (X : Cx) (x : Str) : Prop := X.env.kindOf x = some .globalImplicit
theorem ld_glob {E : Value → Shared → Prop} {pins : List (Addr × Obj)} {s : Shared} {σ : St} {H : Hp} {x : Str} {u : Value} {pos : Pos} {Q : Value → Shared → Prop} (I : Inv X pins σ H s) (hg : Gl X x) (hm : X.mg x = some u) (h : Q u s)
    (hd : (x == ("__debug__" : Str)) = false := by decide) : wpAny (model X.prog X.w) X.A (eval (.Name x pos) X.env) Q E s :=
  Calls.Name_function_global I.ok.kind hg (Calls.loadGlobal_global (by rw [I.ok.glob]; exact I.mod.glob.keeps I.bk) hm h) hd
theorem ld_blt {E : Value → Shared → Prop} {pins : List (Addr × Obj)} {s : Shared} {σ : St} {H : Hp} {x : Str} {u : Value} {pos : Pos} {Q : Value → Shared → Prop} (I : Inv X pins σ H s) (hg : Gl X x) (hm : X.mg x = none) (hv : bootBuiltins x = some u) (h : Q u s)
    (hn : x ≠ "__name__" := by decide) (hd : (x == ("__debug__" : Str)) = false := by decide) : wpAny (model X.prog X.w) X.A (eval (.Name x pos) X.env) Q E s := by
  obtain ⟨mb, h1, h2⟩ := I.mod.blt
  exact Calls.Name_function_global I.ok.kind hg (Calls.loadGlobal_builtin (by rw [I.ok.glob]; exact I.mod.glob.keeps I.bk) hm (by rw [I.ok.blt]; exact h1.keeps I.bk) ((h2 x hn).trans hv) h) hd
theorem pe_glob {x : Str} {v : V} {u : Value} {pos : Pos} (hg : Gl X x) (hm : X.mg x = some u) (r : RelV v u) (hd : (x == ("__debug__" : Str)) = false := by decide) : PE X (.Name x pos) (tC v) :=
  fun _ _ _ H _ I h => ld_glob I hg hm ⟨v, H, I, r, h⟩ hd
theorem pe_bltn {x : Str} {v : V} {u : Value} {pos : Pos} (hg : Gl X x) (hm : X.mg x = none) (hv : bootBuiltins x = some u) (r : RelV v u) (hn : x ≠ "__name__" := by decide) (hd : (x == ("__debug__" : Str)) = false := by decide) : PE X (.Name x pos) (tC v) :=
  fun _ _ _ H _ I h => ld_blt I hg hm hv ⟨v, H, I, r, h⟩ hn hd
variable {a b : Expr} {ta tb : TE} {pos : Pos}
def tB (t : TE) : TT := fun σ H Q => t σ H fun x H1 => ∃ c, x = .bl c ∧ Q c H1
theorem pt_val {e : Expr} {t : TE} (h : PE X e t) (he : ∀ whole, isTrue e X.env whole = (do let v ← whole; standAt e.pos; holding [v] (truthy v)) := by intro _; rfl) : PT X e (tB t) := by
  intro pins s σ H Q I hw
  refine isTrue_plain (thn (h pins s σ H _ I hw) fun v s1 ⟨x, H1, I1, r1, q1⟩ => ?_) (he _)
  obtain ⟨d, rfl, q⟩ := q1
  cases r1
  exact wpAny_truthy_bool ⟨H1, I1, q⟩
variable {tA tB' : TT} {rest : List Expr}
def tAnd (t u : TT) : TT := fun σ H Q => t σ H fun c H1 => if c = true then u σ H1 Q else Q false H1
def tOr (t u : TT) : TT := fun σ H Q => t σ H fun c H1 => if c = true then Q true H1 else u σ H1 Q
def tNot (t : TT) : TT := fun σ H Q => t σ H fun c H1 => Q (!c) H1
theorem pw_and1 (ha : PT X a tA) : PW X (.BoolOp .And [a] pos) tA := by
  intro wh pins s σ H Q I h
  refine isTrue_and (thn (ha pins s σ H Q I h) fun c s1 e => ?_)
  cases c with
  | true => exact isTrue_and_nil e
  | false => exact e
theorem pw_or1 (ha : PT X a tA) : PW X (.BoolOp .Or [a] pos) tA := by
  intro wh pins s σ H Q I h
  refine isTrue_or (thn (ha pins s σ H Q I h) fun c s1 e => ?_)
  cases c with
  | false => exact isTrue_or_nil e
  | true => exact e
theorem pw_and (ha : PT X a tA) (hb : PW X (.BoolOp .And (b :: rest) pos) tB') : PW X (.BoolOp .And (a :: b :: rest) pos) (tAnd tA tB') := by
  intro wh pins s σ H Q I h
  refine isTrue_and (thn (ha pins s σ H _ I h) fun c s1 ⟨H1, I1, q1⟩ => ?_)
  cases c with
  | true => exact hb wh pins s1 σ H1 Q I1 q1
  | false => exact ⟨H1, I1, q1⟩
theorem pw_or (ha : PT X a tA) (hb : PW X (.BoolOp .Or (b :: rest) pos) tB') : PW X (.BoolOp .Or (a :: b :: rest) pos) (tOr tA tB') := by
  intro wh pins s σ H Q I h
  refine isTrue_or (thn (ha pins s σ H _ I h) fun c s1 ⟨H1, I1, q1⟩ => ?_)
  cases c with
  | true => exact ⟨H1, I1, q1⟩
  | false => exact hb wh pins s1 σ H1 Q I1 q1
theorem pt_not (ha : PT X a tA) : PT X (.UnaryOp .Not a pos) (tNot tA) := by
  intro pins s σ H Q I h
  exact isTrue_not (ha pins s σ H (fun c H1 => Q (!c) H1) I h)
def tAndV (ta tb : TE) : TE := fun σ H Q => ta σ H fun x H1 => ∃ c, x = .bl c ∧ if c = true then tb σ H1 Q else Q (.bl false) H1
def tOrV (ta tb : TE) : TE := fun σ H Q => ta σ H fun x H1 => ∃ c, x = .bl c ∧ if c = true then Q (.bl true) H1 else tb σ H1 Q
def tNotV (ta : TE) : TE := fun σ H Q => ta σ H fun x H1 => ∃ c, x = .bl c ∧ Q (.bl (!c)) H1
theorem pe_one {op} {t : TE} (h : PE X a t) : PE X (.BoolOp op [a] pos) t := fun pins s σ H Q I hw => BoolOp_one (h pins s σ H Q I hw)
theorem pe_and (ha : PE X a ta) (hb : PE X (.BoolOp .And (b :: rest) pos) tb) : PE X (.BoolOp .And (a :: b :: rest) pos) (tAndV ta tb) := by
  intro pins s σ H Q I h
  refine BoolOp_and (thn (ha pins s σ H _ I h) fun v s1 ⟨x, H1, I1, r1, q1⟩ => ?_)
  obtain ⟨c, rfl, q1⟩ := q1
  cases r1
  refine wpAny_truthy_bool ?_
  cases c with
  | true => exact hb pins s1 σ H1 Q I1 q1
  | false => exact ⟨.bl false, H1, I1, rfl, q1⟩
theorem pe_or (ha : PE X a ta) (hb : PE X (.BoolOp .Or (b :: rest) pos) tb) : PE X (.BoolOp .Or (a :: b :: rest) pos) (tOrV ta tb) := by
  intro pins s σ H Q I h
  refine BoolOp_or (thn (ha pins s σ H _ I h) fun v s1 ⟨x, H1, I1, r1, q1⟩ => ?_)
  obtain ⟨c, rfl, q1⟩ := q1
  cases r1
  refine wpAny_truthy_bool ?_
  cases c with
  | false => exact hb pins s1 σ H1 Q I1 q1
  | true => exact ⟨.bl true, H1, I1, rfl, q1⟩
theorem pe_not (ha : PE X a ta) : PE X (.UnaryOp .Not a pos) (tNotV ta) := by
  intro pins s σ H Q I h
  refine UnaryOp_ (thn (ha pins s σ H _ I h) fun v s1 ⟨x, H1, I1, r1, q1⟩ => ?_)
  obtain ⟨c, rfl, q1⟩ := q1
  cases r1
  exact not_of (wpAny_truthy_bool ⟨.bl (!c), H1, I1, rfl, q1⟩)
def tIf (t : TT) (ta tb : TE) : TE := fun σ H Q => t σ H fun c H1 => if c = true then ta σ H1 Q else tb σ H1 Q
theorem pe_ifExp {c : Expr} (hc : PT X c tA) (ha : PE X a ta) (hb : PE X b tb) : PE X (.IfExp c a b pos) (tIf tA ta tb) := by
  intro pins s σ H Q I h
  refine wpAny_IfExp (thn (hc pins s σ H _ I h) fun d s1 ⟨H1, I1, q1⟩ => ?_)
  cases d with
  | true => exact ha pins s1 σ H1 Q I1 q1
  | false => exact hb pins s1 σ H1 Q I1 q1
end
end L2
namespace L2
open PySem PySem.Spec PyProof.Rows
def SqL (K : PySem.W.Frag) (H : Hp) (a : Addr) (xs : List V) : Prop :=
  Rd H a (.lst xs) ∨
    ∃ (o : Obj) (its : Array Value) (n : Nat), K.lookup a = some o ∧ o.cls = .type "list" ∧ o.dict = none ∧ o.data = .seq its n ∧ its.size ≤ sizeLine ∧ Vals xs its.toList
def SqT (K : PySem.W.Frag) (H : Hp) (a : Addr) (xs : List V) : Prop :=
  Rd H a (.tup xs) ∨
    ∃ (o : Obj) (its : Array Value) (n : Nat), K.lookup a = some o ∧ o.cls = .type "tuple" ∧ o.data = .seq its n ∧ its.size ≤ sizeLine ∧ Vals xs its.toList
def absV : Value → Option V
  | .none => some .non
  | .bool b => some (.bl b)
  | .int i _ => some (.int i)
  | .str x _ => some (.str x)
  | .bytes b _ => some (.byt b)
  | .float b _ => some (.flt b)
  | .ref a => some (.ref a)
  | .type n => some (.ty n)
  | _ => none
theorem RelV.abs {x : V} {u : Value} (r : RelV x u) : absV u = some x := by
  cases x with
  | non => cases r; rfl
  | bl _ => cases r; rfl
  | int _ => obtain ⟨t, rfl⟩ := r; rfl
  | str _ => obtain ⟨t, rfl⟩ := r; rfl
  | byt _ => obtain ⟨t, rfl⟩ := r; rfl
  | flt _ => obtain ⟨t, rfl⟩ := r; rfl
  | ref _ => cases r; rfl
  | ty _ => cases r; rfl
theorem RelV.inj {x y : V} {u : Value} (r : RelV x u) (q : RelV y u) : x = y := Option.some.inj (r.abs.symm.trans q.abs)
theorem Vals.inj : ∀ {xs ys : List V} {us : List Value}, Vals xs us → Vals ys us → xs = ys
  | _, _, _, .nil, .nil => rfl
  | _, _, _, .cons r t, .cons r' t' => by rw [r.inj r', Vals.inj t t']
section
variable {X : Cx} {pins : List (Addr × Obj)} {σ : St} {H : Hp} {s : Shared} {a : Addr} {xs ys : List V}
theorem SqL.of {K : PySem.W.Frag} (h : H a = some (.lst xs)) : SqL K H a xs := .inl (.inl h)
theorem SqT.of {K : PySem.W.Frag} (h : H a = some (.tup xs)) : SqT K H a xs := .inl (.inl h)
theorem Inv.list (I : Inv X pins σ H s) (h : SqL X.K H a xs) : ∃ its : List Value, Vals xs its ∧ PlainL s.heap a its.toArray ∧ xs.length ≤ sizeLine := by
  rcases h with h | ⟨o, its, n, hk, hc, hd, hs, hz, r⟩
  · obtain ⟨z, its, n, r, e⟩ := h.ok I.hok
    exact ⟨its, r, ⟨_, n, e, rfl, rfl, rfl⟩, z⟩
  · refine ⟨its.toList, r, ⟨o, n, I.kIn a o hk, hc, hd, by simpa using hs⟩, ?_⟩
    have e := r.length
    simp only [Array.length_toList] at e
    omega
theorem Inv.tuple (I : Inv X pins σ H s) (h : SqT X.K H a xs) : ∃ its : List Value, Vals xs its ∧ IsTup s.heap a its.toArray ∧ xs.length ≤ sizeLine := by
  rcases h with h | ⟨o, its, n, hk, hc, hs, hz, r⟩
  · obtain ⟨z, its, r, p⟩ := h.ok I.hok
    exact ⟨its, r, p, z⟩
  · refine ⟨its.toList, r, ⟨o, I.kIn a o hk, hc, n, by simpa using hs⟩, ?_⟩
    have e := r.length
    simp only [Array.length_toList] at e
    omega
theorem Inv.list_inj (I : Inv X pins σ H s) (h : SqL X.K H a xs) (h' : SqL X.K H a ys) : xs = ys := by
  obtain ⟨its, r, ⟨o, n, e, _, _, d⟩, _⟩ := I.list h
  obtain ⟨its', r', ⟨o', n', e', _, _, d'⟩, _⟩ := I.list h'
  rw [e] at e'; cases e'
  rw [d] at d'
  injection d' with d1 _
  have : its = its' := by simpa using congrArg Array.toList d1
  subst this
  exact r.inj r'
theorem Inv.tuple_inj (I : Inv X pins σ H s) (h : SqT X.K H a xs) (h' : SqT X.K H a ys) : xs = ys := by
  obtain ⟨its, r, ⟨o, e, _, n, d⟩, _⟩ := I.tuple h
  obtain ⟨its', r', ⟨o', e', _, n', d'⟩, _⟩ := I.tuple h'
  rw [e] at e'; cases e'
  rw [d] at d'
  injection d' with d1 _
  have : its = its' := by simpa using congrArg Array.toList d1
  subst this
  exact r.inj r'
end
abbrev Cx.wish (X : Cx) (E : Value → Shared → Prop) : Cx := { X with xe := E }
abbrev Cx.nox (X : Cx) : Cx := X.wish fun _ _ => False
theorem Cx.Ok.wish {X : Cx} (ok : X.Ok) (E : Value → Shared → Prop) : (X.wish E).Ok :=
  ⟨ok.mod, ok.kind, ok.glob, ok.blt, ok.above, ok.inj, ok.has, ok.cab, ok.hd, ok.frames, ok.stk, ok.exf, ok.bs, ok.bsz, ok.noex, ok.exfs, ok.funs, ok.frf⟩
theorem Cx.Ok.unwish {X : Cx} {E : Value → Shared → Prop} (ok : (X.wish E).Ok) : X.Ok :=
  ⟨ok.mod, ok.kind, ok.glob, ok.blt, ok.above, ok.inj, ok.has, ok.cab, ok.hd, ok.frames, ok.stk, ok.exf, ok.bs, ok.bsz, ok.noex, ok.exfs, ok.funs, ok.frf⟩
section
variable {X : Cx} {pins : List (Addr × Obj)} {σ : St} {H : Hp} {s : Shared} {E : Value → Shared → Prop}
theorem Inv.wish (I : Inv X pins σ H s) (E : Value → Shared → Prop) : Inv (X.wish E) pins σ H s := ⟨I.ok.wish E, I.os, I.bare, I.base, I.loc, I.cell, I.free, I.freeC, I.pin, I.hok, I.len⟩
theorem Inv.unwish (I : Inv (X.wish E) pins σ H s) : Inv X pins σ H s := ⟨I.ok.unwish, I.os, I.bare, I.base, I.loc, I.cell, I.free, I.freeC, I.pin, I.hok, I.len⟩
theorem SP.unwish {D : Ends} {f : Flow} {s' : Shared} (h : SP (X.wish E) pins D f s') : SP X pins D f s' := by
  cases f with
  | next => obtain ⟨σ', H', I, q⟩ := h; exact ⟨σ', H', I.unwish, q⟩
  | brk => obtain ⟨σ', H', I, q⟩ := h; exact ⟨σ', H', I.unwish, q⟩
  | cont => obtain ⟨σ', H', I, q⟩ := h; exact ⟨σ', H', I.unwish, q⟩
  | ret u => obtain ⟨v, σ', H', I, r, q⟩ := h; exact ⟨v, σ', H', I.unwish, r, q⟩
theorem PSs.nox {st : List Stmt} {t : TS} (h : PSs X.nox st t) : PSs X st t := fun pins s σ H D I hw =>
  wpAny_mono (h pins s σ H D (I.wish _) hw) (fun _ _ q => q.unwish) fun _ _ z => False.elim z
end
section
variable {X : Cx} {st : Stmt} {rest : List Stmt} {t u : TS} {e : Expr} {te : TE} {pos : Pos}
def tNext : TS := fun D σ H => D.nx σ H
def tSeq (t u : TS) : TS := fun D σ H => t { D with nx := u D } σ H
theorem pss_nil : PSs X [] tNext := fun _ _ σ H _ I h => wpAny_execs_nil ⟨σ, H, I, h⟩
theorem pss_cons (h1 : PS X st t) (h2 : PSs X rest u) : PSs X (st :: rest) (tSeq t u) := by
  intro pins s σ H D I h
  refine wpAny_execs_cons (thn (h1 pins s σ H { D with nx := u D } I h) fun f s1 q => ?_)
  cases f with
  | next =>
    obtain ⟨σ', H', I', q⟩ := q
    exact h2 pins s1 σ' H' D I' q
  | ret v => exact q
  | brk => exact q
  | cont => exact q
theorem pss_one (h1 : PS X st t) : PSs X [st] t := by
  intro pins s σ H D I h
  refine wpAny_execs_cons (thn (h1 pins s σ H D I h) fun f s1 q => ?_)
  cases f with
  | next => exact wpAny_execs_nil q
  | ret v => exact q
  | brk => exact q
  | cont => exact q
theorem Inv.quiet {pins : List (Addr × Obj)} {σ : St} {H : Hp} {s : Shared} (I : Inv X pins σ H s) : interactive X.env = false := by simp [interactive, I.ok.kind]
def tDrop (te : TE) : TS := fun D σ H => te σ H fun _ H1 => D.nx σ H1
theorem ps_expr (he : PE X e te) (hs : swapsWith e none pos.line X.env = pure false := by rfl) : PS X (.Expr e pos) (tDrop te) := by
  intro pins s σ H D I h
  exact wpAny_Expr_any (thn (he pins s σ H _ I h) fun v s1 ⟨x, H1, I1, r1, q1⟩ => ⟨σ, H1, I1, q1⟩) I.quiet hs
def tRet (te : TE) : TS := fun D σ H => te σ H D.rt
theorem ps_ret (he : PE X e te) : PS X (.Return (some e) pos) (tRet te) := by
  intro pins s σ H D I h
  exact wpAny_Return_some (thn (he pins s σ H _ I h) fun v s1 ⟨x, H1, I1, r1, q1⟩ => ⟨x, σ, H1, I1, r1, q1⟩)
def tIfS (c : TT) (t u : TS) : TS := fun D σ H => c σ H fun b H1 => if b = true then t D σ H1 else u D σ H1
theorem ps_if {c : Expr} {a b : List Stmt} {tc : TT} (hc : PT X c tc) (ha : PSs X a t) (hb : PSs X b u) : PS X (.If c a b pos) (tIfS tc t u) := by
  intro pins s σ H D I h
  refine wpAny_If (thn (hc pins s σ H _ I h) fun d s1 ⟨H1, I1, q1⟩ => ?_)
  cases d with
  | true => exact ha pins s1 σ H1 D I1 q1
  | false => exact hb pins s1 σ H1 D I1 q1
end
abbrev TG := V → St → Hp → (St → Hp → Prop) → Prop
abbrev TGs := List V → St → Hp → (St → Hp → Prop) → Prop
def PG (X : Cx) (target : Expr) (t : TG) : Prop :=
  ∀ (pins : List (Addr × Obj)) (s : Shared) (σ : St) (H : Hp) (v : V) (u : Value) (Q : St → Hp → Prop), Inv X pins σ H s → RelV v u → t v σ H Q →
    wpAny (model X.prog X.w) X.A (assign target X.env u) (fun _ s' => ∃ σ' H', Inv X pins σ' H' s' ∧ Q σ' H') X.xe s
def PGs (X : Cx) (ts : List Expr) (t : TGs) : Prop :=
  ∀ (pins : List (Addr × Obj)) (s : Shared) (σ : St) (H : Hp) (vs : List V) (us : List Value) (Q : St → Hp → Prop), Inv X pins σ H s → Vals vs us → t vs σ H Q →
    wpAny (model X.prog X.w) X.A (assignInOrder ((assignEach ts X.env).map (·.2)) us) (fun _ s' => ∃ σ' H', Inv X pins σ' H' s' ∧ Q σ' H') X.xe s
section
variable {X : Cx} {pos : Pos}
def gName (i : Nat) : TG := fun v σ H Q => Q (σ.set i (some v)) H
theorem pg_name {i : Nat} {x : Str} (hN : X.N.Nodup) (hi : X.N[i]? = some x) (hx : Loc X.env.scope x) (hf : X.fn x = true ∨ X.env.scope.names.lookup x = some .local := by first | exact .inl rfl | exact .inr rfl | assumption) : PG X (.Name x pos) (gName i) := by
  intro pins s σ H v u Q I r h
  exact wpAny_assign_Name (store_ok I hN hi hx r (fun s' I' => ⟨_, H, I', h⟩) hf)
def gNil : TGs := fun vs σ H Q => vs = [] ∧ Q σ H
def gCons (t : TG) (u : TGs) : TGs := fun vs σ H Q => ∃ v r, vs = v :: r ∧ t v σ H fun σ' H' => u r σ' H' Q
theorem pgs_nil : PGs X [] gNil := by
  intro pins s σ H vs us Q I r h
  obtain ⟨e, h⟩ := h
  subst e
  cases r
  exact assignInOrder_nil ⟨σ, H, I, h⟩
theorem pgs_cons {e : Expr} {es : List Expr} {t : TG} {u : TGs} (h1 : PG X e t) (h2 : PGs X es u)
    (hs : (assignEach (e :: es) X.env).map (·.2) = assign e X.env :: (assignEach es X.env).map (·.2) := by rfl) : PGs X (e :: es) (gCons t u) := by
  intro pins s σ H vs us Q I r h
  obtain ⟨v, vr, e1, h⟩ := h
  subst e1
  cases r with
  | cons r rr =>
    rw [hs]
    refine assignInOrder_cons (thn (h1 pins s σ H _ _ _ I r h) fun _ s1 ⟨σ1, H1, I1, q1⟩ => ?_)
    exact h2 pins s1 σ1 H1 _ _ Q I1 rr q1
def gTup (K : PySem.W.Frag) (n : Nat) (t : TGs) : TG := fun v σ H Q => ∃ a xs, v = .ref a ∧ SqT K H a xs ∧ xs.length = n ∧ t xs σ H Q
theorem pg_tup {es : List Expr} {k : Nat} {t : TGs} {n : Nat} (hc : X.calm = true) (h : PGs X es t)
    (hn : (assignEach es X.env).length = n := by rfl) (hst : (assignEach es X.env).findIdx? (·.1) = none := by rfl) : PG X (.Tuple es k pos) (gTup X.K n t) := by
  intro pins s σ H v u Q I r hw
  obtain ⟨a, xs, e1, hq, hl, hw⟩ := hw
  subst e1
  cases r
  obtain ⟨its, rv, ht, hz⟩ := I.tuple hq
  refine assign_Tuple_tuple (I.ok.hd hc) ht (by simp [hn, ← hl, rv.length]) hst fun h' hx => ?_
  have I1 : Inv X pins σ H { s with heap := h' } := I.kept (t' := s.toks) fun b o e => hx b o (Nat.ne_of_lt (Heap.lt_size e)) e
  exact h pins _ σ H xs _ Q I1 (by simpa using rv) hw
def tAsg (te : TE) (g : TG) : TS := fun D σ H => te σ H fun x H1 => g x σ H1 D.nx
theorem ps_set {i : Nat} {x : Str} {e : Expr} {te : TE} {pos' : Pos} (hN : X.N.Nodup) (hi : X.N[i]? = some x) (hx : Loc X.env.scope x) (he : PE X e te) (hs : swapsWith e (some (.Name x pos')) pos.line X.env = pure false := by rfl) (hf : X.fn x = true ∨ X.env.scope.names.lookup x = some .local := by first | exact .inl rfl | exact .inr rfl | assumption) :
    PS X (.Assign [.Name x pos'] e pos) (tAsg te (gName i)) := by
  intro pins s σ H D I h
  refine wpAny_Assign_Name (thn (he pins s σ H _ I h) fun v s1 ⟨y, H1, I1, r1, q1⟩ => ?_) hs
  exact store_ok I1 hN hi hx r1 (fun s2 I2 => ⟨_, H1, I2, q1⟩) hf
end
section
variable {X : Cx} {pos : Pos}
end
structure It where
  go : Nat → Hp → Prop
  yld : Nat → Hp → V → Hp → Prop
  stop : Nat → Hp → Prop
def FpOk (X : Cx) (pins : List (Addr × Obj)) (H : Hp) (b : Addr) : Prop :=
  H b = none ∧ b ≠ X.env.locals ∧ b ∉ X.fs ∧ (b ∈ X.ex ∨ X.s₀.heap.objs.size ≤ b) ∧ (∀ x c, X.env.cells.lookup x = some c → c ≠ b) ∧ ∀ p ∈ X.pn ++ pins, p.1 ≠ b
theorem Inv.fpOk {X : Cx} {pins : List (Addr × Obj)} {σ : St} {H H' : Hp} {s : Shared} {b : Addr} (I : Inv X pins σ H s) (hb : s.heap.objs.size ≤ b) (hn : H' b = none) : FpOk X pins H' b := by
  refine ⟨hn, Nat.ne_of_gt (Nat.lt_of_lt_of_le I.lt hb), I.nofs hb, .inr (Nat.le_trans I.sz hb), fun x c e z => ?_, fun p hp z => ?_⟩
  · obtain ⟨v, q⟩ := I.cell x c e
    exact absurd (Nat.lt_of_lt_of_le q.lt (by rw [z]; exact hb)) (Nat.lt_irrefl _)
  · exact absurd (Nat.lt_of_lt_of_le (Heap.lt_size (I.pin p hp).1) (by rw [z]; exact hb)) (Nat.lt_irrefl _)
structure Turn (P : Program) (w : World) (K : PySem.W.Frag) (tg : Expr) (J : It) (fp : List Addr) (it : Addr) (tn : Nat → Heap → Prop) : Prop where
  mem : it ∈ fp
  obj : ∀ i h, tn i h → ∀ b ∈ fp, ∃ o, h.get? b = some o ∧ ∀ v, o.data ≠ .cell v
  keep : ∀ i h h', tn i h → (∀ b ∈ fp, ∀ o, h.get? b = some o → h'.get? b = some o) → tn i h'
  item : ∀ (X : Cx), X.prog = P → X.w = w → X.K = K → X.calm = true → ∀ (i : Nat) (pins : List (Addr × Obj)) (s : Shared) (σ : St) (H : Hp) (E : Value → Shared → Prop), Inv X pins σ H s → (∀ b ∈ fp, FpOk X pins H b) → tn i s.heap → J.go i H →
    wpAny (model P w) X.A (pyNext (.ref it)) (fun r s1 => ∃ u, r = some u ∧
      wpAny (model P w) X.A (letOwnedTupleGo tg (.ref it) u) (fun _ s2 => ∃ x H', Inv X pins σ H' s2 ∧ RelV x u ∧ J.yld i H x H' ∧ tn (i + 1) s2.heap ∧ ∀ b ∈ fp, H' b = none) E s1) E s
  done : ∀ (X : Cx), X.prog = P → X.w = w → X.K = K → X.calm = true → ∀ (i : Nat) (pins : List (Addr × Obj)) (s : Shared) (σ : St) (H : Hp) (E : Value → Shared → Prop), Inv X pins σ H s → (∀ b ∈ fp, FpOk X pins H b) → tn i s.heap → J.stop i H →
    wpAny (model P w) X.A (pyNext (.ref it)) (fun r s1 => r = none ∧ Inv X pins σ H s1) E s
  self : ∀ (A : Around) (i : Nat) (s : Shared) (Q : Value → Shared → Prop) (E : Value → Shared → Prop), tn i s.heap → Q (.ref it) s → wpAny (model P w) A (pyIter (.ref it)) Q E s
abbrev TI := St → Hp → (It → Hp → Prop) → Prop
def PIE (X : Cx) (pins : List (Addr × Obj)) (σ : St) (tg : Expr) (R : It → Hp → Prop) (itv : Value) (s2 : Shared) : Prop :=
  ∃ (it : Addr) (fp : List Addr) (tn : Nat → Heap → Prop) (J : It) (H' : Hp), itv = .ref it ∧ Inv X pins σ H' s2 ∧ Turn X.prog X.w X.K tg J fp it tn ∧ tn 0 s2.heap ∧ (∀ b ∈ fp, FpOk X pins H' b) ∧ R J H'
def PI (X : Cx) (tg iter : Expr) (wi : TI) : Prop :=
  ∀ (pins : List (Addr × Obj)) (s : Shared) (σ : St) (H : Hp) (R : It → Hp → Prop), Inv X pins σ H s → wi σ H R →
    wpAny (model X.prog X.w) X.A (eval iter X.env) (fun v s1 => wpAny (model X.prog X.w) X.A (pyIter v) (PIE X pins σ tg R) X.xe s1) X.xe s
theorem go_of {M : Model} {A : Around} {E : Value → Shared → Prop} {s : Shared} {tg : Expr} {it : Addr} {u : Value} {o : Obj} {n : String} {vs : Array Value} {Q : Unit → Shared → Prop} (ho : s.heap.get? it = some o) (hc : o.cls = .type n) (hd : o.data = .fields vs)
    (hn : ["enumerate", "zip", "dict_itemiterator", "dict_reverseitemiterator", "odict_iterator", "itertools.zip_longest", "itertools.pairwise"].contains n = false) (hQ : Q () s) : wpAny M A (letOwnedTupleGo tg (.ref it) u) Q E s := by
  unfold letOwnedTupleGo
  cases tg <;> first
    | exact wpAny_pure hQ
    | (cases u <;> first
        | exact wpAny_pure hQ
        | (refine wpAny_bind (wpAny_load ho ?_)
           rw [hc, hd]
           show wpAny M A (if (["enumerate", "zip", "dict_itemiterator", "dict_reverseitemiterator", "odict_iterator", "itertools.zip_longest", "itertools.pairwise"].contains n && vs[0]? == some (rawInt _)) = true then _ else _) Q E s
           rw [if_neg (by intro h; rw [hn, Bool.false_and] at h; cases h)]
           exact wpAny_pure hQ))
def Itl (K : PySem.W.Frag) (a : Addr) : It :=
  ⟨fun i H => ∃ xs x, SqL K H a xs ∧ xs[i]? = some x, fun i H x H' => H' = H ∧ ∀ xs, SqL K H a xs → xs[i]? = some x, fun i H => ∃ xs, SqL K H a xs ∧ xs.length ≤ i⟩
def Itt (K : PySem.W.Frag) (a : Addr) : It :=
  ⟨fun i H => ∃ xs x, SqT K H a xs ∧ xs[i]? = some x, fun i H x H' => H' = H ∧ ∀ xs, SqT K H a xs → xs[i]? = some x, fun i H => ∃ xs, SqT K H a xs ∧ xs.length ≤ i⟩
def Itr (lo : Int) (n : Nat) : It := ⟨fun i _ => i < n, fun i H x H' => H' = H ∧ x = .int (lo + i), fun i _ => n ≤ i⟩
theorem turn_list {P : Program} {w : World} {K : PySem.W.Frag} {tg : Expr} (a it : Addr) : Turn P w K tg (Itl K a) [it] it (fun i h => h.IsListIter it a i) where
  mem := by simp
  obj := fun i h st b hb => by
    have e : b = it := by simpa using hb
    subst e
    obtain ⟨o, e, c, d⟩ := st
    exact ⟨o, e, fun v z => by rw [d] at z; cases z⟩
  keep := fun i h h' st k => st.at fun o e => k it (by simp) o e
  item := by
    intro X hP hw hK hc i pins s σ H E I hf st hg
    subst hP hw hK
    obtain ⟨xs, x, hq, hx⟩ := hg
    obtain ⟨its, rv, p, hz⟩ := I.list hq
    obtain ⟨u, hu, ru⟩ := rv.get hx
    obtain ⟨f0, f1, f2, f3, f4, f5⟩ := hf it (by simp)
    refine wpAny_pyNext_list_item st p.isList (x := u) (by simpa using hu) fun h' st' sb => ?_
    have I1 : Inv X pins σ H { s with heap := h' } := I.turned (t' := s.toks) (fun b o hb e => (sb.2 b hb).trans e) f0 f1 f3 f4 f5
    obtain ⟨o, e, c, d⟩ := id st'
    exact ⟨u, rfl, go_of (s := { s with heap := h' }) e c d (by decide) ⟨x, H, I1, ru, ⟨rfl, fun ys hy => by rw [I.list_inj hy hq]; exact hx⟩, st', fun b hb => (hf b hb).1⟩⟩
  done := by
    intro X hP hw hK hc i pins s σ H E I hf st hg
    subst hP hw hK
    obtain ⟨xs, hq, hx⟩ := hg
    obtain ⟨its, rv, p, hz⟩ := I.list hq
    obtain ⟨f0, f1, f2, f3, f4, f5⟩ := hf it (by simp)
    have hl := rv.length
    exact wpAny_pyNext_list_end (I.ok.hd hc) st p.isList (by simp; omega) fun h' eb => ⟨rfl, I.turned (t' := s.toks) (fun b o hb e => eb b o hb e) f0 f1 f3 f4 f5⟩
  self := fun _ _ _ _ _ st h => wpAny_pyIter_listiter st h
theorem turn_tuple {P : Program} {w : World} {K : PySem.W.Frag} {tg : Expr} (a it : Addr) : Turn P w K tg (Itt K a) [it] it (fun i h => h.IsTupleIter it a i) where
  mem := by simp
  obj := fun i h st b hb => by
    have e : b = it := by simpa using hb
    subst e
    obtain ⟨o, e, c, d⟩ := st
    exact ⟨o, e, fun v z => by rw [d] at z; cases z⟩
  keep := fun i h h' st k => st.at fun o e => k it (by simp) o e
  item := by
    intro X hP hw hK hc i pins s σ H E I hf st hg
    subst hP hw hK
    obtain ⟨xs, x, hq, hx⟩ := hg
    obtain ⟨its, rv, p, hz⟩ := I.tuple hq
    obtain ⟨u, hu, ru⟩ := rv.get hx
    obtain ⟨f0, f1, f2, f3, f4, f5⟩ := hf it (by simp)
    refine wpAny_pyNext_tuple_item st (show s.heap.IsTuple a its.toArray from p) (x := u) (by simpa using hu) fun h' st' sb => ?_
    have I1 : Inv X pins σ H { s with heap := h' } := I.turned (t' := s.toks) (fun b o hb e => (sb.2 b hb).trans e) f0 f1 f3 f4 f5
    obtain ⟨o, e, c, d⟩ := id st'
    exact ⟨u, rfl, go_of (s := { s with heap := h' }) e c d (by decide) ⟨x, H, I1, ru, ⟨rfl, fun ys hy => by rw [I.tuple_inj hy hq]; exact hx⟩, st', fun b hb => (hf b hb).1⟩⟩
  done := by
    intro X hP hw hK hc i pins s σ H E I hf st hg
    subst hP hw hK
    obtain ⟨xs, hq, hx⟩ := hg
    obtain ⟨its, rv, p, hz⟩ := I.tuple hq
    obtain ⟨f0, f1, f2, f3, f4, f5⟩ := hf it (by simp)
    have hl := rv.length
    exact wpAny_pyNext_tuple_end (I.ok.hd hc) st (show s.heap.IsTuple a its.toArray from p) (by simp; omega) fun h' eb => ⟨rfl, I.turned (t' := s.toks) (fun b o hb e => eb b o hb e) f0 f1 f3 f4 f5⟩
  self := fun _ _ _ _ _ st h => wpAny_pyIter_tupleiter st h
theorem turn_range {P : Program} {w : World} {K : PySem.W.Frag} {tg : Expr} (it : Addr) (lo : Int) (n : Nat) : Turn P w K tg (Itr lo n) [it] it (fun i h => IsRangeIter h it (lo + (i : Nat) * 1) ((n : Int) - (i : Nat)) 1) where
  mem := by simp
  obj := fun i h st b hb => by
    have e : b = it := by simpa using hb
    subst e
    exact ⟨_, st, fun v z => by
      have z' : Data.fields _ = Data.cell v := z
      cases z'⟩
  keep := fun i h h' st k => k it (by simp) _ st
  item := by
    intro X hP hw hK hc i pins s σ H E I hf st hg
    subst hP hw hK
    obtain ⟨f0, f1, f2, f3, f4, f5⟩ := hf it (by simp)
    have W := Walks.range (prog := X.prog) (w := X.w) (I.ok.hd hc) it lo 1 n
    refine W.item i s _ _ hg st fun v h' tk hv st' kk => ?_
    obtain ⟨t, rfl⟩ := hv
    have I1 : Inv X pins σ H { s with heap := h', toks := tk } := I.turned (fun b o hb e => kk b o (by simpa using hb) e) f0 f1 f3 f4 f5
    refine ⟨_, rfl, go_of (s := { s with heap := h', toks := tk }) (n := "range_iterator") st' rfl rfl (by decide) ⟨.int (lo + i), H, I1, ⟨t, ?_⟩, ⟨rfl, rfl⟩, st', fun b hb => (hf b hb).1⟩⟩
    rw [Int.mul_one]
  done := by
    intro X hP hw hK hc i pins s σ H E I hf st hg
    subst hP hw hK
    obtain ⟨f0, f1, f2, f3, f4, f5⟩ := hf it (by simp)
    exact wpAny_pyNext_range_end (I.ok.hd hc) st (by have : n ≤ i := hg; omega) fun h' eb => ⟨rfl, I.turned (t' := s.toks) (fun b o hb e => eb b o hb e) f0 f1 f3 f4 f5⟩
  self := fun _ _ _ _ _ st h => wpAny_pyIter_rangeiter st h
end L2
namespace L2
open PySem PySem.Spec PyProof.Rows
section
variable {X : Cx} {tg : Expr}
def iList (K : PySem.W.Frag) (tl : TE) : TI := fun σ H R => tl σ H fun x H1 => ∃ a, x = .ref a ∧ (∃ xs, SqL K H1 a xs) ∧ R (Itl K a) H1
def iTup (K : PySem.W.Frag) (tl : TE) : TI := fun σ H R => tl σ H fun x H1 => ∃ a, x = .ref a ∧ (∃ xs, SqT K H1 a xs) ∧ R (Itt K a) H1
theorem pi_list {l : Expr} {tl : TE} (hl : PE X l tl) : PI X tg l (iList X.K tl) := by
  intro pins s σ H R I h
  refine thn (hl pins s σ H _ I h) fun v s1 ⟨x, H1, I1, r1, q1⟩ => ?_
  obtain ⟨a, e, ⟨xs, hq⟩, q⟩ := q1
  subst e
  cases r1
  obtain ⟨its, rv, p, hz⟩ := I1.list hq
  refine wpAny_pyIter_list p.isList ?_
  refine ⟨s1.heap.objs.size, [s1.heap.objs.size], _, _, H1, rfl, I1.kept (t' := s1.toks) fun b o e => Heap.get?_push_of_some _ e, turn_list a _, ⟨_, Heap.get?_push_size _ rfl, rfl, rfl⟩, fun b hb => ?_, q⟩
  have e : b = s1.heap.objs.size := by simpa using hb
  subst e
  exact I1.fpOk (Nat.le_refl _) (I1.hok.fresh (Nat.le_refl _))
theorem pi_tup {l : Expr} {tl : TE} (hl : PE X l tl) : PI X tg l (iTup X.K tl) := by
  intro pins s σ H R I h
  refine thn (hl pins s σ H _ I h) fun v s1 ⟨x, H1, I1, r1, q1⟩ => ?_
  obtain ⟨a, e, ⟨xs, hq⟩, q⟩ := q1
  subst e
  cases r1
  obtain ⟨its, rv, p, hz⟩ := I1.tuple hq
  refine wpAny_pyIter_tuple (show s1.heap.IsTuple a its.toArray from p) ?_
  refine ⟨s1.heap.objs.size, [s1.heap.objs.size], _, _, H1, rfl, I1.kept (t' := s1.toks) fun b o e => Heap.get?_push_of_some _ e, turn_tuple a _, ⟨_, Heap.get?_push_size _ rfl, rfl, rfl⟩, fun b hb => ?_, q⟩
  have e : b = s1.heap.objs.size := by simpa using hb
  subst e
  exact I1.fpOk (Nat.le_refl _) (I1.hok.fresh (Nat.le_refl _))
theorem range_it {pins : List (Addr × Obj)} {σ : St} {H : Hp} {s : Shared} {R : It → Hp → Prop} {E : Value → Shared → Prop} {lo hi : Int} {t u v : Tok} {tk : Nat} (I : Inv X pins σ H s) (h1 : -(2 ^ 62) ≤ lo) (h2 : lo < 2 ^ 62) (h3 : -(2 ^ 62) ≤ hi) (h4 : hi < 2 ^ 62)
    (q : R (Itr lo (hi - lo).toNat) H) : wpAny (model X.prog X.w) X.A (pyIter (.ref s.heap.objs.size)) (PIE X pins σ tg R) E { s with heap := s.heap.push { cls := .type "range", data := .fields #[.int lo t, .int hi u, .int 1 v] }, toks := tk } := by
  refine wpAny_pyIter_range (IsRange.new ..) (small_one h1 h2 h3 h4) ?_
  have I1 : Inv X pins σ H { s with heap := s.heap.push { cls := .type "range", data := .fields #[.int lo t, .int hi u, .int 1 v] }, toks := tk } := I.kept fun b o e => Heap.get?_push_of_some _ e
  refine ⟨(s.heap.push { cls := .type "range", data := .fields #[.int lo t, .int hi u, .int 1 v] }).objs.size, [(s.heap.push { cls := .type "range", data := .fields #[.int lo t, .int hi u, .int 1 v] }).objs.size], _, _, H, rfl,
    I1.kept (t' := tk) fun b o e => Heap.get?_push_of_some _ e, turn_range _ lo (hi - lo).toNat, ?_, fun b hb => ?_, q⟩
  · have e1 : lo + ((0 : Nat) : Int) * 1 = lo := by simp
    have e2 : (((hi - lo).toNat : Nat) : Int) - ((0 : Nat) : Int) = Builtin.Range.rangeSize lo hi 1 := by rw [rangeSize_one]; split <;> omega
    show IsRangeIter _ _ (lo + ((0 : Nat) : Int) * 1) ((((hi - lo).toNat : Nat) : Int) - ((0 : Nat) : Int)) 1
    rw [e1, e2]
    exact Heap.get?_push_size _ rfl
  · have e : b = (s.heap.push { cls := .type "range", data := .fields #[.int lo t, .int hi u, .int 1 v] }).objs.size := by simpa using hb
    subst e
    exact I1.fpOk (Nat.le_refl _) (I1.hok.fresh (Nat.le_refl _))
def iRng1 (ta : TA) : TI := fun σ H R => ta σ H fun vs H1 => ∃ j : Int, vs = [.int j] ∧ -(2 ^ 62) ≤ j ∧ j < 2 ^ 62 ∧ R (Itr 0 j.toNat) H1
theorem pi_range1 {a : Expr} {ta : TA} {p pos : Pos} (hg : Gl X "range") (hm : X.mg "range" = none) (ha : PA X [a] ta) (hs : starEach [a] X.env = [(false, eval a X.env)] := by rfl) : PI X tg (.Call (.Name "range" p) [a] [] pos) (iRng1 ta) := by
  intro pins s σ H R I h
  refine Call_ (ld_blt I hg hm boot_range (PyProof.Rows.callWith_type1 (thn (ha pos pins s σ H _ I h) fun us s1 ⟨vs, H1, I1, r1, q1⟩ => ?_) hs rfl))
  obtain ⟨j, e, q1, q2, q⟩ := q1
  subst e
  cases r1 with
  | cons r rr =>
    cases rr
    obtain ⟨t, rfl⟩ := r
    exact call_range_1 (range_it I1 (by omega) (by omega) q1 q2 (by simpa using q))
def tFor (wi : TI) (g : TG) (tb : TS) : TS := fun D σ H => wi σ H fun J H1 => ∃ W : Nat → Nat → St → Hp → Prop, (∃ m, W 0 m σ H1) ∧ ∀ i m σ H, W i m σ H →
  (J.stop i H ∧ D.nx σ H) ∨ (J.go i H ∧ ∃ N : St → Hp → Prop, (∀ σ' H', N σ' H' → ∃ m', m' < m ∧ W (i + 1) m' σ' H') ∧ ∀ x H', J.yld i H x H' → g x σ H' fun σ2 H2 => tb { D with nx := N, ct := N, bk := D.nx } σ2 H2)
def pinsAt (fp : List Addr) (h : Heap) : List (Addr × Obj) := fp.filterMap fun b => (h.get? b).map fun o => (b, o)
theorem mem_pinsAt {fp : List Addr} {h : Heap} {b : Addr} {o : Obj} (hb : b ∈ fp) (e : h.get? b = some o) : (b, o) ∈ pinsAt fp h := List.mem_filterMap.mpr ⟨b, hb, by rw [e]; rfl⟩
theorem of_pinsAt {fp : List Addr} {h : Heap} {p : Addr × Obj} (hp : p ∈ pinsAt fp h) : p.1 ∈ fp ∧ h.get? p.1 = some p.2 := by
  obtain ⟨b, hb, e⟩ := List.mem_filterMap.mp hp
  cases q : h.get? b with
  | none => rw [q] at e; cases e
  | some o =>
    rw [q] at e
    have e' : (b, o) = p := Option.some.inj e
    subst e'
    exact ⟨hb, q⟩
theorem Inv.pinned {pins : List (Addr × Obj)} {σ : St} {H : Hp} {s : Shared} {fp : List Addr} (I : Inv X pins σ H s) (hf : ∀ b ∈ fp, FpOk X pins H b) (ho : ∀ b ∈ fp, ∃ o, s.heap.get? b = some o ∧ ∀ v, o.data ≠ .cell v) : Inv X (pins ++ pinsAt fp s.heap) σ H s :=
  I.pins_of fun p hp => (List.mem_append.mp hp).elim (fun z => I.pin p (List.mem_append_right _ z)) fun z => by
    obtain ⟨hb, e⟩ := of_pinsAt z
    obtain ⟨f0, f1, f2, _⟩ := hf p.1 hb
    obtain ⟨o, e', d⟩ := ho p.1 hb
    rw [e] at e'; cases e'
    exact ⟨e, f0, f1, f2, d⟩
theorem Inv.unpinned {pins pl : List (Addr × Obj)} {σ : St} {H : Hp} {s : Shared} (I : Inv X (pins ++ pl) σ H s) : Inv X pins σ H s := I.pins_of fun p hp => I.pin p (List.mem_append_right _ (List.mem_append_left _ hp))
theorem ps_for {iter : Expr} {body : List Stmt} {wi : TI} {g : TG} {tb : TS} {pos : Pos} (hp : PassesOwn (model X.prog X.w) X.A X.env X.xe) (hc : X.calm = true) (hi : PI X tg iter wi) (hg : PG X tg g) (hb : PSs X body tb)
    (hs : ∀ x, foldedSetIterable iter X.env x = pure x := by intro _; rfl) : PS X (.For tg iter body [] pos) (tFor wi g tb) := by
  intro pins s σ H D I h
  refine wpAny_For (thn (hi pins s σ H _ I h) fun v s1 h1 => thn h1 fun itv s2 h2 => ?_) hs
  obtain ⟨it, fp, tn, J, H2, e, I2, T, st2, f2, W, ⟨m0, w0⟩, turn⟩ := h2
  subst e
  -- what stays true of the iterator's objects through the loop
  have stat : ∀ {H' : Hp}, (∀ b ∈ fp, H' b = none) → ∀ b ∈ fp, FpOk X pins H' b := fun hn b hb => ⟨hn b hb, (f2 b hb).2⟩
  refine codeAny_forLoop_any (fun n s' => ∃ i σ' H', Inv X pins σ' H' s' ∧ tn i s'.heap ∧ (∀ b ∈ fp, H' b = none) ∧ W i n σ' H') ?_ m0 ⟨0, σ, H2, I2, st2, fun b hb => (f2 b hb).1, w0⟩
  rintro n s3 ⟨i, σ3, H3, I3, st3, fr3, w3⟩
  rcases turn i n σ3 H3 w3 with ⟨stop, qn⟩ | ⟨go, N, hN, step⟩
  · refine wpAny_passesOwn hp (thn (T.done X rfl rfl rfl hc i pins s3 σ3 H3 X.xe I3 (stat fr3) st3 stop) fun r s4 ⟨hr, I4⟩ => ?_)
    subst hr
    exact wpAny_execs_nil ⟨σ3, H3, I4, qn⟩
  · refine wpAny_passesOwn hp (thn (T.item X rfl rfl rfl hc i pins s3 σ3 H3 X.xe I3 (stat fr3) st3 go) fun r s4 ⟨u, hr, h4⟩ => ?_)
    subst hr
    refine wpAny_passesOwn hp (thn h4 fun _ s5 ⟨x, H5, I5, r5, y5, st5, fr5⟩ => ?_)
    have I5' := I5.pinned (stat fr5) (T.obj _ _ st5)
    refine wpAny_passesOwn hp (thn (hg _ s5 σ3 H5 x u _ I5' r5 (step x H5 y5)) fun _ s6 ⟨σ6, H6, I6, q6⟩ => ?_)
    refine wpAny_passesOwn hp (thn (hb _ s6 σ6 H6 _ I6 q6) fun f s7 q7 => ?_)
    have again : ∀ {σ7 : St} {H7 : Hp}, Inv X (pins ++ pinsAt fp s5.heap) σ7 H7 s7 → N σ7 H7 → ∃ m, m < n ∧ ∃ i σ' H', Inv X pins σ' H' s7 ∧ tn i s7.heap ∧ (∀ b ∈ fp, H' b = none) ∧ W i m σ' H' := fun {σ7 H7} I7 n7 => by
      obtain ⟨m', hm, w7⟩ := hN σ7 H7 n7
      refine ⟨m', hm, i + 1, σ7, H7, I7.unpinned, T.keep _ _ _ st5 fun b hb o e => (I7.pin (b, o) (List.mem_append_right _ (List.mem_append_right _ (mem_pinsAt hb e)))).1, fun b hb => ?_, w7⟩
      obtain ⟨o, e, d⟩ := T.obj _ _ st5 b hb
      exact (I7.pin (b, o) (List.mem_append_right _ (List.mem_append_right _ (mem_pinsAt hb e)))).2.1
    cases f with
    | next => obtain ⟨σ7, H7, I7, n7⟩ := q7; exact again I7 n7
    | cont => obtain ⟨σ7, H7, I7, n7⟩ := q7; exact again I7 n7
    | brk => obtain ⟨σ7, H7, I7, q7⟩ := q7; exact ⟨σ7, H7, I7.unpinned, q7⟩
    | ret v => obtain ⟨x7, σ7, H7, I7, r7, q7⟩ := q7; exact ⟨x7, σ7, H7, I7.unpinned, r7, q7⟩
end
theorem for_list {K : PySem.W.Frag} {a : Addr} {xs : List V} {g : TG} {tb : TS} {D : Ends} {σ : St} {H : Hp} (Pv : Nat → St → Hp → Prop) (h0 : Pv 0 σ H) (hl : ∀ i σ H, i ≤ xs.length → Pv i σ H → SqL K H a xs)
    (hs : ∀ i x σ H, xs[i]? = some x → Pv i σ H → g x σ H fun σ2 H2 => tb { D with nx := Pv (i + 1), ct := Pv (i + 1), bk := D.nx } σ2 H2) (hd : ∀ σ H, Pv xs.length σ H → D.nx σ H) :
    ∃ W : Nat → Nat → St → Hp → Prop, (∃ m, W 0 m σ H) ∧ ∀ i m σ H, W i m σ H →
      ((Itl K a).stop i H ∧ D.nx σ H) ∨ ((Itl K a).go i H ∧ ∃ N : St → Hp → Prop, (∀ σ' H', N σ' H' → ∃ m', m' < m ∧ W (i + 1) m' σ' H') ∧ ∀ x H', (Itl K a).yld i H x H' → g x σ H' fun σ2 H2 => tb { D with nx := N, ct := N, bk := D.nx } σ2 H2) := by
  refine ⟨fun i m σ H => m = xs.length - i ∧ i ≤ xs.length ∧ Pv i σ H, ⟨xs.length, by simp, Nat.zero_le _, h0⟩, ?_⟩
  rintro i m σ H ⟨rfl, hi, p⟩
  have q := hl i σ H hi p
  by_cases hlt : i < xs.length
  · refine .inr ⟨⟨xs, xs[i], q, by simp [hlt]⟩, Pv (i + 1), fun σ' H' p' => ⟨xs.length - (i + 1), by omega, rfl, hlt, p'⟩, fun x H' y => ?_⟩
    obtain ⟨e, y⟩ := y
    subst e
    exact hs i x σ _ (y xs q) p
  · have e : i = xs.length := by omega
    subst e
    exact .inl ⟨⟨xs, q, Nat.le_refl _⟩, hd σ H p⟩
theorem for_tup {K : PySem.W.Frag} {a : Addr} {xs : List V} {g : TG} {tb : TS} {D : Ends} {σ : St} {H : Hp} (Pv : Nat → St → Hp → Prop) (h0 : Pv 0 σ H) (hl : ∀ i σ H, i ≤ xs.length → Pv i σ H → SqT K H a xs)
    (hs : ∀ i x σ H, xs[i]? = some x → Pv i σ H → g x σ H fun σ2 H2 => tb { D with nx := Pv (i + 1), ct := Pv (i + 1), bk := D.nx } σ2 H2) (hd : ∀ σ H, Pv xs.length σ H → D.nx σ H) :
    ∃ W : Nat → Nat → St → Hp → Prop, (∃ m, W 0 m σ H) ∧ ∀ i m σ H, W i m σ H →
      ((Itt K a).stop i H ∧ D.nx σ H) ∨ ((Itt K a).go i H ∧ ∃ N : St → Hp → Prop, (∀ σ' H', N σ' H' → ∃ m', m' < m ∧ W (i + 1) m' σ' H') ∧ ∀ x H', (Itt K a).yld i H x H' → g x σ H' fun σ2 H2 => tb { D with nx := N, ct := N, bk := D.nx } σ2 H2) := by
  refine ⟨fun i m σ H => m = xs.length - i ∧ i ≤ xs.length ∧ Pv i σ H, ⟨xs.length, by simp, Nat.zero_le _, h0⟩, ?_⟩
  rintro i m σ H ⟨rfl, hi, p⟩
  have q := hl i σ H hi p
  by_cases hlt : i < xs.length
  · refine .inr ⟨⟨xs, xs[i], q, by simp [hlt]⟩, Pv (i + 1), fun σ' H' p' => ⟨xs.length - (i + 1), by omega, rfl, hlt, p'⟩, fun x H' y => ?_⟩
    obtain ⟨e, y⟩ := y
    subst e
    exact hs i x σ _ (y xs q) p
  · have e : i = xs.length := by omega
    subst e
    exact .inl ⟨⟨xs, q, Nat.le_refl _⟩, hd σ H p⟩
end L2
namespace L2
open PySem PySem.Spec PyProof.Rows
abbrev R2 := V → V → Hp → VK → Prop
def OpR (X : Cx) (f : Value → Value → Sem Value) (r : R2) : Prop :=
  ∀ (pins : List (Addr × Obj)) (s : Shared) (σ : St) (H : Hp) (x y : V) (v u : Value) (Q : VK), Inv X pins σ H s → RelV x v → RelV y u → r x y H Q →
    wpAny (model X.prog X.w) X.A (f v u) (EP X pins σ Q) X.xe s
def CallR (X : Cx) (f : Value) (r : List V → Hp → VK → Prop) : Prop :=
  ∀ (pins : List (Addr × Obj)) (s : Shared) (σ : St) (H : Hp) (xs : List V) (us : List Value) (Q : VK), Inv X pins σ H s → Vals xs us → r xs H Q →
    wpAny (model X.prog X.w) X.A (call f us) (EP X pins σ Q) X.xe s
def tOp (r : R2) (ta tb : TE) : TE := fun σ H Q => ta σ H fun x H1 => tb σ H1 fun y H2 => r x y H2 Q
def rI (C : Int → Int → Prop) (g : Int → Int → V) : R2 := fun x y H Q => ∃ i j, x = .int i ∧ y = .int j ∧ C i j ∧ Q (g i j) H
def rI0 (g : Int → Int → V) : R2 := fun x y H Q => ∃ i j, x = .int i ∧ y = .int j ∧ Q (g i j) H
section
variable {X : Cx} {a b c : Expr} {ta tb tc : TE} {pos : Pos}
theorem binT (ha : PE X a ta) (hb : PE X b tb) {pins : List (Addr × Obj)} {s : Shared} {σ : St} {H : Hp} {R : V → V → Hp → Prop} (I : Inv X pins σ H s)
    (h : ta σ H fun x H1 => tb σ H1 fun y H2 => R x y H2) {Q : Value → Shared → Prop} {f : Value → Value → Sem Value}
    (hf : ∀ v u s2 x y H2, Inv X pins σ H2 s2 → RelV x v → RelV y u → R x y H2 → wpAny (model X.prog X.w) X.A (f v u) Q X.xe s2) :
    wpAny (model X.prog X.w) X.A (eval a X.env) (fun v s₁ => wpAny (model X.prog X.w) X.A (eval b X.env) (fun u s₂ => wpAny (model X.prog X.w) X.A (f v u) Q X.xe s₂) X.xe s₁) X.xe s := by
  refine thn (ha pins s σ H _ I h) fun v s1 ⟨x, H1, I1, r1, q1⟩ => ?_
  refine thn (hb pins s1 σ H1 _ I1 q1) fun u s2 ⟨y, H2, I2, r2, q2⟩ => ?_
  exact hf v u s2 x y H2 I2 r1 r2 q2
theorem pe_op {op : Operator} {r : R2} (ho : OpR X (binaryOp op) r) (ha : PE X a ta) (hb : PE X b tb) : PE X (.BinOp a op b pos) (tOp r ta tb) := by
  intro pins s σ H Q I h
  exact wpAny_BinOp (binT ha hb I h fun v u s2 x y H2 I2 rx ry q => ho pins s2 σ H2 x y v u Q I2 rx ry q)
theorem opI {f : Value → Value → Sem Value} {C : Int → Int → Prop} {g : Int → Int → Int}
    (rule : ∀ (i j : Int) (t u : Tok) (s : Shared) (Q : Value → Shared → Prop) (E : Value → Shared → Prop), C i j → Q (.int (g i j) s.toks) { s with toks := s.toks + 1 } → wpAny (model X.prog X.w) X.A (f (.int i t) (.int j u)) Q E s) :
    OpR X f (rI C fun i j => .int (g i j)) := by
  intro pins s σ H x y v u Q I rx ry h
  obtain ⟨i, j, rfl, rfl, hc, q⟩ := h
  obtain ⟨t, rfl⟩ := rx
  obtain ⟨t', rfl⟩ := ry
  exact rule i j t t' s _ _ hc ⟨.int (g i j), H, I.tok _, ⟨_, rfl⟩, q⟩
theorem opI0 {f : Value → Value → Sem Value} {g : Int → Int → Int}
    (rule : ∀ (i j : Int) (t u : Tok) (s : Shared) (Q : Value → Shared → Prop) (E : Value → Shared → Prop), Q (.int (g i j) s.toks) { s with toks := s.toks + 1 } → wpAny (model X.prog X.w) X.A (f (.int i t) (.int j u)) Q E s) :
    OpR X f (rI0 fun i j => .int (g i j)) := by
  intro pins s σ H x y v u Q I rx ry h
  obtain ⟨i, j, rfl, rfl, q⟩ := h
  obtain ⟨t, rfl⟩ := rx
  obtain ⟨t', rfl⟩ := ry
  exact rule i j t t' s _ _ ⟨.int (g i j), H, I.tok _, ⟨_, rfl⟩, q⟩
theorem opB0 {f : Value → Value → Sem Value} {g : Int → Int → Bool}
    (rule : ∀ (i j : Int) (t u : Tok) (s : Shared) (Q : Value → Shared → Prop) (E : Value → Shared → Prop), Q (.bool (g i j)) s → wpAny (model X.prog X.w) X.A (f (.int i t) (.int j u)) Q E s) :
    OpR X f (rI0 fun i j => .bl (g i j)) := by
  intro pins s σ H x y v u Q I rx ry h
  obtain ⟨i, j, rfl, rfl, q⟩ := h
  obtain ⟨t, rfl⟩ := rx
  obtain ⟨t', rfl⟩ := ry
  exact rule i j t t' s _ _ ⟨.bl (g i j), H, I, rfl, q⟩
def CDiv (i j : Int) : Prop := 0 < j ∧ j < 1073741824
def CPow (i j : Int) : Prop := 0 ≤ j ∧ j ≤ 1000000 ∧ i.natAbs < 2 ^ 64
def CMul (i j : Int) : Prop := (-(2 ^ 64) < i ∧ i < 2 ^ 64) ∨ (-(2 ^ 64) < j ∧ j < 2 ^ 64)
theorem CMul.ok {i j : Int} (h : CMul i j) : IntMulOk i j := by
  rcases h with ⟨h1, h2⟩ | ⟨h1, h2⟩
  · exact .of_left (intBits_le_64 h1 h2)
  · exact .of_right (intBits_le_64 h1 h2)
theorem op_add : OpR X (binaryOp .Add) (rI0 fun i j => .int (i + j)) := opI0 fun _ _ _ _ _ _ _ q => add_int q
theorem op_mul : OpR X (binaryOp .Mult) (rI CMul fun i j => .int (i * j)) := opI fun _ _ _ _ _ _ _ hc q => mul_int q hc.ok
theorem op_fdiv : OpR X (binaryOp .FloorDiv) (rI CDiv fun i j => .int (i / j)) := opI fun i j _ _ _ _ _ hc q => by
  have h1 : (0 : Int) < j := hc.1
  have h2 : j < 1073741824 := hc.2
  exact floordiv_int (by omega) (by rw [Int.fdiv_eq_ediv_of_nonneg i (by omega)]; exact q) (.inl (PyProof.noPylong_small (by omega)))
theorem op_mod : OpR X (binaryOp .Mod) (rI (fun _ j => 0 < j) fun i j => .int (i % j)) := opI fun i j _ _ _ _ _ hc q => by
  have h1 : (0 : Int) < j := hc
  exact mod_int' (by omega) (by rw [Int.fmod_eq_emod_of_nonneg i (by omega)]; exact q)
theorem op_shl : OpR X (binaryOp .LShift) (rI CPow fun i j => .int (i * 2 ^ j.toNat)) := opI fun _ _ _ _ _ _ _ hc q => lshift_int_small hc.1 hc.2.1 hc.2.2 q
end
def scal : V → V → Bool
  | .non, .non => true | .non, .int _ => true | .int _, .non => true | .non, .bl _ => true | .bl _, .non => true | .non, .str _ => true | .str _, .non => true
  | .int _, .int _ => true | .bl _, .bl _ => true | .str _, .str _ => true | .byt _, .byt _ => true
  | .int _, .str _ => true | .str _, .int _ => true | .bl _, .str _ => true | .str _, .bl _ => true
  | _, _ => false
def rEq : R2 := fun x y H Q => scal x y = true ∧ Q (.bl (decide (x = y))) H
def rNe : R2 := fun x y H Q => scal x y = true ∧ Q (.bl (!decide (x = y))) H
theorem dec_int {i j : Int} : decide (V.int i = V.int j) = (i == j) := by
  rw [Bool.eq_iff_iff]
  simp
theorem dec_bl {i j : Bool} : decide (V.bl i = V.bl j) = (i == j) := by
  rw [Bool.eq_iff_iff]
  simp
theorem dec_str {i j : Str} : decide (V.str i = V.str j) = (i == j) := by
  rw [Bool.eq_iff_iff]
  simp
theorem dec_byt {i j : Array UInt8} : decide (V.byt i = V.byt j) = (i.toList == j.toList) := by
  rw [Bool.eq_iff_iff]
  cases i
  cases j
  simp
section
variable {X : Cx} {a b c : Expr} {ta tb tc : TE} {pos : Pos}
theorem fin_bl {pins : List (Addr × Obj)} {σ : St} {H : Hp} {s : Shared} {Q : VK} {k k' : Bool} (I : Inv X pins σ H s) (q : Q (.bl k) H) (e : k = k') : EP X pins σ Q (.bool k') s := by
  subst e
  exact ⟨.bl k, H, I, rfl, q⟩
theorem op_eq : OpR X (compareOp .Eq) rEq := by
  intro pins s σ H x y v u Q I rx ry h
  obtain ⟨hs, q⟩ := h
  cases x with
  | non =>
    cases rx
    cases y with
    | non => cases ry; exact PySem.EqNone.eq_none_none (fin_bl I q (by simp))
    | bl j => cases ry; exact PySem.EqNone.eq_none_bool (fin_bl I q (by simp))
    | int j => obtain ⟨t', rfl⟩ := ry; exact PySem.EqNone.eq_none_int (fin_bl I q (by simp))
    | str j => obtain ⟨t', rfl⟩ := ry; exact PySem.EqNone.eq_none_str (fin_bl I q (by simp))
    | _ => exact absurd (show false = true from hs) Bool.false_ne_true
  | bl i =>
    cases rx
    cases y with
    | non => cases ry; exact PySem.EqNone.eq_bool_none (fin_bl I q (by simp))
    | bl j => cases ry; exact eq_bool (fin_bl I q dec_bl)
    | str j => obtain ⟨t', rfl⟩ := ry; exact PySem.EqMixed.eq_bool_str (fin_bl I q (by simp))
    | _ => exact absurd (show false = true from hs) Bool.false_ne_true
  | int i =>
    obtain ⟨t, rfl⟩ := rx
    cases y with
    | non => cases ry; exact PySem.EqNone.eq_int_none (fin_bl I q (by simp))
    | int j => obtain ⟨t', rfl⟩ := ry; exact eq_int (fin_bl I q dec_int)
    | str j => obtain ⟨t', rfl⟩ := ry; exact PySem.EqMixed.eq_int_str (fin_bl I q (by simp))
    | _ => exact absurd (show false = true from hs) Bool.false_ne_true
  | str i =>
    obtain ⟨t, rfl⟩ := rx
    cases y with
    | non => cases ry; exact PySem.EqNone.eq_str_none (fin_bl I q (by simp))
    | bl j => cases ry; exact PySem.EqMixed.eq_str_bool (fin_bl I q (by simp))
    | int j => obtain ⟨t', rfl⟩ := ry; exact PySem.EqMixed.eq_str_int (fin_bl I q (by simp))
    | str j => obtain ⟨t', rfl⟩ := ry; exact eq_str (fin_bl I q dec_str)
    | _ => exact absurd (show false = true from hs) Bool.false_ne_true
  | byt i =>
    obtain ⟨t, rfl⟩ := rx
    cases y with
    | byt j => obtain ⟨t', rfl⟩ := ry; exact PySem.W.eq_bytes (fin_bl I q dec_byt)
    | _ => exact absurd (show false = true from hs) Bool.false_ne_true
  | _ => cases y <;> exact absurd (show false = true from hs) Bool.false_ne_true
theorem op_ne : OpR X (compareOp .NotEq) rNe := by
  intro pins s σ H x y v u Q I rx ry h
  obtain ⟨hs, q⟩ := h
  cases x with
  | non =>
    cases rx
    cases y with
    | non => cases ry; exact PySem.EqNone.ne_none_none (fin_bl I q (by simp))
    | bl j => cases ry; exact PySem.EqNone.ne_none_bool (fin_bl I q (by simp))
    | int j => obtain ⟨t', rfl⟩ := ry; exact PySem.EqNone.ne_none_int (fin_bl I q (by simp))
    | str j => obtain ⟨t', rfl⟩ := ry; exact PySem.EqNone.ne_none_str (fin_bl I q (by simp))
    | _ => exact absurd (show false = true from hs) Bool.false_ne_true
  | bl i =>
    cases rx
    cases y with
    | non => cases ry; exact PySem.EqNone.ne_bool_none (fin_bl I q (by simp))
    | bl j => cases ry; exact ne_bool (fin_bl I q (congrArg not dec_bl))
    | str j => obtain ⟨t', rfl⟩ := ry; exact PySem.EqMixed.ne_bool_str (fin_bl I q (by simp))
    | _ => exact absurd (show false = true from hs) Bool.false_ne_true
  | int i =>
    obtain ⟨t, rfl⟩ := rx
    cases y with
    | non => cases ry; exact PySem.EqNone.ne_int_none (fin_bl I q (by simp))
    | int j => obtain ⟨t', rfl⟩ := ry; exact ne_int (fin_bl I q (congrArg not dec_int))
    | str j => obtain ⟨t', rfl⟩ := ry; exact PySem.EqMixed.ne_int_str (fin_bl I q (by simp))
    | _ => exact absurd (show false = true from hs) Bool.false_ne_true
  | str i =>
    obtain ⟨t, rfl⟩ := rx
    cases y with
    | non => cases ry; exact PySem.EqNone.ne_str_none (fin_bl I q (by simp))
    | bl j => cases ry; exact PySem.EqMixed.ne_str_bool (fin_bl I q (by simp))
    | int j => obtain ⟨t', rfl⟩ := ry; exact PySem.EqMixed.ne_str_int (fin_bl I q (by simp))
    | str j => obtain ⟨t', rfl⟩ := ry; exact ne_str (fin_bl I q (congrArg not dec_str))
    | _ => exact absurd (show false = true from hs) Bool.false_ne_true
  | byt i =>
    obtain ⟨t, rfl⟩ := rx
    cases y with
    | byt j => obtain ⟨t', rfl⟩ := ry; exact PySem.W.ne_bytes (fin_bl I q (congrArg not dec_byt))
    | _ => exact absurd (show false = true from hs) Bool.false_ne_true
  | _ => cases y <;> exact absurd (show false = true from hs) Bool.false_ne_true
theorem op_lt : OpR X (compareOp .Lt) (rI0 fun i j => .bl (decide (i < j))) := opB0 fun _ _ _ _ _ _ _ q => lt_int q
theorem op_le : OpR X (compareOp .LtE) (rI0 fun i j => .bl (decide (i ≤ j))) := opB0 fun _ _ _ _ _ _ _ q => le_int q
theorem op_gt : OpR X (compareOp .Gt) (rI0 fun i j => .bl (decide (j < i))) := opB0 fun _ _ _ _ _ _ _ q => gt_int q
theorem op_ge : OpR X (compareOp .GtE) (rI0 fun i j => .bl (decide (j ≤ i))) := opB0 fun _ _ _ _ _ _ _ q => ge_int q
theorem op_isN : OpR X (compareOp .Is) (fun x y H Q => y = .non ∧ Q (.bl (decide (x = .non))) H) := by
  intro pins s σ H x y v u Q I rx ry h
  obtain ⟨rfl, q⟩ := h
  cases ry
  refine is_none_gen (fin_bl I q ?_)
  cases x <;> first
    | (cases rx; rfl)
    | (obtain ⟨t, rfl⟩ := rx; rfl)
theorem op_notN : OpR X (compareOp .IsNot) (fun x y H Q => y = .non ∧ Q (.bl (!decide (x = .non))) H) := by
  intro pins s σ H x y v u Q I rx ry h
  obtain ⟨rfl, q⟩ := h
  cases ry
  refine isnot_none_gen (fin_bl I q ?_)
  cases x <;> first
    | (cases rx; rfl)
    | (obtain ⟨t, rfl⟩ := rx; rfl)
theorem nomark (b : Expr) {op : CmpOp} (h : op ≠ .In := by decide) (h2 : op ≠ .NotIn := by decide) : behindInMarks op b = false := by
  have e1 : (op == CmpOp.In) = false := by cases op <;> first | rfl | exact absurd rfl h
  have e2 : (op == CmpOp.NotIn) = false := by cases op <;> first | rfl | exact absurd rfl h2
  cases b <;> simp [behindInMarks, e1, e2]
theorem pe_cmpR {op : CmpOp} {r : R2} (ho : OpR X (compareOp op) r) (ha : PE X a ta) (hb : PE X b tb) (hm : behindInMarks op b = false) : PE X (.Compare a [op] [b] pos) (tOp r ta tb) := by
  intro pins s σ H Q I h
  exact wpAny_Compare1 (binT ha hb I h fun v u s2 x y H2 I2 rx ry q => ho pins s2 σ H2 x y v u Q I2 rx ry q) hm
def tTest (t : TE) : TT := fun σ H Q => t σ H fun x H' => ∃ k, x = .bl k ∧ Q k H'
theorem pt_cmpR {op : CmpOp} {r : R2} (ho : OpR X (compareOp op) r) (ha : PE X a ta) (hb : PE X b tb) (hm : behindInMarks op b = false) : PT X (.Compare a [op] [b] pos) (tTest (tOp r ta tb)) := by
  intro pins s σ H Q I h
  refine wpAny_isTrue_Compare1 (thn (ha pins s σ H _ I h) fun v s1 ⟨x, H1, I1, r1, q1⟩ => thn (hb pins s1 σ H1 _ I1 q1) fun u s2 ⟨y, H2, I2, r2, q2⟩ =>
    thn (ho pins s2 σ H2 x y v u _ I2 r1 r2 q2) fun c s3 ⟨z, H3, I3, r3, k, e, q3⟩ => ?_) hm
  subst e
  cases r3
  exact wpAny_truthy_bool ⟨H3, I3, q3⟩
def tChain (r r' : R2) (ta tb tc : TE) : TE := fun σ H Q => ta σ H fun x H1 => tb σ H1 fun y H2 => r x y H2 fun z H3 => ∃ k, z = .bl k ∧
  (if k = true then tc σ H3 fun w' H4 => r' y w' H4 Q else Q (.bl false) H3)
theorem pe_chain {op op' : CmpOp} {r r' : R2} (ho : OpR X (compareOp op) r) (ho' : OpR X (compareOp op') r') (ha : PE X a ta) (hb : PE X b tb) (hc : PE X c tc)
    (hm : lastMarks [op, op'] [b, c] = false := by with_unfolding_all rfl) : PE X (.Compare a [op, op'] [b, c] pos) (tChain r r' ta tb tc) := by
  intro pins s σ H Q I h
  refine Compare_chain (thn (ha pins s σ H _ I h) fun v s1 ⟨x, H1, I1, r1, q1⟩ => chain_link (thn (hb pins s1 σ H1 _ I1 q1) fun u s2 ⟨y, H2, I2, r2, q2⟩ =>
    thn (ho pins s2 σ H2 x y v u _ I2 r1 r2 q2) fun d s3 ⟨z, H3, I3, r3, k, e, q3⟩ => ?_)) hm
  subst e
  cases r3
  refine wpAny_truthy_bool ?_
  cases k with
  | false => exact ite_ff ⟨.bl false, H3, I3, rfl, q3⟩
  | true => exact ite_tt (chain_last (thn (hc pins s3 σ H3 _ I3 q3) fun w' s4 ⟨z', H4, I4, r4, q4⟩ => ho' pins s4 σ H4 y z' u w' Q I4 r2 r4 q4))
theorem line63 : (sizeLine : Nat) < 2 ^ 63 := by rw [sizeLine_eq]; decide
theorem op_add_str : OpR X (binaryOp .Add) (fun x y H Q => ∃ i j, x = .str i ∧ y = .str j ∧ i.length + j.length ≤ sizeLine ∧ Q (.str (i ++ j)) H) := by
  intro pins s σ H x y v u Q I rx ry h
  obtain ⟨i, j, rfl, rfl, hz, q⟩ := h
  obtain ⟨t, rfl⟩ := rx
  obtain ⟨t', rfl⟩ := ry
  exact add_str (fun t' tk => ⟨.str (i ++ j), H, I.tok _, ⟨_, rfl⟩, q⟩) hz
theorem vals1 {x : V} {us : List Value} (r : Vals [x] us) : ∃ u, us = [u] ∧ RelV x u := by
  cases r with
  | cons r1 r2 => cases r2; exact ⟨_, rfl, r1⟩
theorem vals2 {x y : V} {us : List Value} (r : Vals [x, y] us) : ∃ u w', us = [u, w'] ∧ RelV x u ∧ RelV y w' := by
  cases r with
  | cons r1 r2 =>
    cases r2 with
    | cons r3 r4 => cases r4; exact ⟨_, _, rfl, r1, r3⟩
theorem call_min2 (hc : X.calm = true) : CallR X (.builtin "min") (fun xs H Q => ∃ i j, xs = [.int i, .int j] ∧ Q (.int (if j < i then j else i)) H) := by
  intro pins s σ H xs us Q I r h
  obtain ⟨i, j, rfl, q⟩ := h
  obtain ⟨u, w', rfl, ⟨t, rfl⟩, ⟨t', rfl⟩⟩ := vals2 r
  refine min_two_ints (I.ok.hd hc) fun h' tk k => ⟨_, H, I.kept k, ?_, q⟩
  by_cases hj : j < i
  · rw [if_pos hj, if_pos hj]; exact ⟨_, rfl⟩
  · rw [if_neg hj, if_neg hj]; exact ⟨_, rfl⟩
theorem call_str_int : CallR X (.type "str") (fun xs H Q => ∃ i, xs = [.int i] ∧ i.natAbs.log2 < 1920 ∧ Q (.str (toString i)) H) := by
  intro pins s σ H xs us Q I r h
  obtain ⟨i, rfl, hz, q⟩ := h
  obtain ⟨u, rfl, t, rfl⟩ := vals1 r
  exact PySem.P.str_of_int hz ⟨.str _, H, I.tok _, ⟨_, rfl⟩, q⟩
end
end L2
namespace L2
open PySem PySem.Spec PyProof.Rows
structure ObjM (h : Heap) (x dx C : Addr) (mA : Str → Option Value) : Prop where
  obj : h.get? x = some (PySem.W.instObj C dx)
  ns : h.Ns1 dx mA
  ne : dx ≠ x
theorem lookIn_ns {h : Heap} {dx : Addr} {mA : Str → Option Value} (n : h.Ns1 dx mA) : ∃ od, h.get? dx = some od ∧ ∀ name, PySem.W.lookIn name od = some (mA name) := by
  obtain ⟨o, es, ep, ho, hd, hk, _, hm⟩ := n
  refine ⟨o, ho, fun name => ?_⟩
  have e := hm name
  unfold nsFind findBy at e
  rw [← Array.find?_toList] at e
  unfold PySem.W.lookIn
  rw [hd]
  dsimp only
  split
  · rename_i y q
    rw [q] at e
    exact congrArg some e
  · rename_i q
    rw [q] at e
    have a : es.toList.any (·.refKey) = false := by
      rw [List.any_eq_false]
      intro y hy
      obtain ⟨z, t, hkey⟩ := hk y (Array.mem_toList_iff.mp hy)
      simp [DictEntry.refKey, hkey]
    have a' : ¬ es.toList.any (·.refKey) = true := by rw [a]; exact Bool.false_ne_true
    rw [if_neg a']
    exact congrArg some e
theorem ObjM.look {h : Heap} {x dx C : Addr} {mA : Str → Option Value} (I : ObjM h x dx C mA) : ∃ od, PySem.W.InstAt h x (PySem.W.instObj C dx) C (some od) ∧ ∀ name, PySem.W.lookIn name od = some (mA name) :=
  let ⟨od, ho, hl⟩ := lookIn_ns I.ns
  ⟨od, ⟨I.obj, rfl, rfl, ho⟩, hl⟩
section
variable {prog : Program} {w : World} {A : Around} {E : Value → Shared → Prop} {s : Shared} {K : PySem.W.Frag} {x dx C f : Addr} {mA : Str → Option Value} {name : Str} {v : Value}
end
section
variable {P : Program} {w : World} {H H' : Hp} {h h' : Heap} {a C dx : Addr} {fs fs' : List (Str × V)}
theorem ins_get (hok : HOk P w H h) (e : H a = some (.ins C dx fs)) : ∃ mA, ObjM h a dx C mA ∧ (∀ f, RelO (fs.lookup f) (mA f)) ∧ PySem.Within mA (fs.map (·.1)) ∧ fs.length ≤ 1000 ∧ H dx = some (.own a) := by
  obtain ⟨d, z, ne, ob, mA, n, r, q⟩ := (show ObjOk P w H h a (.ins C dx fs) from hok a _ e)
  exact ⟨mA, ⟨ob, n, ne⟩, r, q, z, d⟩
end
structure Cls (K : PySem.W.Frag) (C : Addr) : Prop where
  pg : PySem.W.plainGet K C Str.empty = true
  hd : PySem.W.hasDictIn K C = true
  po : PySem.W.plainOver K C = true
  sa : PySem.W.findIn K (.ref C) "__setattr__" = some (some (.builtin "object.__setattr__"))
theorem Cls.get {K : PySem.W.Frag} {C : Addr} (c : Cls K C) (f : Str) : PySem.W.plainGet K C f = true := c.pg
structure Meth (K : PySem.W.Frag) (C : Addr) (m : Str) (f : Addr) : Prop where
  at_ : PySem.W.findIn K (.ref C) m = some (some (.ref f))
  fn : PySem.W.isFn K (.ref f) = true
  kp : PySem.W.keepIn K (.ref f) = true
section
variable {X : Cx} {pins : List (Addr × Obj)} {σ : St} {H : Hp} {s : Shared} {a C dx : Addr} {fs : List (Str × V)} {f : Str} {v : V} {A : Around} {E : Value → Shared → Prop}
theorem attr_of {prog : Program} {w : World} {env : Env} {e : Expr} {f : Str} {pos : Pos} {s : Shared} {Q : Value → Shared → Prop} (hb : attributeBase e f env (eval e env) = eval e env)
    (h : wpAny (model prog w) A (eval e env) (fun o s₁ => wpAny (model prog w) A (getAttr o f true) Q E s₁) E s) : wpAny (model prog w) A (eval (.Attribute e f pos) env) Q E s :=
  Attribute_any_ h (by rw [arm_eval_Attribute, hb])
end
section
variable {X : Cx} {o e value : Expr} {f : Str} {pos pos' tpos : Pos} {ta tv : TE}
end
section
variable {X : Cx} {pins : List (Addr × Obj)} {σ : St} {H : Hp} {s : Shared} {A : Around} {E : Value → Shared → Prop} {Q : Value → Shared → Prop} {c : Value} {b : Bool}
inductive TyOf (K : PySem.W.Frag) (H : Hp) : V → Value → Prop where
  | non : TyOf K H .non (.type "NoneType")
  | bl (x : Bool) : TyOf K H (.bl x) (.type "bool")
  | int (i : Int) : TyOf K H (.int i) (.type "int")
  | str (x : Str) : TyOf K H (.str x) (.type "str")
  | flt (x : UInt64) : TyOf K H (.flt x) (.type "float")
  | lst {a : Addr} {xs : List V} (e : H a = some (.lst xs)) : TyOf K H (.ref a) (.type "list")
  | frz {a : Addr} {o : Obj} {xs : List V} (e : H a = some (.frz o (.lst xs))) : TyOf K H (.ref a) (.type "list")
  | tup {a : Addr} {xs : List V} (e : H a = some (.tup xs)) : TyOf K H (.ref a) (.type "tuple")
  | dK {a : Addr} {kvs : List (Key × V)} (e : H a = some (.dK kvs)) : TyOf K H (.ref a) (.type "dict")
  | dT {a : Addr} {kvs : List (List Key × V)} (e : H a = some (.dT kvs)) : TyOf K H (.ref a) (.type "dict")
  | ins {a C dx : Addr} {fs : List (Str × V)} (e : H a = some (.ins C dx fs)) (cl : Cls K C) (ha : PySem.W.findIn K (.ref C) "__class__" = some (some (.builtin "object.__class__")))
      (hn : PySem.W.specialIn K (.builtin "object.__class__") "__get__" = some (some (.builtin "getset_descriptor.__get__"))) (htk : PySem.W.takesIn K (.builtin "object.__class__") = some true)
      (hm : PySem.W.mroIn K C (.type "object") = some true) : TyOf K H (.ref a) (.ref C)
theorem isinst_ok {x : V} {u t : Value} (I : Inv X pins σ H s) (rx : RelV x u) (ty : TyOf X.K H x t) (e : PySem.W.kitOne X.K t c = some b) (h : ∀ tk, Q (.bool b) { s with toks := tk }) :
    wpAny (model X.prog X.w) A (call (.builtin "isinstance") [u, c]) Q E s := by
  cases ty with
  | non => cases (show u = Value.none from rx); exact PySem.W.kia_one PySem.W.kitx_none I.kIn True.intro e (fun z => nomatch z) h
  | bl y => cases (show u = Value.bool y from rx); exact PySem.W.kia_one PySem.W.kitx_bool I.kIn True.intro e (fun z => nomatch z) h
  | int i => obtain ⟨t, q⟩ := (show ∃ t, u = Value.int i t from rx); cases q; exact PySem.W.kia_one PySem.W.kitx_int I.kIn True.intro e (fun z => nomatch z) h
  | str y => obtain ⟨t, q⟩ := (show ∃ t, u = Value.str y t from rx); cases q; exact PySem.W.kia_one PySem.W.kitx_str I.kIn True.intro e (fun z => nomatch z) h
  | flt y => obtain ⟨t, q⟩ := (show ∃ t, u = Value.float y t from rx); cases q; exact PySem.W.kia_one PySem.W.kitx_float I.kIn True.intro e (fun z => nomatch z) h
  | @lst a xs ea =>
    cases (show u = Value.ref a from rx)
    obtain ⟨_, _, n, _, h1⟩ := (show ObjOk X.prog X.w H s.heap a (.lst xs) from I.hok a _ ea)
    exact PySem.W.kia_one PySem.W.kitx_list I.kIn ⟨_, h1, rfl⟩ e (fun z => nomatch z) h
  | @frz a ob xs ea =>
    cases (show u = Value.ref a from rx)
    obtain ⟨_, _, _, n, _, h1⟩ := (show ObjOk X.prog X.w H s.heap a (.frz ob (.lst xs)) from I.hok a _ ea)
    exact PySem.W.kia_one PySem.W.kitx_list I.kIn ⟨_, h1, rfl⟩ e (fun z => nomatch z) h
  | @tup a xs ea =>
    cases (show u = Value.ref a from rx)
    obtain ⟨_, _, _, p⟩ := (show ObjOk X.prog X.w H s.heap a (.tup xs) from I.hok a _ ea)
    obtain ⟨o, h1, h2, _⟩ := p
    exact PySem.W.kia_one PySem.W.kitx_tuple I.kIn ⟨o, h1, h2⟩ e (fun z => nomatch z) h
  | @dK a kvs ea =>
    cases (show u = Value.ref a from rx)
    obtain ⟨_, _, vs, _, p⟩ := (show ObjOk X.prog X.w H s.heap a (.dK kvs) from I.hok a _ ea)
    obtain ⟨o, es, ep, h1, h2, _⟩ := p
    exact PySem.W.kia_one PySem.W.kitx_dict I.kIn ⟨o, h1, h2.1⟩ e (fun z => nomatch z) h
  | @dT a kvs ea =>
    cases (show u = Value.ref a from rx)
    obtain ⟨_, _, xs, _, o, es, ep, h1, h2, _⟩ := (show ObjOk X.prog X.w H s.heap a (.dT kvs) from I.hok a _ ea)
    exact PySem.W.kia_one PySem.W.kitx_dict I.kIn ⟨o, h1, h2.1⟩ e (fun z => nomatch z) h
  | @ins a C dx fs ea cl ha hn htk hm =>
    cases (show u = Value.ref a from rx)
    obtain ⟨mA, O, _⟩ := ins_get I.hok ea
    obtain ⟨od, J, _⟩ := O.look
    exact PySem.W.kia_one (PySem.W.kitx_own (cl.get _) cl.hd ha hn htk hm) I.kIn J e (fun z => nomatch z) h
end
end L2
namespace L2
open PySem PySem.Spec PyProof.Rows
structure Room (k : Nat) (A : Around) : Prop where
  hd : A.handled = none
  dp : A.depth + 3 * k + 5 < recursionLimit
  un : A.units + 16 * k + 200 < cLine
theorem Room.mono {j k : Nat} {A : Around} (r : Room k A) (h : j ≤ k) : Room j A := ⟨r.hd, by have := r.dp; omega, by have := r.un; omega⟩
theorem Room.deeper {k : Nat} {A : Around} (r : Room (k + 1) A) (env : Env) : Room k (A.deeper env) :=
  ⟨r.hd, by have := r.dp; show A.depth + 1 + 3 * k + 5 < _; omega, by have := r.un; show A.units + 3 + 16 * k + 200 < _; omega⟩
theorem make_depth {A : Around} {C : Addr} {us : List Value} {kw : List (Str × Value)} : (A.under (.builtin "type.__call__" ⟨.ref C :: us, kw⟩)).depth = A.depth + 1 := by
  first | rfl | simp [Around.under, Code.weight, Code.isCreation, Code.isGuard, Code.isCaller, Code.frames, Code.isFrame, guardIds]
theorem make_units {A : Around} {C : Addr} {us : List Value} {kw : List (Str × Value)} : (A.under (.builtin "type.__call__" ⟨.ref C :: us, kw⟩)).units = A.units + 1 := by
  first | rfl | simp [Around.under, Code.cUnits, Code.frames, Code.isFrame]
theorem Room.make {k : Nat} {A : Around} (r : Room (k + 1) A) (C : Addr) (us : List Value) (kw : List (Str × Value)) : Room k (A.under (.builtin "type.__call__" ⟨.ref C :: us, kw⟩)) :=
  ⟨r.hd, by have := r.dp; rw [make_depth]; omega, by have := r.un; rw [make_units]; omega⟩
theorem Room.depth {k : Nat} {A : Around} (r : Room k A) : A.depth < recursionLimit := by have := r.dp; omega
def tNil : TA := fun _ H Q => Q [] H
def tCons (ta : TE) (tr : TA) : TA := fun σ H Q => ta σ H fun x H1 => tr σ H1 fun xs H2 => Q (x :: xs) H2
section
variable {X : Cx} {e : Expr} {es : List Expr} {te : TE} {t : TA} {pos : Pos}
theorem pa_nil : PA X [] tNil := fun _ _ _ _ H Q I h => Calls.spliced_nil ⟨[], H, I, .nil, h⟩
theorem pa_cons (ha : PE X e te) (hr : PA X es t) (hs : starEach (e :: es) X.env = (false, eval e X.env) :: starEach es X.env := by rfl) : PA X (e :: es) (tCons te t) := by
  intro pos pins s σ H Q I h
  rw [hs]
  show wpAny _ _ (spliced ((false, eval e X.env) :: backTo pos (starEach es X.env))) _ _ s
  refine Calls.spliced_cons (thn (ha pins s σ H _ I h) fun u s1 ⟨x, H1, I1, r1, q1⟩ => ?_)
  exact thn (hr pos pins s1 σ H1 _ I1 q1) fun us s2 ⟨xs, H2, I2, r2, q2⟩ => ⟨x :: xs, H2, I2, .cons r1 r2, q2⟩
def tTup (t : TA) : TE := fun σ H Q => t σ H fun xs H1 => xs.length ≤ sizeLine ∧ ∀ p, H1 p = none → Q (.ref p) (upd H1 p (.tup xs))
def tLst (t : TA) : TE := fun σ H Q => t σ H fun xs H1 => xs.length ≤ sizeLine ∧ ∀ p, H1 p = none → Q (.ref p) (upd H1 p (.lst xs))
theorem pe_tup {x1} (h : PA X es t) : PE X (.Tuple es x1 pos) (tTup t) := by
  intro pins s σ H Q I hq
  refine wpAny_Tuple_spliced (thn (h pos pins s σ H _ I hq) fun us s1 ⟨xs, H1, I1, r, z, q⟩ => ⟨by rw [← r.length]; exact z, ?_⟩)
  have hf : H1 s1.heap.objs.size = none := I1.hok.fresh (Nat.le_refl _)
  refine ⟨.ref s1.heap.objs.size, upd H1 s1.heap.objs.size (.tup xs), I1.laid (t' := s1.toks) (fun b u e => Heap.get?_push_of_some _ e) (Nat.le_refl _) ?_, rfl, q _ hf⟩
  exact ⟨z, us, r, ⟨_, Heap.get?_push_size _ rfl, rfl, _, rfl⟩⟩
theorem pe_lst (h : PA X es t) : PE X (.List es pos) (tLst t) := by
  intro pins s σ H Q I hq
  refine wpAny_List_spliced (thn (h pos pins s σ H _ I hq) fun us s1 ⟨xs, H1, I1, r, z, q⟩ => ⟨by rw [← r.length]; exact z, ?_⟩)
  have hf : H1 s1.heap.objs.size = none := I1.hok.fresh (Nat.le_refl _)
  refine ⟨.ref s1.heap.objs.size, upd H1 s1.heap.objs.size (.lst xs), I1.laid (t' := s1.toks) (fun b u e => Heap.get?_push_of_some _ e) (Nat.le_refl _) ?_, rfl, q _ hf⟩
  exact ⟨z, us, 0, r, Heap.get?_push_size _ rfl⟩
end
abbrev Sp := List V → Hp → VK → XK → Prop
abbrev CXT := List Env → Hp → Shared → XK → Value → Shared → Prop
structure Env0 (P : Program) (w : World) (K : PySem.W.Frag) (mg : Str → Option Value) (base : Heap) (A : Around) (outer : List Env) (s : Shared) (H : Hp) : Prop where
  frames : A.frames = some outer
  mod : Mod K mg base
  bs : ∀ b o, base.get? b = some o → s.heap.get? b = some o ∧ H b = none
  bsz : base.objs.size ≤ s.heap.objs.size
  funs : s.heap.FunFrames base outer
  frf : ∀ b ∈ frs outer, H b = none
  hok : HOk P w H s.heap
  bare : AllBare s.gens
def CE (outer : List Env) (P : Program) (w : World) (H : Hp) (s : Shared) (Q : VK) (u : Value) (s' : Shared) : Prop :=
  ∃ v H', s'.os = s.os ∧ AllBare s'.gens ∧ Un (frs outer) [] H H' s.heap s'.heap ∧ HOk P w H' s'.heap ∧ RelV v u ∧ Q v H'
def CR (CX : CXT) (outer : List Env) (P : Program) (w : World) (H : Hp) (s : Shared) (Q : VK) (E : XK) (r : Result) (s' : Shared) : Prop :=
  match r with
  | .ok (.ret u) => CE outer P w H s Q u s'
  | .ok _ => False
  | .error e => CX outer H s E e s'
structure FnOk (P : Program) (w : World) (K : PySem.W.Frag) (mg : Str → Option Value) (base : Heap) (CX : CXT) (k : Nat) (f : Addr) (fd : FuncData) (ps : List Str) (sp : Sp) : Prop where
  len : ∀ vs H Q E, sp vs H Q E → vs.length = ps.length
  run : ∀ (A : Around) (outer : List Env) (s : Shared) (H : Hp) (args : Args) (us : List Value) (vs : List V) (Q : VK) (E : XK), Room k A → Env0 P w K mg base A outer s H → BindsTo s fd args (ps.zip us) → Vals vs us → sp vs H Q E →
    codeAny (model P w) A (.call (.ref f) args) (CR CX outer P w H s Q E) s
theorem Env0.make {P : Program} {w : World} {K : PySem.W.Frag} {mg : Str → Option Value} {base : Heap} {A : Around} {outer : List Env} {s : Shared} {H : Hp} (e : Env0 P w K mg base A outer s H) (C : Addr) (us : List Value) (kw : List (Str × Value)) :
    Env0 P w K mg base (A.under (.builtin "type.__call__" ⟨.ref C :: us, kw⟩)) outer s H := ⟨by first | exact e.frames | (simpa [Around.under, Code.envs, Code.isFrame, pushEnvs] using e.frames), e.mod, e.bs, e.bsz, e.funs, e.frf, e.hok, e.bare⟩
section
variable {X : Cx} {pins : List (Addr × Obj)} {σ : St} {H : Hp} {s s' : Shared}
theorem Inv.env0 (I : Inv X pins σ H s) : Env0 X.prog X.w X.K X.mg X.base X.A X.stack s H :=
  ⟨I.ok.frames, I.ok.mod, I.bs, Nat.le_trans I.ok.bsz I.sz, I.stack, I.stkFree, I.hok, I.bare⟩
theorem Inv.after {Q : VK} {u : Value} (I : Inv X pins σ H s) (h : CE X.stack X.prog X.w H s Q u s') : EP X pins σ Q u s' := by
  obtain ⟨v, H', os, bare, un, hok, r, q⟩ := h
  obtain ⟨hh, g, d, t, os'⟩ := s'
  obtain rfl : os' = s.os := os
  exact ⟨v, H', I.call (h' := hh) (g' := g) (d' := d) (t' := t) (ch := []) un hok bare (fun b z => absurd z (by simp)), r, q⟩
end
def tCall (sp : Sp) (dvs : List V) (E : XK) (t : TA) : TE := fun σ H Q => t σ H fun vs H1 => sp (vs ++ dvs) H1 Q E
def Binds (K : PySem.W.Frag) (fd : FuncData) (ps : List Str) (ds : List Value) : Prop :=
  ∀ (s : Shared) (us : List Value), K.In s.heap → (us ++ ds).length = ps.length → BindsTo s fd ⟨us, []⟩ (ps.zip (us ++ ds))
theorem Binds.all {K : PySem.W.Frag} {fd : FuncData} {ps : List Str} (h : ∀ us : List Value, us.length = ps.length → bindArgs fd ⟨us, []⟩ = pure (ps.zip us)) : Binds K fd ps [] := fun s us _ hl => by
  rw [List.append_nil] at hl ⊢
  exact .of_eq (h us hl)
def Passes (CX : CXT) (X : Cx) (E : XK) : Prop := ∀ (pins : List (Addr × Obj)) (σ : St) (H : Hp) (s : Shared) (e : Value) (s' : Shared), Inv X pins σ H s → CX X.stack H s E e s' → X.xe e s'
section
variable {X : Cx} {CX : CXT} {k : Nat} {f C : Addr} {fd : FuncData} {ps : List Str} {sp : Sp} {dvs : List V} {ds : List Value} {E : XK} {x m : Str} {p pos apos : Pos} {e o : Expr} {es : List Expr} {ta : TE} {t : TA}
theorem run_fn {pins : List (Addr × Obj)} {σ : St} {H : Hp} {s : Shared} {Q : VK} {us : List Value} {vs : List V} (F : FnOk X.prog X.w X.K X.mg X.base CX k f fd ps sp) (hr : Room k X.A) (hb : Binds X.K fd ps ds) (hd : Vals dvs ds) (hx : Passes CX X E)
    (I : Inv X pins σ H s) (r : Vals vs us) (h : sp (vs ++ dvs) H Q E) : wpAny (model X.prog X.w) X.A (call (.ref f) us) (EP X pins σ Q) X.xe s := by
  have r2 : Vals (vs ++ dvs) (us ++ ds) := r.append hd
  have hl : (us ++ ds).length = ps.length := by rw [← r2.length]; exact F.len _ _ _ _ h
  refine wpAny_call (codeAny_mono (F.run X.A X.stack s H ⟨us, []⟩ (us ++ ds) (vs ++ dvs) Q E hr I.env0 (hb s us I.kIn hl) r2 h) fun r s' hq => ?_)
  cases r with
  | error e => exact hx pins σ H s e s' I hq
  | ok fl =>
    cases fl with
    | ret u => exact I.after hq
    | next => exact False.elim hq
    | brk => exact False.elim hq
    | cont => exact False.elim hq
theorem pe_call (F : FnOk X.prog X.w X.K X.mg X.base CX k f fd ps sp) (hr : Room k X.A) (hg : Gl X x) (hm : X.mg x = some (.ref f)) (hk : PySem.W.keepIn X.K (.ref f) = true) (hb : Binds X.K fd ps ds) (hd : Vals dvs ds) (hx : Passes CX X E)
    (ha : PA X (e :: es) t) (hdb : (x == ("__debug__" : Str)) = false := by decide) (he : starEach (e :: es) X.env = (false, eval e X.env) :: starEach es X.env := by rfl) (hpl : (backTo pos (starEach es X.env)).any (·.1) = false := by rfl) :
    PE X (.Call (.Name x p) (e :: es) [] pos) (tCall sp dvs E t) := by
  intro pins s σ H Q I h
  refine wpAny_Call_Name_kw (ld_glob I hg hm ?_ hdb)
  refine PySem.W.callWith_K (h₀ := X.base) I.ok.mod.kin hk (thn (ha pos pins s σ H _ I h) fun us s1 ⟨vs, H1, I1, r, q⟩ => ⟨I1.kIn, ?_⟩) he hpl
  exact run_fn F hr hb hd hx I1 r q
end
section
variable {X : Cx} {CX : CXT} {k : Nat} {f C : Addr} {fd : FuncData} {ps ks : List Str} {sp : Sp} {E : XK} {x m : Str} {p pos apos kpos : Pos} {e o : Expr} {es : List Expr} {kws : List Keyword} {te ta : TE} {t tk : TA} {nm : Option Str}
variable {g : List Value → List Value → List Value} {gV : List V → List V → List V}
end
structure FnScope (N P : List Str) (sc : Scope) : Prop where
  kind : sc.kind = .function
  co : sc.isCoroutine = false
  gen : sc.isGenerator = false
  nd : N.Nodup
  pre : N.take P.length = P
  par : ∀ x ∈ P, sc.names.lookup x = some .local ∨ sc.names.lookup x = some .cell
  nofree : ∀ y ∈ sc.names, y.2 ≠ .free
theorem bindL_out {kindOf : Str → Option NameKind} {x : Str} : ∀ {binds : List (Str × Value)} {m : Str → Option Value}, (∀ v, (x, v) ∉ binds) → bindL kindOf binds m x = m x
  | [], _, _ => rfl
  | (n, v) :: r, m, h => by
    unfold bindL
    rw [bindL_out fun w hw => h w (List.mem_cons_of_mem _ hw)]
    split
    · have : x ≠ n := by rintro rfl; exact h v List.mem_cons_self
      simp [this]
    · rfl
theorem bindC_out {kindOf : Str → Option NameKind} {x : Str} : ∀ {binds : List (Str × Value)} {m : Str → Option Value}, (∀ v, (x, v) ∉ binds) → bindC kindOf binds m x = m x
  | [], _, _ => rfl
  | (n, v) :: r, m, h => by
    unfold bindC
    rw [bindC_out fun w hw => h w (List.mem_cons_of_mem _ hw)]
    split
    · rfl
    · have : x ≠ n := by rintro rfl; exact h v List.mem_cons_self
      simp [this]
theorem bindL_get {kindOf : Str → Option NameKind} {x : Str} {v : Value} : ∀ {P : List Str} {vs : List Value} {i : Nat} {m : Str → Option Value}, P.Nodup → P[i]? = some x → vs[i]? = some v → kindOf x = some .local →
    bindL kindOf (P.zip vs) m x = some v
  | [], _, _, _, _, h, _, _ => by simp at h
  | _ :: _, [], _, _, _, _, h, _ => by simp at h
  | p :: P, w :: vs, 0, m, nd, h1, h2, hk => by
    simp at h1 h2; subst h1; subst h2
    show bindL kindOf ((p, w) :: P.zip vs) m p = _
    unfold bindL
    rw [bindL_out fun v hv => (List.nodup_cons.mp nd).1 (List.of_mem_zip hv).1, if_pos hk]
    simp
  | p :: P, w :: vs, i + 1, m, nd, h1, h2, hk => by
    show bindL kindOf ((p, w) :: P.zip vs) m x = _
    unfold bindL
    exact bindL_get (i := i) (List.nodup_cons.mp nd).2 (by simpa using h1) (by simpa using h2) hk
theorem bindC_get {kindOf : Str → Option NameKind} {x : Str} {v : Value} : ∀ {P : List Str} {vs : List Value} {i : Nat} {m : Str → Option Value}, P.Nodup → P[i]? = some x → vs[i]? = some v → kindOf x ≠ some .local →
    bindC kindOf (P.zip vs) m x = some v
  | [], _, _, _, _, h, _, _ => by simp at h
  | _ :: _, [], _, _, _, _, h, _ => by simp at h
  | p :: P, w :: vs, 0, m, nd, h1, h2, hk => by
    simp at h1 h2; subst h1; subst h2
    show bindC kindOf ((p, w) :: P.zip vs) m p = _
    unfold bindC
    rw [bindC_out fun v hv => (List.nodup_cons.mp nd).1 (List.of_mem_zip hv).1, if_neg hk]
    simp
  | p :: P, w :: vs, i + 1, m, nd, h1, h2, hk => by
    show bindC kindOf ((p, w) :: P.zip vs) m x = _
    unfold bindC
    exact bindC_get (i := i) (List.nodup_cons.mp nd).2 (by simpa using h1) (by simpa using h2) hk
def start (N : List Str) (vs : List V) : St := vs.map some ++ List.replicate (N.length - vs.length) none
def cxOf (CX : CXT) (P : Program) (w : World) (K : PySem.W.Frag) (mg : Str → Option Value) (base : Heap) (N : List Str) (qual : Str) (scope : Scope) (f : Addr) (cd : Value) (A : Around) (outer : List Env) (s : Shared) (H : Hp) (E : XK) : Cx where
  prog := P
  w := w
  K := K
  mg := mg
  base := base
  A := A.deeper (envOfC qual scope s.heap.objs.size f cd)
  N := N
  s₀ := s
  H₀ := H
  env := envOfC qual scope s.heap.objs.size f cd
  outer := outer
  stack := envOfC qual scope s.heap.objs.size f cd :: outer
  ex := []
  calm := true
  fn := fun _ => true
  pn := []
  xe := fun e s' => wpAny (model P w) (A.deeper (envOfC qual scope s.heap.objs.size f cd)) (leaving (envOfC qual scope s.heap.objs.size f cd) e) (fun _ s'' => CX outer H s E e s'') (fun e' s'' => CX outer H s E e' s'') s'
theorem cell_has {sc : Scope} {n : Nat} {x : Str} (h : sc.names.lookup x = some .cell) : ∃ c, (cellsFrom n sc.names []).lookup x = some c := by
  have q := PySem.W.cellsFrom_some sc.names n [] (.inl h)
  exact Option.isSome_iff_exists.mp q
theorem inv_start {CX : CXT} {P : Program} {w : World} {K : PySem.W.Frag} {mg : Str → Option Value} {base : Heap} {N ps : List Str} {qual : Str} {scope : Scope} {f : Addr} {cd : Value} {A : Around} {outer : List Env} {s s1 : Shared} {H : Hp} {E : XK} {us : List Value} {vs : List V}
    (S : FnScope N ps scope) (hd : A.handled = none) (e0 : Env0 P w K mg base A outer s H) (hl : vs.length = ps.length) (r : Vals vs us)
    (x : InCallC s s.heap.objs.size (bindL (envOfC qual scope s.heap.objs.size f cd).kindOf (ps.zip us) fun _ => none) (cellsFrom (s.heap.objs.size + 1) scope.names []) (bindC (envOfC qual scope s.heap.objs.size f cd).kindOf (ps.zip us) fun _ => none) s1) :
    Inv (cxOf CX P w K mg base N qual scope f cd A outer s H E) [] (start N vs) H s1 := by
  have hpl : ps.length ≤ N.length := by have := congrArg List.length S.pre; rw [List.length_take] at this; omega
  obtain ⟨h1, tk, rfl, hk⟩ := x.done
  have noA : ∀ b : Addr, b ∉ (cxOf CX P w K mg base N qual scope f cd A outer s H E).ex := fun b z => absurd (show b ∈ ([] : List Addr) from z) (by simp)
  refine ⟨⟨e0.mod, S.kind, rfl, rfl, Nat.le_refl _, fun y z c h1 h2 => ?_, fun y hy => ?_, fun y c _ h => ?_, fun _ => hd, Around.frames_deeper e0.frames, .inr ⟨rfl, rfl⟩, fun b z => absurd z (noA b), e0.bs, e0.bsz, fun b _ _ => noA b, fun b z => absurd z (noA b), e0.funs, e0.frf⟩,
    rfl, e0.bare, Un.kept hk, ⟨_, x.toInCall.ns, fun i y v h1 h2 h3 => ?_⟩, fun y c h => ⟨_, x.cell y c h⟩, e0.hok.fresh (Nat.le_refl _), fun y c h => ?_, fun p hp => absurd (show p ∈ ([] : List (Addr × Obj)) from hp) (by simp), e0.hok.kept hk, ?_⟩
  · exact name_of_addr x.apart (PySem.mem_of_lookup h1) (PySem.mem_of_lookup h2)
  · have hy : scope.names.lookup y = some .cell ∨ scope.names.lookup y = some .free := hy
    rcases hy with hy | hy
    · exact cell_has hy
    · exact absurd rfl (S.nofree _ (PySem.mem_of_lookup hy))
  · exact Nat.le_of_lt (x.above y c (PySem.mem_of_lookup h))
  · have hi : i < vs.length := by
      unfold start at h2
      by_cases hi : i < vs.length
      · exact hi
      · rw [List.getElem?_append_right (by simpa using hi)] at h2
        rw [List.getElem?_replicate] at h2
        split at h2 <;> cases h2
    have ha : vs[i]? = some v := by
      unfold start at h2
      rw [List.getElem?_append_left (by simpa using hi), List.getElem?_map] at h2
      cases e : vs[i]? with
      | none => rw [e] at h2; cases h2
      | some a => rw [e] at h2; cases h2; rfl
    obtain ⟨u, hu, rv⟩ := r.get ha
    have hp : ps[i]? = some y := by
      rw [← S.pre, List.getElem?_take_of_lt (by omega)]; exact h1
    have ndP : ps.Nodup := by rw [← S.pre]; exact S.nd.sublist (List.take_sublist _ _)
    refine ⟨u, rv, ?_⟩
    rcases S.par y (List.mem_of_getElem? hp) with k | k
    · exact .inl ⟨k, bindL_get ndP hp hu k⟩
    · obtain ⟨c, e⟩ := cell_has (n := s.heap.objs.size + 1) k
      refine .inr ⟨.inl k, c, e, ?_⟩
      have q := x.cell y c e
      rw [bindC_get ndP hp hu (by show scope.names.lookup y ≠ _; rw [k]; decide)] at q
      exact q
  · exact .inl (e0.hok.fresh (Nat.le_of_lt (x.above y c (PySem.mem_of_lookup h))))
  · unfold start
    show _ = N.length
    rw [List.length_append, List.length_map, List.length_replicate]
    omega
theorem fn_of {CX : CXT} {P : Program} {w : World} {K : PySem.W.Frag} {mg : Str → Option Value} {base : Heap} {k : Nat} {f : Addr} {name qual : Str} {params : Arguments} {body : List Stmt} {scope : Scope} {dV kV doc pm cdv ct oc : Value} {an od : Option Addr}
    {osl : Array (Option Value)} {N ps : List Str} {sp : Sp} (lk : K.lookup f = some ⟨oc, od, .func (PySem.W.fnOf name qual params body scope dV kV doc pm an cdv ct), osl⟩) (hcd : PySem.W.codeIn K cdv qual = true) (S : FnScope N ps scope)
    (len : ∀ vs H Q E, sp vs H Q E → vs.length = ps.length)
    (hbody : ∀ (A : Around) (outer : List Env) (s : Shared) (H : Hp) (vs : List V) (Q : VK) (E : XK), Room k (A.deeper (envOfC qual scope s.heap.objs.size f cdv)) → sp vs H Q E →
      ∃ t, PSs (cxOf CX P w K mg base N qual scope f cdv A outer s H E) body t ∧ t { nx := fun _ H' => Q .non H', rt := Q } (start N vs) H) :
    FnOk P w K mg base CX (k + 1) f (PySem.W.fnOf name qual params body scope dV kV doc pm an cdv ct) ps sp := by
  refine ⟨len, fun A outer s H args us vs Q E hr e0 hb r hsp => ?_⟩
  have hl := len _ _ _ _ hsp
  have KX : K.In s.heap := e0.mod.kin.keeps fun b o e => (e0.bs b o e).1
  have lim : s.heap.NoLimit := e0.mod.nolimit.keeps fun b o e => (e0.bs b o e).1
  have hkind : ∀ y ∈ ps.zip us, scope.names.lookup y.1 = some .local ∨ (scope.names.lookup y.1 = some .cell ∧ ((cellsFrom (s.heap.objs.size + 1) scope.names []).lookup y.1).isSome = true) := fun ⟨n, v⟩ hy => by
    rcases S.par n (List.of_mem_zip hy).1 with q | q
    · exact .inl q
    · exact .inr ⟨q, PySem.W.cellsFrom_some _ _ _ (.inl q)⟩
  refine codeAny_call_function hr.depth (KX _ _ lk) rfl S.co S.gen rfl (PySem.W.codeRec_of KX hcd) (hb _ _ _ _ ?_)
  refine wpAny_newFunctionEnv_cells S.kind hkind fun env he s1 x => ?_
  subst he
  refine ⟨lim.keeps x.toInCall.keep, codeAny_func ?_⟩
  obtain ⟨t, ht, hq⟩ := hbody A outer s H vs Q E (hr.deeper _) hsp
  have I : Inv (cxOf CX P w K mg base N qual scope f cdv A outer s H E) [] (start N vs) H s1 := inv_start S hr.hd e0 hl r x
  refine wpAny_mono (ht [] s1 (start N vs) H _ I hq) (fun fl s' hs => ?_) fun e s' hs => hs
  have fin : ∀ {σ' : St} {H' : Hp} {v : V} {u : Value}, Inv (cxOf CX P w K mg base N qual scope f cdv A outer s H E) [] σ' H' s' → RelV v u → Q v H' → CE outer P w H s Q u s' :=
    fun {σ' H' v u} J rv q => ⟨v, H', J.os, J.bare, J.base, J.hok, rv, q⟩
  cases fl with
  | ret u =>
    obtain ⟨v, σ', H', J, rv, q⟩ := hs
    exact fin J rv q
  | next =>
    obtain ⟨σ', H', J, q⟩ := hs
    exact fin (v := V.non) (u := Value.none) J rfl q
  | brk =>
    obtain ⟨_, _, _, q⟩ := hs
    exact False.elim q
  | cont =>
    obtain ⟨_, _, _, q⟩ := hs
    exact False.elim q
end L2
namespace L2
open PySem PySem.Spec PyProof.Rows
section
variable {X : Cx} {x : Str} {p pos : Pos} {e : Expr} {es : List Expr} {t : TA} {id T : String} {r : List V → Hp → VK → Prop}
def tCB (r : List V → Hp → VK → Prop) (t : TA) : TE := fun σ H Q => t σ H fun vs H1 => r vs H1 Q
theorem pe_callB (hc : CallR X (.builtin id) r) (hg : Gl X x) (hm : X.mg x = none) (hv : bootBuiltins x = some (.builtin id)) (ha : PA X (e :: es) t) (hn : x ≠ "__name__" := by decide) (hdb : (x == ("__debug__" : Str)) = false := by decide)
    (he : starEach (e :: es) X.env = (false, eval e X.env) :: starEach es X.env := by rfl) (hpl : (backTo pos (starEach es X.env)).any (·.1) = false := by rfl) : PE X (.Call (.Name x p) (e :: es) [] pos) (tCB r t) := by
  intro pins s σ H Q I h
  refine wpAny_Call_Name_kw (ld_blt I hg hm hv ?_ hn hdb)
  exact PyProof.Rows.callWith_builtin1 (thn (ha pos pins s σ H _ I h) fun us s1 ⟨vs, H1, I1, r1, q1⟩ => hc pins s1 σ H1 vs us Q I1 r1 q1) he hpl
theorem pe_callTy (hc : CallR X (.type T) r) (hg : Gl X x) (hm : X.mg x = none) (hv : bootBuiltins x = some (.type T)) (ha : PA X (e :: es) t) (hn : x ≠ "__name__" := by decide) (hdb : (x == ("__debug__" : Str)) = false := by decide)
    (he : starEach (e :: es) X.env = (false, eval e X.env) :: starEach es X.env := by rfl) (hpl : (backTo pos (starEach es X.env)).any (·.1) = false := by rfl) : PE X (.Call (.Name x p) (e :: es) [] pos) (tCB r t) := by
  intro pins s σ H Q I h
  refine wpAny_Call_Name_kw (ld_blt I hg hm hv ?_ hn hdb)
  exact PyProof.Rows.callWith_type1 (thn (ha pos pins s σ H _ I h) fun us s1 ⟨vs, H1, I1, r1, q1⟩ => hc pins s1 σ H1 vs us Q I1 r1 q1) he hpl
end
end L2
namespace HT
open PySem PyProof.Rows
section
open PySem.SeqAt
open PySem.AutoSeq1 (wpAny_loadPart')
open PySem.MeetsSeq PySem.MeetsSeq2 PySem.MeetsSeq3
end
section
variable {prog : Program} {w : World} {A : Around} {E : Value → Shared → Prop} {s : Shared}
theorem cat_tup {t b : Addr} {vs ws : List Value} {Q : Value → Shared → Prop} (ht : IsTup s.heap t vs.toArray) (hb : IsTup s.heap b ws.toArray) (hv : vs ≠ [])
    (h1 : ws = [] → Q (.ref t) s) (h2 : ws ≠ [] → Q (.ref s.heap.objs.size) { s with heap := s.heap.push { cls := .type "tuple", data := .seq (vs ++ ws).toArray } })
    (hsz : vs.length + ws.length ≤ sizeLine) : wpAny (model prog w) A (binaryOp .Add (.ref t) (.ref b)) Q E s := by
  obtain ⟨⟨cls, dd, data, sl⟩, ho, hc, n, hd⟩ := id ht
  obtain ⟨⟨cls2, dd2, data2, sl2⟩, ho2, hc2, n2, hd2⟩ := id hb
  simp only at hc hd hc2 hd2
  subst hc hd hc2 hd2
  have e : vs.toArray ++ ws.toArray = (vs ++ ws).toArray := by simp
  by_cases hw : ws = []
  · exact concat_meets ⟨_, ho, rfl⟩ ⟨_, ho2, rfl⟩ noFill_tuple_add seq_tuple_add PySem.F.slot_tuple_add PySem.F.entry_tuple_add (PySem.F.args_tuple_add_2 _ _)
      (tuple_addW1 t b vs.toArray ws.toArray n n2 dd dd2 sl sl2 (by simpa using hv) (by simp [hw])) ⟨ho, ho2, h1 hw⟩
  · refine concat_meets ⟨_, ho, rfl⟩ ⟨_, ho2, rfl⟩ noFill_tuple_add seq_tuple_add PySem.F.slot_tuple_add PySem.F.entry_tuple_add (PySem.F.args_tuple_add_2 _ _)
      (tuple_addW2 t b vs.toArray ws.toArray n n2 dd dd2 sl sl2 (by simpa using hv) (by simpa using hw) (by rw [List.size_toArray, List.size_toArray]; exact hsz)) ⟨ho, ho2, ?_⟩
    rw [e]
    exact h2 hw
end
end HT
namespace L2
open PySem PySem.Spec PyProof.Rows
abbrev TO := St → Hp → (Option Int → Hp → Prop) → Prop
def PO (X : Cx) (e : Option Expr) (t : TO) : Prop :=
  ∀ (pins : List (Addr × Obj)) (s : Shared) (σ : St) (H : Hp) (Q : Option Int → Hp → Prop), Inv X pins σ H s → t σ H Q →
    wpAny (model X.prog X.w) X.A (evalPart e X.env) (fun u s' => ∃ o H', Inv X pins σ H' s' ∧ IsPart u o ∧ Q o H') X.xe s
def tNoPart : TO := fun _ H Q => Q none H
def tPart (t : TE) : TO := fun σ H Q => t σ H fun x H1 => ∃ i, x = .int i ∧ Q (some i) H1
section
variable {X : Cx} {e : Expr} {te : TE} {lo hi : Option Expr} {tl th : TO} {pos p2 : Pos}
theorem po_none : PO X none tNoPart := by
  intro pins s σ H Q I h
  rw [evalPart_none]
  exact wpAny_pure ⟨none, H, I, .none, h⟩
theorem po_some (h : PE X e te) : PO X (some e) (tPart te) := by
  intro pins s σ H Q I hw
  rw [evalPart_some]
  refine thn (h pins s σ H _ I hw) fun u s1 ⟨x, H1, I1, r1, q1⟩ => ?_
  obtain ⟨i, rfl, q⟩ := q1
  obtain ⟨t, rfl⟩ := r1
  exact ⟨some i, H1, I1, .int i t, q⟩
def SlR (X : Cx) (r : V → Option Int → Option Int → Hp → VK → Prop) : Prop :=
  ∀ (pins : List (Addr × Obj)) (s : Shared) (σ : St) (H : Hp) (x : V) (v vl vu : Value) (lo hi : Option Int) (sl : Addr) (Q : VK), Inv X pins σ H s → RelV x v → s.heap.IsSliceOf sl vl vu .none → IsPart vl lo → IsPart vu hi → r x lo hi H Q →
    ∃ T id, typeLookup (.type T) "__getitem__" = pure (some (.builtin id)) ∧ s.TypeIs v T ∧ wpAny (model X.prog X.w) X.A (getItem v (.ref sl)) (EP X pins σ Q) X.xe s
def tSl (r : V → Option Int → Option Int → Hp → VK → Prop) (te : TE) (tl th : TO) : TE := fun σ H Q => te σ H fun x H1 => tl σ H1 fun l H2 => th σ H2 fun u H3 => r x l u H3 Q
theorem pe_slice {r : V → Option Int → Option Int → Hp → VK → Prop} (hr : SlR X r) (he : PE X e te) (hl : PO X lo tl) (hu : PO X hi th) : PE X (.Subscript e (.Slice lo hi none p2) pos) (tSl r te tl th) := by
  intro pins s σ H Q I h
  refine Subscript_ (thn (he pins s σ H _ I h) fun v s1 ⟨x, H1, I1, r1, q1⟩ => ?_)
  refine wpAny_Slice (thn (hl pins s1 σ H1 _ I1 q1) fun vl s2 ⟨l, H2, I2, pl, q2⟩ => thn (hu pins s2 σ H2 _ I2 q2) fun vu s3 ⟨u, H3, I3, pu, q3⟩ => ?_)
  rw [evalPart_none]
  refine wpAny_pure ?_
  have I4 : Inv X pins σ H3 { s3 with heap := s3.heap.push { cls := .type "slice", data := .fields #[vl, vu, .none] } } := I3.kept (t' := s3.toks) fun b ob q => Heap.get?_push_of_some _ q
  obtain ⟨T, id, hT, ht, hg⟩ := hr pins { s3 with heap := s3.heap.push { cls := .type "slice", data := .fields #[vl, vu, .none] } } σ H3 x v vl vu l u s3.heap.objs.size Q I4 r1 (Heap.IsSliceOf.new ..) pl pu q3
  show wpAny (model X.prog X.w) X.A (subscriptTail e (.Slice lo hi none p2) v (.ref s3.heap.objs.size)) (EP X pins σ Q) X.xe { s3 with heap := s3.heap.push { cls := .type "slice", data := .fields #[vl, vu, .none] } }
  exact tail_any (ops := [.ref s3.heap.objs.size, v]) ht hT hg (by with_unfolding_all rfl)
def rCatT (K : PySem.W.Frag) : R2 := fun x y H Q => ∃ a b xs ys, x = .ref a ∧ y = .ref b ∧ SqT K H a xs ∧ SqT K H b ys ∧ xs ≠ [] ∧ xs.length + ys.length ≤ sizeLine ∧
  (ys = [] → Q (.ref a) H) ∧ (ys ≠ [] → ∀ p, H p = none → Q (.ref p) (upd H p (.tup (xs ++ ys))))
theorem Vals.nil_iff {xs : List V} {us : List Value} (r : Vals xs us) : us = [] ↔ xs = [] := by
  cases r with
  | nil => simp
  | cons _ _ => simp
theorem op_catT : OpR X (binaryOp .Add) (rCatT X.K) := by
  intro pins s σ H x y v u Q I rx ry h
  obtain ⟨a, b, xs, ys, rfl, rfl, ha, hb, hx, hz, q1, q2⟩ := h
  cases rx
  cases ry
  obtain ⟨its, r1, p1, _⟩ := I.tuple ha
  obtain ⟨its2, r2, p2, _⟩ := I.tuple hb
  refine HT.cat_tup p1 p2 (fun z => hx (r1.nil_iff.mp z)) (fun z => ⟨.ref a, H, I, rfl, q1 (r2.nil_iff.mp z)⟩) (fun z => ?_) (by rw [← r1.length, ← r2.length]; exact hz)
  refine ⟨.ref s.heap.objs.size, _, I.laid (t' := s.toks) (o := .tup (xs ++ ys)) (fun b ob q => Heap.get?_push_of_some _ q) (Nat.le_refl _) ?_, rfl, q2 (fun w => z (r2.nil_iff.mpr w)) _ (I.hok.fresh (Nat.le_refl _))⟩
  exact ⟨by rw [List.length_append]; exact hz, _, r1.append r2, IsTup.new _ _⟩
end
end L2
namespace L2
open PySem PySem.Spec PyProof.Rows
def ixN (n : Nat) (i : Int) : Option Nat := if 0 ≤ i then (if i < n then some i.toNat else none) else if -(n : Int) ≤ i then some (i + n).toNat else none
def atI {α : Type} (xs : List α) (i : Int) : Option α := (ixN xs.length i).bind fun j => xs[j]?
theorem ixN_seq {n : Nat} {i : Int} {j : Nat} (h : ixN n i = some j) : seqIndex? i n = some j ∧ j < n ∧ -(n : Int) ≤ i ∧ i < n := by
  unfold ixN at h
  by_cases h0 : 0 ≤ i
  · rw [if_pos h0] at h
    by_cases h1 : i < n
    · rw [if_pos h1] at h
      have e : i.toNat = j := Option.some.inj h
      exact ⟨by rw [seqIndex_of h0 h1, e], by omega, by omega, h1⟩
    · rw [if_neg h1] at h; cases h
  · rw [if_neg h0] at h
    by_cases h1 : -(n : Int) ≤ i
    · rw [if_pos h1] at h
      have e : (i + n).toNat = j := Option.some.inj h
      exact ⟨by rw [seqIndex_neg (by omega) h1, e], by omega, h1, by omega⟩
    · rw [if_neg h1] at h; cases h
theorem atI_get {α : Type} {xs : List α} {i : Int} {v : α} (h : atI xs i = some v) : ∃ j, seqIndex? i xs.length = some j ∧ xs[j]? = some v ∧ j < xs.length ∧ -(xs.length : Int) ≤ i ∧ i < xs.length := by
  unfold atI at h
  cases e : ixN xs.length i with
  | none => rw [e] at h; cases h
  | some j =>
    rw [e] at h
    obtain ⟨h1, h2, h3, h4⟩ := ixN_seq e
    exact ⟨j, h1, h, h2, h3, h4⟩
theorem atI_nat {α : Type} {xs : List α} {j : Nat} {v : α} (h : xs[j]? = some v) : atI xs (j : Int) = some v := by
  have hj : j < xs.length := (List.getElem?_eq_some_iff.mp h).1
  have e : ixN xs.length (j : Int) = some j := by
    unfold ixN
    rw [if_pos (by omega), if_pos (by omega)]; simp
  unfold atI; rw [e]; exact h
def PlainIx (b : Expr) : Prop := ∀ o i, subscripted b false o i = operate [o, i] (getItem o i)
def IxR (X : Cx) (r : R2) : Prop :=
  ∀ (value slice : Expr) (pins : List (Addr × Obj)) (s : Shared) (σ : St) (H : Hp) (x y : V) (v u : Value) (Q : VK), Inv X pins σ H s → RelV x v → RelV y u → r x y H Q →
    subscripted slice false v u = operate [v, u] (getItem v u) → wpAny (model X.prog X.w) X.A (subscriptTail value slice v u) (EP X pins σ Q) X.xe s
def MtR (X : Cx) (id : String) (r : V → List V → Hp → VK → Prop) : Prop :=
  ∀ (pins : List (Addr × Obj)) (s : Shared) (σ : St) (H : Hp) (x : V) (xs : List V) (v : Value) (us : List Value) (Q : VK), Inv X pins σ H s → RelV x v → Vals xs us → r x xs H Q →
    wpAny (model X.prog X.w) X.A (call (.builtin id) (v :: us)) (EP X pins σ Q) X.xe s
section
variable {X : Cx} {a b : Expr} {ta tb : TE} {pos : Pos}
theorem pe_ix {r : R2} (hr : IxR X r) (ha : PE X a ta) (hb : PE X b tb) (hs : PlainIx b) : PE X (.Subscript a b pos) (tOp r ta tb) := by
  intro pins s σ H Q I h
  exact Subscript_ (binT ha hb I h fun v u s2 x y H2 I2 rx ry q => hr a b pins s2 σ H2 x y v u Q I2 rx ry q (hs _ _))
def rIxL (K : PySem.W.Frag) : R2 := fun x y H Q => ∃ p xs i v, x = .ref p ∧ y = .int i ∧ SqL K H p xs ∧ atI xs i = some v ∧ Q v H
def rIxT (K : PySem.W.Frag) : R2 := fun x y H Q => ∃ p xs i v, x = .ref p ∧ y = .int i ∧ SqT K H p xs ∧ atI xs i = some v ∧ Q v H
def rIxS : R2 := fun x y H Q => ∃ z i c, x = .str z ∧ y = .int i ∧ z.length ≤ sizeLine ∧ atI z.cps.toList i = some c ∧ Q (.str ⟨#[c]⟩) H
theorem ix_list : IxR X (rIxL X.K) := by
  intro value slice pins s σ H x y v u Q I rx ry h hs
  obtain ⟨p, xs, i, z, rfl, rfl, hq, he, q⟩ := h
  cases rx
  obtain ⟨t, rfl⟩ := ry
  obtain ⟨its, r, pl, hz⟩ := I.list hq
  obtain ⟨j, h1, h2, h3, h4, h5⟩ := atI_get he
  obtain ⟨w, ew, rw'⟩ := r.get h2
  have hl := r.length
  have hn := line63
  have fin : EP X pins σ Q w s := ⟨z, H, I, rw', q⟩
  by_cases h0 : 0 ≤ i
  · have hj : i.toNat = j := by
      rw [seqIndex_of h0 h5] at h1
      exact Option.some.inj h1
    exact item_listR pl.isList h0 (by omega) (by rw [hj]; simpa using ew) fin hs
  · have hj : (i + (its.toArray.size : Int)).toNat = j := by
      rw [seqIndex_neg (by omega) h4] at h1
      rw [List.size_toArray, ← hl]
      exact Option.some.inj h1
    exact subscriptTail_builtinR (x := w) pl.isList.typeIs slot_list_getitem.lookup
      (wpAny_getItem_list_neg (Q := fun r s' => r = w ∧ EP X pins σ Q r s') pl.isList (by omega) (by rw [List.size_toArray] <;> omega) (by omega) (by rw [hj]; simpa using ew) ⟨rfl, fin⟩) hs
theorem ix_tup : IxR X (rIxT X.K) := by
  intro value slice pins s σ H x y v u Q I rx ry h hs
  obtain ⟨p, xs, i, z, rfl, rfl, hq, he, q⟩ := h
  cases rx
  obtain ⟨t, rfl⟩ := ry
  obtain ⟨its, r, pl, hz⟩ := I.tuple hq
  obtain ⟨j, h1, h2, h3, h4, h5⟩ := atI_get he
  obtain ⟨w, ew, rw'⟩ := r.get h2
  have hl := r.length
  have hn := line63
  have fin : EP X pins σ Q w s := ⟨z, H, I, rw', q⟩
  exact subscriptTail_builtinR (x := w) pl.typeIs slot_tuple_getitem.lookup
    (getItem_tuple (j := j) (Q := fun r s' => r = w ∧ EP X pins σ Q r s') pl (by omega) (by omega) (by rw [List.size_toArray, ← hl]; exact h1) (by simpa using ew) ⟨rfl, fin⟩) hs
theorem ix_str : IxR X rIxS := by
  intro value slice pins s σ H x y v u Q I rx ry h hs
  obtain ⟨z, i, c, rfl, rfl, hz, he, q⟩ := h
  obtain ⟨t, rfl⟩ := rx
  obtain ⟨t', rfl⟩ := ry
  obtain ⟨j, h1, h2, h3, h4, h5⟩ := atI_get he
  have hl : z.cps.toList.length = z.length := by simp [Str.length]
  rw [hl] at h1 h4 h5
  have hn := line63
  exact tail_any (typeIs_str s z t) slot_str_getitem.lookup (getItem_str (c := c) (by
    have e1 : decide (i < -(2 ^ 63 : Int)) = false := decide_eq_false (by omega)
    have e2 : decide (i ≥ 2 ^ 63) = false := decide_eq_false (by omega)
    rw [e1, e2, Bool.or_false]) (by rw [h1]; simpa using h2) ⟨.str ⟨#[c]⟩, H, I.tok _, ⟨_, rfl⟩, q⟩) hs
def flatV : V → Bool
  | .non => true
  | .bl _ => true
  | .int _ => true
  | .str _ => true
  | _ => false
def eqV : V → V → Bool
  | .non, .non => true
  | .bl a, .bl b => a == b
  | .bl a, .int b => (if a then 1 else 0) == b
  | .int a, .bl b => a == (if b then 1 else 0)
  | .int a, .int b => a == b
  | .str a, .str b => a == b
  | _, _ => false
theorem eqAt_V {A : Around} {s : Shared} {y x : V} {u v : Value} (ry : RelV y u) (rx : RelV x v) (fy : flatV y = true) (fx : flatV x = true) : SeqAt.EqAt A s u v (eqV y x) := by
  cases y with
  | non =>
    cases ry
    cases x with
    | non => cases rx; exact SeqAt.EqAt.same _
    | bl b => cases rx; exact SeqAt.EqAt.none_bool b
    | int b => obtain ⟨t, rfl⟩ := rx; exact SeqAt.EqAt.none_int b t
    | str b => obtain ⟨t, rfl⟩ := rx; exact SeqAt.EqAt.none_str b t
    | _ => exact absurd (show false = true from fx) Bool.false_ne_true
  | bl a =>
    cases ry
    cases x with
    | non => cases rx; exact SeqAt.EqAt.bool_none a
    | bl b => cases rx; exact SeqAt.EqAt.bool_bool a b
    | int b => obtain ⟨t, rfl⟩ := rx; exact SeqAt.EqAt.bool_int a b t
    | str b => obtain ⟨t, rfl⟩ := rx; exact SeqAt.EqAt.bool_str a b t
    | _ => exact absurd (show false = true from fx) Bool.false_ne_true
  | int a =>
    obtain ⟨t', rfl⟩ := ry
    cases x with
    | non => cases rx; exact SeqAt.EqAt.int_none a t'
    | bl b => cases rx; exact SeqAt.EqAt.int_bool a t' b
    | int b => obtain ⟨t, rfl⟩ := rx; exact SeqAt.EqAt.int_int a t' b t
    | str b => obtain ⟨t, rfl⟩ := rx; exact SeqAt.EqAt.int_str a t' b t
    | _ => exact absurd (show false = true from fx) Bool.false_ne_true
  | str a =>
    obtain ⟨t', rfl⟩ := ry
    cases x with
    | non => cases rx; exact SeqAt.EqAt.str_none a t'
    | bl b => cases rx; exact SeqAt.EqAt.str_bool a t' b
    | int b => obtain ⟨t, rfl⟩ := rx; exact SeqAt.EqAt.str_int a t' b t
    | str b => obtain ⟨t, rfl⟩ := rx; exact SeqAt.EqAt.str_str a t' b t
    | _ => exact absurd (show false = true from fx) Bool.false_ne_true
  | _ => exact absurd (show false = true from fy) Bool.false_ne_true
theorem call_len_seq : CallR X (.builtin "len") (fun xs H Q => ∃ p ys, xs = [.ref p] ∧ (SqL X.K H p ys ∨ SqT X.K H p ys) ∧ Q (.int ys.length) H) := by
  intro pins s σ H xs us Q I r h
  obtain ⟨p, ys, rfl, hq, q⟩ := h
  obtain ⟨u, rfl, rx⟩ := vals1 r
  cases rx
  have hn := line63
  rcases hq with hq | hq
  · obtain ⟨its, r', pl, hz⟩ := I.list hq
    have hlen := r'.length
    exact Calls.call_len_list pl.isList (by simp only [List.size_toArray] <;> omega) ⟨.int ys.length, H, I.tok _, ⟨s.toks + 1, by rw [List.size_toArray, hlen]⟩, q⟩
  · obtain ⟨its, r', pl, hz⟩ := I.tuple hq
    have hlen := r'.length
    exact len_tuple pl (by simp only [List.size_toArray] <;> omega) ⟨.int ys.length, H, I.tok _, ⟨s.toks + 1, by rw [List.size_toArray, hlen]⟩, q⟩
theorem call_len_str : CallR X (.builtin "len") (fun xs H Q => ∃ z, xs = [.str z] ∧ z.length ≤ sizeLine ∧ Q (.int z.length) H) := by
  intro pins s σ H xs us Q I r h
  obtain ⟨z, rfl, hz, q⟩ := h
  obtain ⟨u, rfl, t, rfl⟩ := vals1 r
  have hn := line63
  exact len_str (by omega) ⟨.int z.length, H, I.tok _, ⟨_, rfl⟩, q⟩
def tyV (K : PySem.W.Frag) (T : String) (x : V) (H : Hp) : Prop := match x with
  | .str _ => T = "str"
  | .int _ => T = "int"
  | .ref p => (T = "list" ∧ ∃ xs, SqL K H p xs) ∨ (T = "tuple" ∧ ∃ o, K.lookup p = some o ∧ o.cls = .type "tuple" ∧ o.dict = none) ∨
      (T = "dict" ∧ ((∃ kvs, H p = some (.dK kvs)) ∨ ∃ kvs, H p = some (.dT kvs))) ∨ (T = "set" ∧ ∃ S n, H p = some (.set S n))
  | _ => False
theorem tyV_is {pins : List (Addr × Obj)} {σ : St} {H : Hp} {s : Shared} {T : String} {x : V} {v : Value} (I : Inv X pins σ H s) (r : RelV x v) (ty : tyV X.K T x H) :
    s.TypeIs v T ∧ ∀ a, v = .ref a → ∃ ob, s.heap.get? a = some ob ∧ ob.dict = none := by
  cases x with
  | str z =>
    obtain ⟨t, rfl⟩ := r
    cases (show T = "str" from ty)
    exact ⟨typeIs_str s z t, fun _ e => nomatch e⟩
  | int i =>
    obtain ⟨t, rfl⟩ := r
    cases (show T = "int" from ty)
    exact ⟨typeIs_int s i t, fun _ e => nomatch e⟩
  | ref p =>
    cases r
    rcases ty with ⟨rfl, xs, hq⟩ | ⟨rfl, o, hk, hc, hd⟩ | ⟨rfl, hk⟩ | ⟨rfl, S, n, hk⟩
    · obtain ⟨its, _, pl, _⟩ := I.list hq
      refine ⟨pl.isList.typeIs, fun a e => ?_⟩
      cases e
      obtain ⟨o, n, e, c, hd, _⟩ := pl
      exact ⟨o, e, hd⟩
    · refine ⟨⟨o, I.kIn p o hk, hc⟩, fun a e => ?_⟩
      cases e
      exact ⟨o, I.kIn _ o hk, hd⟩
    · have z : ∃ o, s.heap.get? p = some o ∧ o.ExactDict := by
        rcases hk with ⟨kvs, hk⟩ | ⟨kvs, hk⟩
        · obtain ⟨_, _, _, _, o, _, _, e, ex, _⟩ := I.hok p _ hk
          exact ⟨o, e, ex⟩
        · obtain ⟨_, _, _, _, o, _, _, e, ex, _⟩ := I.hok p _ hk
          exact ⟨o, e, ex⟩
      obtain ⟨o, e, ex⟩ := z
      refine ⟨⟨o, e, ex.1⟩, fun a e2 => ?_⟩
      cases e2
      exact ⟨o, e, ex.2.1⟩
    · obtain ⟨o, _, _, _, e, ex, _⟩ := I.hok p _ hk
      refine ⟨⟨o, e, ex.1⟩, fun a e2 => ?_⟩
      cases e2
      exact ⟨o, e, ex.2.1⟩
  | _ => exact False.elim ty
def tBM0 (K : PySem.W.Frag) (T : String) (r : V → List V → Hp → VK → Prop) (to : TE) : TE := fun σ H Q => to σ H fun x H1 => tyV K T x H1 ∧ r x [] H1 Q
def tBM (K : PySem.W.Frag) (T : String) (r : V → List V → Hp → VK → Prop) (to : TE) (t : TA) : TE := fun σ H Q => to σ H fun x H1 => tyV K T x H1 ∧ t σ H1 fun xs H2 => r x xs H2 Q
variable {o e : Expr} {es : List Expr} {to : TE} {t : TA} {name : Str} {apos cpos : Pos} {T id : String} {r : V → List V → Hp → VK → Prop}
theorem pe_bm0 (pa : PlainAttrs T) (slot : Slot T name id) (hty : typeOf (.builtin id) = pure (.type "method_descriptor")) (hm : MtR X id r) (ho : PE X o to)
    (hbase : attributeBase o name X.env (eval o X.env) = eval o X.env := by rfl) (hline : (apos.endLine == cpos.line) = true := by rfl) : PE X (.Call (.Attribute o name apos) [] [] cpos) (tBM0 X.K T r to) := by
  intro pins s σ H Q I h
  refine wpAny_Call_method0_late hbase hline (thn (ho pins s σ H _ I h) fun v s1 ⟨x, H1, I1, r1, ty, q1⟩ => ?_)
  obtain ⟨h1, h2⟩ := tyV_is I1 r1 ty
  exact ⟨T, id, pa, slot, hty, h1, h2, Calls.callWith_builtin rfl (PySem.evalArgs_none (hm pins s1 σ H1 x [] v [] Q I1 r1 .nil q1))⟩
theorem pe_bm (pa : PlainAttrs T) (slot : Slot T name id) (hty : typeOf (.builtin id) = pure (.type "method_descriptor")) (hm : MtR X id r) (ho : PE X o to) (ha : PA X (e :: es) t)
    (hbase : attributeBase o name X.env (eval o X.env) = eval o X.env := by rfl)
    (hfew : ((backTo cpos (starEach (e :: es) X.env)).all (fun x => !x.1) && (backToKw cpos (keywordEach [] X.env)).all (fun x => x.1.isSome)
      && decide ((e :: es).length + ([] : List Keyword).length + (if ([] : List Keyword).isEmpty then 0 else 1) < 30)) = true := by rfl)
    (hline : (apos.endLine == cpos.line) = true := by rfl) (hs : starEach (e :: es) X.env = (false, eval e X.env) :: starEach es X.env := by rfl) (hplain : (backTo cpos (starEach es X.env)).any (·.1) = false := by rfl) :
    PE X (.Call (.Attribute o name apos) (e :: es) [] cpos) (tBM X.K T r to t) := by
  intro pins s σ H Q I h
  refine wpAny_Call_method_late hbase hfew hline rfl (thn (ho pins s σ H _ I h) fun v s1 ⟨x, H1, I1, r1, ty, q1⟩ => ?_)
  obtain ⟨h1, h2⟩ := tyV_is I1 r1 ty
  refine ⟨T, id, pa, slot, hty, h1, h2, ?_⟩
  have hA := ha cpos pins s1 σ H1 _ I1 q1
  rw [hs] at hA ⊢
  refine Calls.callWith_builtin (by show (false || (backTo cpos (starEach es X.env)).any (·.1)) = false; rw [hplain] <;> rfl) (Calls.evalArgs_plain ?_)
  exact thn hA fun us s2 ⟨vs, H2, I2, r2, q2⟩ => hm pins s2 σ H2 x vs v us Q I2 r1 r2 q2
/- xs.append(e), list.index on a module's tuple .. are MtR facts of 06m -/
end
end L2
namespace L2
open PySem PySem.Spec PyProof.Rows
def MtM (X : Cx) (id : String) (r : V → List V → Hp → VK → Prop) : Prop :=
  ∀ (pins : List (Addr × Obj)) (s : Shared) (σ : St) (H : Hp) (x : V) (xs : List V) (v : Value) (us : List Value) (Q : VK), Inv X pins σ H s → RelV x v → Vals xs us → r x xs H Q →
    wpAny (model X.prog X.w) X.A (call (.builtin id) (v :: us)) (EP X pins σ Q) X.xe s
theorem Vals.one : ∀ {x : V} {us : List Value}, Vals [x] us → ∃ u, us = [u] ∧ RelV x u
  | _, _, .cons r .nil => ⟨_, rfl, r⟩
theorem Vals.zero : ∀ {us : List Value}, Vals [] us → us = []
  | _, .nil => rfl
section
variable {X : Cx} {pins : List (Addr × Obj)} {σ : St} {H : Hp} {s : Shared} {l b : Addr} {xs ys zs : List V}
theorem Inv.lset {its its' : List Value} {n : Nat} {f : Array Value → Array Value} {t' : Nat} (I : Inv X pins σ H s) (hH : H l = some (.lst xs))
    (e : s.heap.get? l = some { cls := .type "list", data := .seq its.toArray n }) (hf : f its.toArray = its'.toArray) (hv : Vals ys its') (hz : ys.length ≤ sizeLine) :
    Inv X pins σ (upd H l (.lst ys)) { s with heap := s.heap.update l (Obj.mapSeq f), toks := t' } := by
  have q := PySem.IsL.update e f
  rw [hf] at q
  refine I.write (x := l) (e := l) (by rw [hH]; exact trivial) (.inl rfl) (fun b' u hb hu => (Heap.get?_update_other s.heap (Obj.mapSeq f) (Ne.symm hb)).trans hu) ⟨_, q⟩ ?_
  exact ⟨hz, its', _, hv, q⟩
theorem Inv.lnew {its : List Value} {t' : Nat} (I : Inv X pins σ H s) (hv : Vals ys its) (hz : ys.length ≤ sizeLine) :
    Inv X pins σ (upd H s.heap.objs.size (.lst ys)) { s with heap := s.heap.push { cls := .type "list", data := .seq its.toArray }, toks := t' } :=
  I.laid (fun _ _ q => Heap.get?_push_of_some _ q) (Nat.le_refl _) ⟨hz, its, 0, hv, Heap.get?_push_size _ rfl⟩
theorem Inv.fresh (I : Inv X pins σ H s) : H s.heap.objs.size = none := I.hok.fresh (Nat.le_refl _)
theorem Inv.lstM (I : Inv X pins σ H s) (hH : H l = some (.lst xs)) : xs.length ≤ sizeLine ∧ ∃ (its : List Value) (n : Nat), Vals xs its ∧ xs.length = its.length ∧ s.heap.get? l = some { cls := .type "list", data := .seq its.toArray n } := by
  obtain ⟨z, its, n, r, e⟩ := I.hok l _ hH
  exact ⟨z, its, n, r, r.length, e⟩
end
section
variable {X : Cx}
def rAppend : V → List V → Hp → VK → Prop := fun x vs H Q => ∃ l xs y, x = .ref l ∧ vs = [y] ∧ H l = some (.lst xs) ∧ xs.length < sizeLine ∧ Q .non (upd H l (.lst (xs ++ [y])))
theorem mt_append : MtM X "list.append" rAppend := by
  intro pins s σ H x vs v us Q I rx rv h
  obtain ⟨l, xs, y, rfl, rfl, hH, hz, q⟩ := h
  cases rx
  obtain ⟨u, rfl, ru⟩ := rv.one
  obtain ⟨z, its, n, r, hl, e⟩ := I.lstM hH
  refine call_meets F.slot_list_append ⟨_, e, rfl⟩ F.entry_list_append (F.args_list_append_2 _ _) (PySem.list_append l its.toArray n u (by rw [List.size_toArray]; omega)) ⟨e, ?_⟩
  refine ⟨.non, _, I.lset (its' := its ++ [u]) hH e (by simp) (r.append (.cons ru .nil)) ?_, rfl, q⟩
  rw [List.length_append, List.length_singleton]
  omega
end
section
variable {prog : Program} {w : World} {A : Around} {E : Value → Shared → Prop} {s : Shared}
end
section
variable {X : Cx}
end
end L2
namespace L2
open PySem PySem.Spec PyProof.Rows
section
variable {κ : Type} [DecidableEq κ]
end
abbrev KT (H : Hp) : List (List Key × V) → List (List Key × Addr × Value) → Prop := Paired fun p q => p.1 = q.1 ∧ H q.2.1 = some (.tup (p.1.map kV)) ∧ RelV p.2 q.2.2
section
variable {P : Program} {w : World} {H : Hp} {h : Heap} {a : Addr}
end
section
variable {X : Cx} {pins : List (Addr × Obj)} {σ : St} {H : Hp} {s : Shared} {a : Addr} {y v : V} {u r : Value} {o : Option V} {A : Around} {E : Value → Shared → Prop}
end
section
variable {X : Cx} {pins : List (Addr × Obj)} {σ : St} {H : Hp} {s : Shared} {a : Addr} {kvs : List (Key × V)} {k : Key} {u : Value} {A : Around} {E : Value → Shared → Prop}
end
section
variable {X : Cx} {o i e value : Expr} {pos pos' tpos : Pos} {td ty tv : TE}
end
section
variable {X : Cx} {pos : Pos}
end
section
variable {X : Cx} {pins : List (Addr × Obj)} {σ : St} {H : Hp} {s : Shared} {a : Addr} {y d : V} {u r : Value} {o : Option V} {A : Around} {E : Value → Shared → Prop}
end
section
variable {X : Cx} {o e f : Expr} {apos cpos : Pos} {td ty tx : TE}
end
section
variable {X : Cx} {pins : List (Addr × Obj)} {σ : St} {H : Hp} {s : Shared} {a : Addr} {kvs : List (Key × V)} {A : Around} {E : Value → Shared → Prop}
end
section
variable {X : Cx} {pins : List (Addr × Obj)} {σ : St} {H : Hp} {s : Shared} {a : Addr} {y : V} {u : Value} {A : Around} {E : Value → Shared → Prop}
end
end L2
namespace Att
open PySem PySem.W PySem.Calls PyProof.Rows
theorem ints_of_wellAll {P : Params} {h : Heap} : ∀ (ns : List Int) (vs : List Value), WellAll P h vs (ns.map WData.int) → IntsAre vs ns := by
  intro ns
  induction ns with
  | nil =>
    intro vs w
    rw [List.map_nil] at w
    cases w
    exact .nil
  | cons n ns ih =>
    intro vs w
    rw [List.map_cons] at w
    cases w with
    | cons a b =>
      cases a
      exact .cons _ _ (ih _ b)
theorem script_of {l : OpenLaw} {n : Nat} (hn : l.most = some n) {P : Params} {h : Heap} {args : List WData} {vals : List Value}
    (hpre : l.row.toRowW.claim.pre args = true) (hwl : WellAll P h vals args) :
    ∃ a vs ns, vals = [Value.ref a] ∧ args = [WData.list (ns.map WData.int)] ∧ h.get? a = some { cls := .type "list", data := .seq vs.toArray } ∧ IntsAre vs ns ∧ ns.length ≤ n := by
  have hsh : WShape.hasAll [] args [.list .int] = true := (pre_splitW hpre).1
  have hc : l.pre.holds [] { args := args } = true := (pre_splitW hpre).2
  obtain ⟨d, r, rfl, h1, h2⟩ := hasAllW_cons hsh
  obtain rfl := hasAllW_nil h2
  obtain ⟨xs, rfl, h3⟩ := hasW_list h1
  obtain ⟨ns, rfl⟩ := items_int h3
  have hlen : ns.length ≤ n := by
    unfold OpenLaw.pre at hc
    have h4 : (WTm.not (.lt (.lit (.int (n : Int))) (.len (.arg 0)))).holds [] { args := [.list (ns.map .int)] } = true := by
      have h4 := (holds_andW hc).1
      rw [hn] at h4
      exact h4
    have h5 := condW_of h4 (w_not (w_lt w_lit (w_len_list (w_arg rfl))))
    rw [List.length_map] at h5
    refine Nat.le_of_not_lt fun q => ?_
    have q' : (n : Int) < ((ns.length : Nat) : Int) := by omega
    first
      | (rw [decide_eq_true q'] at h5; exact absurd h5 (by decide))
      | (simp at h5; omega)
  cases hwl with
  | cons w1 w2 =>
    cases w2
    cases w1 with
    | list ho hall => exact ⟨_, _, ns, rfl, rfl, ho, ints_of_wellAll ns _ hall, hlen⟩
theorem post_true (l : OpenLaw) (args : List WData) : l.row.toRowW.claim.post args (.bool true) args = true :=
  postW_of (r := l.row.toRowW) (X := (true == true))
    (show WShape.has [] (.bool true) .bool = true by first | rfl | decide | simp [WShape.has, WShape.arms, WShape.armsAll])
    (show (WTm.eq .res (.lit (.bool true))).value [] { args := args, res := some (.bool true), after := args } = some (.bool (true == true)) from w_eq_bool (w_res rfl) w_lit) rfl
theorem attach_call {l : OpenLaw} {n : Nat} {q : Program} {loose : List Str} {XP : (Str → Option Value) → Heap → Prop} {YP : World → Heap → Prop} {d : DefRec}
    (hn : l.most = some n) (hdf : d.params.defaults = [])
    (call : ∀ (w : World) (s₀ s₁ : Shared) (mg mb : Str → Option Value) (fa : Addr) (o : Obj) (pm cd doc : Value) (a : Addr) (vs : List Value) (ns : List Int),
      Ground q loose [] XP w s₀ mg mb s₁.heap → YP w s₁.heap →
      s₁.heap.get? fa = some o → o.data = .func (docDef d.name d.params d.body d.scope pm cd doc) → s₁.heap.CodeRec cd d.name → mg d.name = some (.ref fa) →
      s₁.heap.get? a = some { cls := .type "list", data := .seq vs.toArray } → IntsAre vs ns → ns.length ≤ n → s₁.gens = #[] →
      codeAny (model l.prog w) callerA (.call (.ref fa) ⟨[.ref a], []⟩) (fun r s' => r = .ok (.ret (.bool true)) ∧ OldK s₁.heap s'.heap ∧ s'.os = s₁.os ∧ AllBare s'.gens) s₁) :
    WalkO q loose XP YP l.row.toRowW d [] (fun f vs => PySem.call f vs) := by
  intro w s₀ s₁ mg mb G Y fa o pm cd doc dV kV ho hd hcd hD hmg hg args vals as hpre hlay hrd hwl hlo
  obtain rfl : dV = .none := Dflts.none hD hdf
  obtain rfl : kV = .none := Dflts.noKw hD
  obtain ⟨a, vs, ns, rfl, rfl, hobj, hints, hlen⟩ := script_of hn hpre hwl
  refine enter_call (codeAny_mono (call w s₀ s₁ mg mb fa o pm cd doc a vs ns G Y ho (fd_plain hd) hcd hmg hobj hints hlen hg) fun r s' hq => ?_)
  obtain ⟨rfl, h2, h3, h4⟩ := hq
  exact ⟨.inl ⟨.bool true, .bool true, [], rfl, fun _ => rfl, .bool true, post_true l _, fun _ => ⟨List.Pairwise.nil, fun _ hm => (nomatch hm)⟩⟩, h2, h3, h4⟩
section
variable {prog : Program} {w : World} {A : Around} {E : Value → Shared → Prop} {s : Shared} {K : Frag}
def ledger (h : Heap) (L d : Addr) : List (Addr × Obj) := (List.range h.objs.size).filterMap fun a => if a = L ∨ a = d then none else (h.get? a).map fun o => (a, o)
end
end Att
namespace L2
open PySem PySem.Spec PyProof.Rows
theorem vals_ints : ∀ {vs : List Value} {ns : List Int}, IntsAre vs ns → Vals (ns.map V.int) vs
  | _, _, .nil => .nil
  | _, _, .cons n t h => .cons ⟨t, rfl⟩ (vals_ints h)
end L2
namespace L2
open PySem PySem.Spec PyProof.Rows
abbrev KOf {K : PySem.W.Frag} {h : Heap} (_ : K.In h) : PySem.W.Frag := K
end L2
/- THE LAST THEOREM (shape; LID, My.* are yours):
   My.Adr: a structure of the addresses that your layer names (classes, functions); My.Txt K t: a structure (Prop) of the equations over K;
   My.txt_mk : {K} {implicit addresses ..} (e1 : nsIn K mainGlobals "law" = some (some (.ref f))) (e2 : K.lookup f = some ⟨oc, od, .func (fnOf "law" "law" params body scope dV kV doc pm an cdv ct), sl⟩) (e3 : codeIn K cdv "law" = true) .. : ∃ t, My.Txt K t
set_option maxRecDepth 100000 in
set_option maxHeartbeats 0 in
theorem PySem.Challenge.cw_LID_holds : PySem.Challenge.rw_LID.Holds := by
  w_on; o_law; k_head; (case hw => w_witness2)
  k_fill
  refine L2.walk_of (l := PySem.Challenge.rw_LID) (n := 63) (k := 40) (x := "script") (CX := fun w => ..) (sp := fun _ => My.sp_law) rfl (by decide) rfl ⟨rfl, by decide, by decide⟩ (fun w h Y => PySem.W.kIn_of Y) ?F ?S ?C
  case F =>
    intro w mg fa h KX G hmg
    have T : ∃ t, My.Txt (L2.KOf KX) t := by
      dsimp only [L2.KOf]                          -- K must stand as «<heap const> w.params» for k_is
      refine' My.txt_mk ?e1 ?e2 ?e3 ..
      (case e1 => PySem.W.k_is)                    -- in the order: a name -> its address -> its object -> its parts
      (case e2 => PySem.W.k_is)
      ..
    obtain ⟨t, T⟩ := T
    have e0 := hmg.symm.trans (PySem.W.mg_of KX G T.law)
    cases e0                                       -- fa is the law's own address
    exact ⟨_, fun s u => .of_eq rfl, fun base kb nb => My.law_fn T kb nb⟩     -- if «.of_eq rfl» comes too early: refine' ⟨_, ?b, fun base kb nb => My.law_fn T kb nb⟩; exact fun s u => .of_eq rfl
  case S => exact fun w H a ns hl hO hS => ..
  case C => exact ..
(the tactic k_is has no namespace: write k_is) -/
namespace L2
open PySem PySem.Spec PyProof.Rows
def inClass (s : Stmt) (j : Nat) : Stmt := match s with
  | .ClassDef _ _ _ body _ _ _ _ _ _ _ => body.getD j (.Pass ⟨0, 0, 0, 0⟩)
  | _ => .Pass ⟨0, 0, 0, 0⟩
def defArgs (s : Stmt) : Arguments := match s with
  | .FunctionDef _ a _ _ _ _ _ _ _ _ => a
  | _ => { posonlyargs := [], args := [], vararg := none, kwonlyargs := [], kw_defaults := [], kwarg := none, defaults := [] }
def defBody (s : Stmt) : List Stmt := match s with
  | .FunctionDef _ _ b _ _ _ _ _ _ _ => b
  | _ => []
def defScope (s : Stmt) : Scope := match s with
  | .FunctionDef _ _ _ _ _ _ sc _ _ _ => sc
  | _ => { kind := .function, names := [], isGenerator := false, isCoroutine := false }
abbrev CX0 : CXT := fun _ _ _ _ _ _ => False
abbrev E0 : XK := fun _ _ _ => False
theorem pass0 {X : Cx} : Passes CX0 X E0 := fun _ _ _ _ _ _ _ h => h.elim
structure Fun (K : PySem.W.Frag) (x qual : Str) (st : Stmt) (f : Addr) (fd : FuncData) : Prop where
  ex : ∃ (oc : Value) (od : Option Addr) (kV doc pm : Value) (an : Option Addr) (cdv ct : Value) (osl : Array (Option Value)),
    fd = PySem.W.fnOf x qual (defArgs st) (defBody st) (defScope st) .none kV doc pm an cdv ct ∧ K.lookup f = some ⟨oc, od, .func fd, osl⟩ ∧ PySem.W.codeIn K cdv qual = true
  kp : PySem.W.keepIn K (.ref f) = true
section
variable {P : Program} {w : World} {K : PySem.W.Frag} {mg : Str → Option Value} {base : Heap}
theorem Fun.ok {x qual : Str} {st : Stmt} {f : Addr} {fd : FuncData} {N ps : List Str} {k : Nat} {sp : Sp} (F : Fun K x qual st f fd) (S : FnScope N ps (defScope st)) (len : ∀ vs H Q E, sp vs H Q E → vs.length = ps.length)
    (hbody : ∀ (cdv : Value) (A : Around) (outer : List Env) (s : Shared) (H : Hp) (vs : List V) (Q : VK) (E : XK), Room k (A.deeper (envOfC qual (defScope st) s.heap.objs.size f cdv)) → sp vs H Q E →
      ∃ t, PSs (cxOf CX0 P w K mg base N qual (defScope st) f cdv A outer s H E).nox (defBody st) t ∧ t { nx := fun _ H' => Q .non H', rt := Q } (start N vs) H) : FnOk P w K mg base CX0 (k + 1) f fd ps sp := by
  obtain ⟨oc, od, kV, doc, pm, an, cdv, ct, osl, rfl, lk, hcd⟩ := F.ex
  refine fn_of lk hcd S len fun A outer s H vs Q E hr hsp => ?_
  obtain ⟨t, h, q⟩ := hbody cdv A outer s H vs Q E hr hsp
  exact ⟨t, h.nox, q⟩
theorem Fun.binds {x qual : Str} {st : Stmt} {f : Addr} {fd : FuncData} {ps : List Str} (F : Fun K x qual st f fd)
    (h : ∀ (kV doc pm : Value) (an : Option Addr) (cdv ct : Value) (us : List Value), us.length = ps.length → bindArgs (PySem.W.fnOf x qual (defArgs st) (defBody st) (defScope st) .none kV doc pm an cdv ct) ⟨us, []⟩ = pure (ps.zip us)) : Binds K fd ps [] := by
  obtain ⟨oc, od, kV, doc, pm, an, cdv, ct, osl, rfl, lk, hcd⟩ := F.ex
  exact .all (h kV doc pm an cdv ct)
theorem fun_mk {x qual : Str} {st : Stmt} {f : Addr} {oc : Value} {od an : Option Addr} {osl : Array (Option Value)} {kV doc pm cdv ct : Value} (l : K.lookup f = some ⟨oc, od, .func (PySem.W.fnOf x qual (defArgs st) (defBody st) (defScope st) .none kV doc pm an cdv ct), osl⟩)
    (c : PySem.W.codeIn K cdv qual = true) (k : PySem.W.keepIn K (.ref f) = true) : Fun K x qual st f (PySem.W.fnOf x qual (defArgs st) (defBody st) (defScope st) .none kV doc pm an cdv ct) := ⟨⟨oc, od, kV, doc, pm, an, cdv, ct, osl, rfl, l, c⟩, k⟩
end
section
variable {X : Cx}
theorem pv (i : Nat) {x : Str} {pos : Pos} (hN : X.N[i]? = some x := by rfl) (hv : Vis X.env.scope x := by first | exact Or.inl rfl | exact Or.inr (Or.inl rfl) | exact Or.inr (Or.inr rfl)) (hd : (x == ("__debug__" : Str)) = false := by decide)
    (hcd : (x == ("__classdict__" : Str)) = false := by decide) : PE X (.Name x pos) (tVar i) := pe_var hN hv hd hcd
end
theorem iteF {A B : Prop} (h : B) : if false = true then A else B := by
  rw [if_neg Bool.false_ne_true]
  exact h
theorem iteT {A B : Prop} (h : A) : if true = true then A else B := by
  rw [if_pos rfl]
  exact h
theorem ite2 {c A B : Prop} [Decidable c] (h1 : c → A) (h2 : ¬ c → B) : if c then A else B := by
  by_cases h : c
  · rw [if_pos h]
    exact h1 h
  · rw [if_neg h]
    exact h2 h
section
variable {κ : Type} [DecidableEq κ]
end
end L2
namespace Gb
section
variable {α : Type} (nl : α) (pr : α → α → α)
end
end Gb
namespace Gb
section
variable {α : Type} (nl : α) (pr : α → α → α)
def hp (n : Nat) : Nat := 2 ^ Nat.log2 n
def fr : List α → α
  | [] => nl
  | [x] => x
  | x :: y :: r => pr x (fr (y :: r))
end
end Gb
namespace L2
open PySem PySem.Spec PyProof.Rows
section
variable {X : Cx} {CX : CXT} {k : Nat} {f : Addr} {sp : Addr → Sp} {E : XK} {x : Str} {p pos : Pos} {e : Expr} {es : List Expr} {t : TA} {i : Nat}
end
section
variable {X : Cx}
theorem mt_bitlen : MtR X "int.bit_length" (fun x vs H Q => ∃ i, x = .int i ∧ vs = [] ∧ Q (.int (Builtin.Int.intBits i : Nat)) H) := by
  intro pins s σ H x vs v us Q I rx rv h
  obtain ⟨i, rfl, rfl, q⟩ := h
  obtain ⟨t, rfl⟩ := rx
  cases rv.zero
  exact call_int_bit_length ⟨.int _, H, I.tok _, ⟨_, rfl⟩, q⟩
theorem call_isinst : CallR X (.builtin "isinstance") (fun xs H Q => ∃ x t c b, xs = [x, .ty c] ∧ TyOf X.K H x t ∧ PySem.W.kitOne X.K t (.type c) = some b ∧ Q (.bl b) H) := by
  intro pins s σ H xs us Q I r h
  obtain ⟨x, t, c, b, rfl, ty, e, q⟩ := h
  obtain ⟨u, w', rfl, rx, rc⟩ := vals2 r
  obtain rfl : w' = Value.type c := rc
  exact isinst_ok I rx ty e fun tk => ⟨.bl b, H, I.tok tk, rfl, q⟩
def Scr (K : PySem.W.Frag) (H : Hp) (a : Addr) (xs : List V) : Prop :=
  ∃ (its : List Value) (n : Nat), Vals xs its ∧ xs.length ≤ sizeLine ∧ ((∃ u, H a = some (.frz { cls := .type "list", data := .seq its.toArray n } u)) ∨ K.lookup a = some { cls := .type "list", data := .seq its.toArray n })
end
end L2
namespace L2
open PySem PySem.Spec PyProof.Rows
theorem eqV_self {x : V} (h : flatV x = true) : eqV x x = true := by
  cases x <;> first | rfl | exact beq_self_eq_true _ | cases h
theorem all_true (n : Nat) : (List.range n).all (fun _ => true) = true := by simp
theorem Vals.at {xs : List V} {its : List Value} (r : Vals xs its) {j : Nat} (h : j < its.toArray.size) : ∃ x, xs[j]? = some x ∧ RelV x its.toArray[j] := by
  have hl := r.length
  have hj : j < xs.length := by simp at h; omega
  obtain ⟨u, hu, ru⟩ := r.get (i := j) (x := xs[j]) (by simp [hj])
  refine ⟨xs[j], by simp [hj], ?_⟩
  have : its.toArray[j] = u := by
    have h2 : j < its.length := by simpa using h
    rw [List.getElem_toArray]
    rw [List.getElem?_eq_getElem h2] at hu
    exact Option.some.inj hu
  rw [this]; exact ru
section
variable {X : Cx}
end
end L2
namespace L2
open PySem PySem.Spec PyProof.Rows
section
variable {P : Program} {w : World} {K : PySem.W.Frag} {mg : Str → Option Value} {base : Heap}
end
theorem HOk.track {P : Program} {w : World} {H : Hp} {h : Heap} {a : Addr} {o : Obj} (x : HOk P w H h) (ho : h.get? a = some o) (hn : H a = none) : HOk P w (upd H a (.frz o (.own 0))) h := fun b u e => by
  by_cases hb : b = a
  · subst hb; rw [upd_same] at e; cases e; exact ⟨ho, o, ho⟩
  · rw [upd_ne hb] at e
    exact (x b u e).stay (fun c v _ q => q) (fun c q => by rw [upd_ne (ne_of_none q hn)]; exact q) fun c xs q => by rw [upd_ne (ne_of_none q hn)]; exact q
section
variable {X : Cx} {name : Str} {params : Arguments} {body : List Stmt} {scope : Scope} {pos : Pos} {i : Nat} {Pt c0 : Addr} {clos : List (Str × Addr)}
end
end L2
namespace L2
open PySem PySem.Spec PyProof.Rows
def cxComp (X : Cx) (s₂ : Shared) (H₂ : Hp) (fp : List Addr) (sc : Scope) (cl : List (Str × Addr)) (N' : List Str) : Cx :=
  { X with N := N', s₀ := s₂, H₀ := H₂, env := compEnvC sc cl s₂.heap.objs.size X.env, outer := X.stack, stack := X.stack, ex := fp, fn := fun _ => false, pn := [], xe := fun _ _ => False }
def PTs (X : Cx) (ifs : List Expr) (tt : TT) : Prop :=
  ∀ (pins : List (Addr × Obj)) (s : Shared) (σ : St) (H : Hp) (Q : Bool → Hp → Prop) (E : Value → Shared → Prop), X.xe = (fun _ _ => False) → Inv X pins σ H s → tt σ H Q →
    wpAny (model X.prog X.w) X.A (forIn ifs true fun c r => if r = true then do let ok ← isTrue c X.env (eval c X.env); pure (ForInStep.yield ok) else pure (ForInStep.yield r)) (TP X pins σ Q) E s
theorem pts_nil {X : Cx} : PTs X [] (fun _ H Q => Q true H) := fun pins s σ H Q E _ I h => wpAny_tests_nil ⟨H, I, h⟩
theorem pts_one {X : Cx} {c : Expr} {t : TT} (h : PT X c t) : PTs X [c] t := fun pins s σ H Q E hx I q => wpAny_tests_one (wpAny_mono (h pins s σ H Q I q) (fun _ _ x => x) fun e s' x => by rw [hx] at x; exact x.elim)
def capt (js : List Nat) (σ : St) : St := js.map fun j => (σ[j]?).join
def tComp (wi : TI) (js : List Nat) (tt : TT) (te : TE) : TE := fun σ H Q => wi σ H fun J H1 => ∀ D, H1 D = none → ∃ W : Nat → Nat → List V → Hp → Prop, (∃ m, W 0 m [] (upd H1 D (.lst []))) ∧ ∀ i m ys H, W i m ys H →
  (J.stop i H ∧ Q (.ref D) H) ∨ (J.go i H ∧ ∀ x H', J.yld i H x H' → tt (some x :: capt js σ) H' fun b H2 => if b = true then te (some x :: capt js σ) H2 fun y H3 => H3 D = some (.lst ys) ∧ ys.length < sizeLine ∧ ∃ m', m' < m ∧ W (i + 1) m' (ys ++ [y]) (upd H3 D (.lst (ys ++ [y])))
    else ∃ m', m' < m ∧ W (i + 1) m' ys H2)
structure CompOk (X : Cx) (x : Str) (ys : List Str) (js : List Nat) (sc : Scope) (cl : List (Str × Addr)) : Prop where
  calm : X.calm = true
  clos : closureFor sc X.env = pure cl
  kind : sc.kind = .function
  names : ∀ z ∈ sc.names, z.2 = .local → sc.names.lookup z.1 = some .local
  nocell : ∀ z ∈ sc.names, z.2 ≠ .cell
  own : sc.names.lookup x = some .local
  nd : (x :: ys).Nodup
  same : ∀ z c, cl.lookup z = some c → X.env.cells.lookup z = some c
  has : (relabel sc X.env).names.all (fun p => !(p.2 == .cell || p.2 == .free) || (cl.lookup p.1).isSome) = true
  cap : ∀ (i : Nat) y, ys[i]? = some y → ∃ j, js[i]? = some j ∧ X.N[j]? = some y ∧ X.env.scope.names.lookup y = some .cell ∧ (relabel sc X.env).names.lookup y = some .cell
  len : ys.length = js.length
theorem comp_core {X : Cx} {x : Str} {px : Pos} {ys : List Str} {js : List Nat} {sc : Scope} {cl : List (Str × Addr)} {elt iter : Expr} {ifs : List Expr} {pos : Pos} {wi : TI} {tt : TT} {te : TE} {use : Option (Value → Sem Unit)} {QQ : Value → Shared → Prop}
    (ok : CompOk X x ys js sc cl) (hi : PI X (.Name x px) iter wi)
    (ht : ∀ s₂ H₂ fp, PTs (cxComp X s₂ H₂ fp sc cl (x :: ys)) ifs tt) (he : ∀ s₂ H₂ fp, PE (cxComp X s₂ H₂ fp sc cl (x :: ys)) elt te)
    {pins : List (Addr × Obj)} {s : Shared} {σ : St} {H : Hp} {Q : VK} (I : Inv X pins σ H s) (h : tComp wi js tt te σ H Q)
    (fin : ∀ (D C : Addr) (H' : Hp) (s' : Shared), Inv X pins σ H' s' → Q (.ref D) H' → FpOk X pins H' C → (∃ m, s'.heap.Ns C m) → compPost (model X.prog X.w) X.A X.xe use QQ (.ref D) C (.ok .next) s')
    (hs : ∀ x, foldedSetIterable iter X.env x = pure x) {p2 : Pos} :
    wpAny (model X.prog X.w) X.A (comprehension (.ListComp elt [⟨.Name x px, iter, ifs, 0⟩] sc pos) sc X.env p2 (newList []) false (eval iter X.env) use) QQ X.xe s := by
  refine wpAny_comprehension_free (use := use) rfl hs ok.clos ok.kind ok.names (thn (hi pins s σ H _ I h) fun v s0 h0 => thn h0 fun itv s1 h1 => ?_)
  obtain ⟨it, fp, tn, J, H1, e, I1, T, st1, f1, h1⟩ := h1
  subst e
  -- the new list
  refine wpAny_newObj_type ?_
  have I2 := I1.lnew (ys := []) (its := []) (t' := s1.toks) .nil (by simp)
  obtain ⟨W, ⟨m0, w0⟩, turn⟩ := h1 s1.heap.objs.size I1.fresh
  generalize hs2 : ({ s1 with heap := s1.heap.push { cls := .type "list", data := .seq ([] : List Value).toArray }, toks := s1.toks } : Shared) = s2 at I2
  have es2 : s2.heap = s1.heap.push { cls := .type "list", data := .seq ([] : List Value).toArray } := by rw [← hs2]
  have hD : s1.heap.objs.size < s2.heap.objs.size := by rw [es2, Heap.size_push]; exact Nat.lt_succ_self _
  generalize hH2 : upd H1 s1.heap.objs.size (.lst []) = H2 at I2 w0
  have k12 : ∀ b o, s1.heap.get? b = some o → s2.heap.get? b = some o := fun b o e => by rw [es2]; exact Heap.get?_push_of_some _ e
  have st2 : tn 0 s2.heap := T.keep _ _ _ st1 fun b hb o e => k12 b o e
  have fplt : ∀ b ∈ fp, b < s1.heap.objs.size := fun b hb => by obtain ⟨o, e, _⟩ := T.obj _ _ st1 b hb; exact Heap.lt_size e
  have f2 : ∀ b ∈ fp, FpOk X pins H2 b := fun b hb => ⟨by rw [← hH2, upd_ne (Nat.ne_of_lt (fplt b hb))]; exact (f1 b hb).1, (f1 b hb).2⟩
  -- the block's frame
  refine wpAny_newFunctionEnv ok.nocell (by intro z hz; simp at hz) (fun h3 hns hsb => ?_) ok.kind
  have k23 : ∀ b o, s2.heap.get? b = some o → h3.get? b = some o := fun b o e => hsb.extBut b o (Nat.ne_of_lt (Heap.lt_size e)) (Heap.get?_push_of_some _ e)
  generalize hs3 : ({ s2 with heap := h3, toks := s2.toks + ([] : List (Str × Value)).length } : Shared) = s3
  have es3 : s3.heap = h3 := by rw [← hs3]
  have os3 : s3.os = s2.os := by rw [← hs3]
  have gs3 : s3.gens = s2.gens := by rw [← hs3]
  have hX : (cxComp X s2 H2 fp sc cl (x :: ys)).Ok := by
    refine ⟨I2.mod, ok.kind, I2.ok.glob, I2.ok.blt, Nat.le_refl _, fun a b c e1 e2 => I2.ok.inj a b c (ok.same a c e1) (ok.same b c e2), fun z hz => ?_, fun z c q _ => absurd (show false = true from q) (by simp), I2.ok.hd, I2.ok.frames, .inl rfl,
      fun b hb => ?_, I2.bs, ?_, fun b o e hb => ?_, fun b hb hf => ?_, I2.stack, I2.stkFree⟩
    · have hz : (relabel sc X.env).names.lookup z = some .cell ∨ (relabel sc X.env).names.lookup z = some .free := hz
      have go : ∀ k, (relabel sc X.env).names.lookup z = some k → (k == .cell || k == .free) = true → ∃ c, cl.lookup z = some c := fun k hk hb => by
        have q := List.all_eq_true.mp ok.has (z, k) (PySem.mem_of_lookup hk)
        rw [hb] at q
        exact Option.isSome_iff_exists.mp q
      rcases hz with hz | hz
      · exact go _ hz rfl
      · exact go _ hz rfl
    · refine ⟨?_, fun z c e => (f2 b hb).2.2.2.2.1 z c (ok.same z c e)⟩
      show b ≠ s2.heap.objs.size
      exact Nat.ne_of_lt (Nat.lt_trans (fplt b hb) hD)
    · show X.base.objs.size ≤ s2.heap.objs.size
      exact Nat.le_trans I2.ok.bsz I2.sz
    · rcases (f2 b hb).2.2.2.1 with z | z
      · exact I2.ok.noex b o e z
      · exact absurd (Nat.lt_of_lt_of_le (Heap.lt_size e) (Nat.le_trans I2.ok.bsz z)) (Nat.lt_irrefl _)
    · rcases List.mem_cons.mp (I2.stkSub b hf) with z | z
      · exact (f2 b hb).2.1 z
      · exact (f2 b hb).2.2.1 z
  have hlt2 : ∀ z c, X.env.cells.lookup z = some c → c < s2.heap.objs.size := fun z c e => by obtain ⟨v, q⟩ := I2.cell z c e; exact q.lt
  have I3 : ∀ o : Option V, Inv (cxComp X s2 H2 fp sc cl (x :: ys)) [] (none :: capt js σ) H2 s3 := fun _ => by
    refine ⟨hX, os3, by rw [gs3]; exact I2.bare, Un.kept (by rw [es3]; exact k23), ⟨_, by rw [es3]; exact hns, fun i y v e1 e2 e3 => ?_⟩, fun z c e => ?_, I2.hok.fresh (Nat.le_refl _), fun z c e => ?_, fun p hp => absurd (show p ∈ ([] : List (Addr × Obj)) from hp) (by simp), by rw [es3]; exact I2.hok.kept k23, ?_⟩
    · cases i with
      | zero => simp at e2
      | succ i =>
        have e1 : ys[i]? = some y := by simpa [cxComp] using e1
        obtain ⟨j, hj, hN, hk, hk2⟩ := ok.cap i y e1
        have e2 : (capt js σ)[i]? = some (some v) := by simpa using e2
        unfold capt at e2
        rw [List.getElem?_map, hj] at e2
        have e2' : (σ[j]?).join = some v := by simpa using e2
        have e4 : σ[j]? = some (some v) := by
          cases q : σ[j]? with
          | none => rw [q] at e2'; cases e2'
          | some w => rw [q] at e2'; simp at e2'; rw [e2']
        obtain ⟨m, hn, hl⟩ := I2.loc
        obtain ⟨u, r, l⟩ := hl j y v hN e4 (.inr (.inl hk))
        refine ⟨u, r, ?_⟩
        rcases l with ⟨k, _⟩ | ⟨_, c, hc, z⟩
        · exact absurd ((show X.env.scope.names.lookup y = some .local from k).symm.trans hk) (by simp)
        · have q := List.all_eq_true.mp ok.has (y, .cell) (PySem.mem_of_lookup hk2)
          obtain ⟨c', hc'⟩ : ∃ c', cl.lookup y = some c' := Option.isSome_iff_exists.mp (by simpa using q)
          have e5 := ok.same y c' hc'
          rw [hc] at e5
          cases e5
          refine .inr ⟨.inl hk2, c, hc', ?_⟩
          rw [es3]
          exact z.keeps k23
    · obtain ⟨v, q⟩ := I2.cell z c (ok.same z c e)
      exact ⟨v, by rw [es3]; exact q.keeps k23⟩
    · rcases I2.freeC z c (ok.same z c e) with q | ⟨_, ob, q⟩
      · exact .inl q
      · exact .inr ⟨rfl, ob, q⟩
    · show _ = (x :: ys).length
      unfold capt
      simp; exact ok.len.symm
  -- the loop
  have stat : ∀ {H' : Hp}, (∀ b ∈ fp, H' b = none) → ∀ b ∈ fp, FpOk (cxComp X s2 H2 fp sc cl (x :: ys)) [] H' b := fun {H'} hn b hb => by
    refine ⟨hn b hb, Nat.ne_of_lt (Nat.lt_trans (fplt b hb) hD), fun hf => ?_, .inl hb, fun z c e => (f2 b hb).2.2.2.2.1 z c (ok.same z c e), fun p hp => absurd (show p ∈ ([] : List (Addr × Obj)) from hp) (by simp)⟩
    rcases List.mem_cons.mp (I2.stkSub b hf) with z | z
    · exact (f2 b hb).2.1 z
    · exact (f2 b hb).2.2.1 z
  have loop : codeAny (model X.prog X.w) X.A (.compLoop (.ListComp elt [⟨.Name x px, iter, ifs, 0⟩] sc pos) 0 (.ref it) (.ref s1.heap.objs.size) (compEnvC sc cl s2.heap.objs.size X.env)) (compPost (model X.prog X.w) X.A X.xe use QQ (.ref s1.heap.objs.size) s2.heap.objs.size) s3 := by
    refine codeAny_compLoop_tests (fun n s' => ∃ i o zs H', Inv (cxComp X s2 H2 fp sc cl (x :: ys)) [] (o :: capt js σ) H' s' ∧ tn i s'.heap ∧ (∀ b ∈ fp, H' b = none) ∧ W i n zs H') ?_ m0 ⟨0, none, [], H2, I3 none, T.keep _ _ _ st2 fun b hb o e => by rw [es3]; exact k23 b o e, fun b hb => (f2 b hb).1, w0⟩
    rintro n s4 ⟨i, o, zs, H4, I4, st4, fr4, w4⟩
    rcases turn i n zs H4 w4 with ⟨stop, qn⟩ | ⟨go, step⟩
    · refine wpAny_mono (T.done (cxComp X s2 H2 fp sc cl (x :: ys)) rfl rfl rfl ok.calm i [] s4 _ H4 (fun _ _ => False) I4 (stat fr4) st4 stop) (fun r s5 ⟨hr, I5⟩ => ?_) fun _ _ e => e.elim
      subst hr
      have I6 : Inv X pins σ H4 s5 := I2.call' (ch := fp) I5.os I5.base I5.hok I5.bare fun b hb => ⟨(f2 b hb).2.2.2.1, (f2 b hb).2.1, (f2 b hb).2.2.2.2.1, (f2 b hb).2.2.2.2.2⟩
      obtain ⟨m, hn, _⟩ := I5.loc
      exact fin _ _ H4 s5 I6 qn (I2.fpOk (Nat.le_refl _) I5.free) ⟨m, hn⟩
    · refine wpAny_mono (T.item (cxComp X s2 H2 fp sc cl (x :: ys)) rfl rfl rfl ok.calm i [] s4 _ H4 (fun _ _ => False) I4 (stat fr4) st4 go) (fun r s5 ⟨u, hr, h5⟩ => ?_) fun _ _ e => e.elim
      subst hr
      -- the store
      have asg : ∀ (Q2 : Unit → Shared → Prop), (∀ s6 v H6, Inv (cxComp X s2 H2 fp sc cl (x :: ys)) ([] ++ pinsAt fp s6.heap) (some v :: capt js σ) H6 s6 → J.yld i H4 v H6 → tn (i + 1) s6.heap → (∀ b ∈ fp, H6 b = none) → Q2 () s6) →
          wpAny (model X.prog X.w) X.A (assign (.Name x px) (compEnvC sc cl s2.heap.objs.size X.env) u) Q2 (fun _ _ => False) s5 := fun Q2 hQ2 => by
        have z : wpAny (model X.prog X.w) X.A (letOwnedTupleGo (.Name x px) (.ref it) u >>= fun _ => assign (.Name x px) (compEnvC sc cl s2.heap.objs.size X.env) u) Q2 (fun _ _ => False) s5 := by
          refine wpAny_bind (wpAny_mono h5 (fun _ s6 ⟨v, H6, I6, r6, y6, st6, fr6⟩ => ?_) fun _ _ e => e)
          have I6' := I6.pinned (stat fr6) (T.obj _ _ st6)
          refine wpAny_assign_Name (store_ok (X := cxComp X s2 H2 fp sc cl (x :: ys)) (i := 0) I6' ok.nd rfl (.inl (lookup_relabel_local ok.own)) r6 (fun s7 I7 => ?_) (.inr (lookup_relabel_local ok.own)))
          have e7 : ∀ b ∈ fp, ∀ o, s6.heap.get? b = some o → s7.heap.get? b = some o := fun b hb o e => (I7.pin (b, o) (List.mem_append_right _ (List.mem_append_right _ (mem_pinsAt hb e)))).1
          have st7 : tn (i + 1) s7.heap := T.keep _ _ _ st6 e7
          refine hQ2 s7 v H6 ?_ y6 st7 fr6
          have I8 := I7.unpinned
          exact I8.pinned (stat fr6) (T.obj _ _ st7)
        have e : letOwnedTupleGo (.Name x px) (.ref it) u = pure () := rfl
        rw [e, pure_bind] at z
        exact z
      refine wpAny_mono (asg _ fun s6 v H6 I6 y6 st6 fr6 => ?_) (fun _ _ q => q) fun _ _ e => e.elim
      have keepI : ∀ {H7 : Hp} {s7 : Shared} {σ7 : St}, Inv (cxComp X s2 H2 fp sc cl (x :: ys)) ([] ++ pinsAt fp s6.heap) σ7 H7 s7 → tn (i + 1) s7.heap ∧ ∀ b ∈ fp, H7 b = none := fun {H7 s7 σ7} I7 =>
        ⟨T.keep _ _ _ st6 fun b hb o e => (I7.pin (b, o) (List.mem_append_right _ (List.mem_append_right _ (mem_pinsAt hb e)))).1, fun b hb => by
          obtain ⟨o, e, d⟩ := T.obj _ _ st6 b hb
          exact (I7.pin (b, o) (List.mem_append_right _ (List.mem_append_right _ (mem_pinsAt hb e)))).2.1⟩
      refine wpAny_mono (ht s2 H2 fp _ s6 _ H6 _ (fun _ _ => False) rfl I6 (step v H6 y6)) (fun b s7 ⟨H7, I7, q7⟩ => ?_) fun _ _ e => e.elim
      cases b with
      | false =>
        rw [if_neg Bool.false_ne_true] at q7 ⊢
        obtain ⟨m', hm, w7⟩ := q7
        obtain ⟨st7, fr7⟩ := keepI I7
        exact ⟨m', hm, i + 1, some v, zs, H7, I7.unpinned, st7, fr7, w7⟩
      | true =>
        rw [if_pos rfl] at q7 ⊢
        refine wpAny_mono (he s2 H2 fp _ s7 _ H7 _ I7 q7) (fun y s8 ⟨yv, H8, I8, r8, hD8, hz8, m', hm, w8⟩ => ?_) fun _ _ (e : False) => e.elim
        refine wpAny_mono (mt_append (X := cxComp X s2 H2 fp sc cl (x :: ys)) _ s8 _ H8 (.ref s1.heap.objs.size) [yv] (.ref s1.heap.objs.size) [y] (fun v H9 => H9 = upd H8 s1.heap.objs.size (.lst (zs ++ [yv]))) I8 rfl (.cons r8 .nil) ⟨_, zs, yv, rfl, rfl, hD8, hz8, rfl⟩)
          (fun _ s9 ⟨_, H9, I9, _, e9⟩ => ?_) fun _ _ (e : False) => e.elim
        subst e9
        obtain ⟨st9, fr9⟩ := keepI I9
        exact ⟨m', hm, i + 1, some v, zs ++ [yv], _, I9.unpinned, st9, fr9, w8⟩
  have self3 : tn 0 s3.heap := T.keep _ _ _ st2 fun b hb o e => by rw [es3]; exact k23 b o e
  exact codeAny_compStart_list loop (T.self X.A 0 _ _ _ self3 loop)
theorem pe_comp {X : Cx} {x : Str} {px : Pos} {ys : List Str} {js : List Nat} {sc : Scope} {cl : List (Str × Addr)} {elt iter : Expr} {ifs : List Expr} {pos : Pos} {wi : TI} {tt : TT} {te : TE} (ok : CompOk X x ys js sc cl) (hi : PI X (.Name x px) iter wi)
    (ht : ∀ s₂ H₂ fp, PTs (cxComp X s₂ H₂ fp sc cl (x :: ys)) ifs tt) (he : ∀ s₂ H₂ fp, PE (cxComp X s₂ H₂ fp sc cl (x :: ys)) elt te) (hs : ∀ x, foldedSetIterable iter X.env x = pure x := by intro _; rfl) :
    PE X (.ListComp elt [⟨.Name x px, iter, ifs, 0⟩] sc pos) (tComp wi js tt te) := by
  intro pins s σ H Q I h
  rw [eval_ListComp]
  refine comp_core (use := none) ok hi ht he I h (fun D C H' s' I' q fc ⟨m, hn⟩ => ⟨m, hn, fun h' hs' => ?_⟩) hs
  obtain ⟨f0, f1, f2, f3, f4, f5⟩ := fc
  exact ⟨.ref D, H', I'.turned (t' := s'.toks) (fun b o hb e => (hs'.2 b hb).trans e) f0 f1 f3 f4 f5, rfl, q⟩
theorem ps_setComp {X : Cx} {x z : Str} {px pz : Pos} {iz : Nat} {ys : List Str} {js : List Nat} {sc : Scope} {cl : List (Str × Addr)} {elt iter : Expr} {ifs : List Expr} {pos spos : Pos} {wi : TI} {tt : TT} {te : TE} (ok : CompOk X x ys js sc cl) (hi : PI X (.Name x px) iter wi)
    (ht : ∀ s₂ H₂ fp, PTs (cxComp X s₂ H₂ fp sc cl (x :: ys)) ifs tt) (he : ∀ s₂ H₂ fp, PE (cxComp X s₂ H₂ fp sc cl (x :: ys)) elt te)
    (hN : X.N.Nodup) (hiz : X.N[iz]? = some z) (hz : Loc X.env.scope z) (hf : X.fn z = true ∨ X.env.scope.names.lookup z = some .local)
    (hsw : swapsWith (.ListComp elt [⟨.Name x px, iter, ifs, 0⟩] sc pos) (some (.Name z pz)) spos.line X.env = pure true) (hs : ∀ x, foldedSetIterable iter X.env x = pure x := by intro _; rfl) :
    PS X (.Assign [.Name z pz] (.ListComp elt [⟨.Name x px, iter, ifs, 0⟩] sc pos) spos) (tAsg (tComp wi js tt te) (gName iz)) := by
  intro pins s σ H D I h
  rw [exec_Assign_Name_used _ _ _ _ hsw]
  refine wpAny_bind (wpAny_standAt (wpAny_bind ?_))
  show wpAny _ X.A (do let _ ← comprehension (.ListComp elt [⟨.Name x px, iter, ifs, 0⟩] sc pos) sc X.env _ (newList []) false (eval iter X.env) (some (assign (.Name z pz) X.env))) _ _ s
  refine wpAny_bind (wpAny_mono (comp_core (use := some (assign (.Name z pz) X.env)) (QQ := fun _ s' => SP X pins D .next s') ok hi ht he I h (fun d C H' s' I' q fc ⟨m, hn⟩ => ?_) hs) (fun _ s' hq => wpAny_pure (wpAny_pure hq)) fun _ _ e => e)
  obtain ⟨f0, f1, f2, f3, f4, f5⟩ := fc
  show wpAny _ _ (assign (.Name z pz) X.env (.ref d)) _ _ s'
  refine wpAny_assign_Name (store_ok2 I' hN hiz hz (v := .ref d) rfl (fun s2 I2 ⟨a, hsb, ha⟩ => ?_) hf)
  have hCa : C ≠ a := by
    rcases ha with rfl | ha
    · exact f1
    · exact fun e => f4 z a ha e.symm
  refine ⟨m, hn.sameBut hsb hCa, fun h' hs' => ⟨_, H', I2.turned (t' := s2.toks) (fun b o hb e => (hs'.2 b hb).trans e) f0 f1 f3 f4 f5, q⟩⟩
end L2
namespace L2
open PySem PySem.Spec PyProof.Rows
inductive Tm where
  | int (i : Int) | str (x : Str) | nd (m : Str) (a b : Tm)
inductive Sl where
  | plain | turned | num (d : Addr)
def Sl.d : Sl → Option Addr
  | .num d => some d
  | _ => none
theorem Paired.imp2 {α β : Type} {F G : α → β → Prop} (f : ∀ a b, F a b → G a b) : ∀ {l₁ : List α} {l₂ : List β}, Paired F l₁ l₂ → Paired G l₁ l₂
  | _, _, .nil => .nil
  | _, _, .cons r t => .cons (f _ _ r) (Paired.imp2 f t)
theorem pr_app {α β : Type} {F : α → β → Prop} : ∀ {l₁ l₂ : List α} {m₁ m₂ : List β}, Paired F l₁ m₁ → Paired F l₂ m₂ → Paired F (l₁ ++ l₂) (m₁ ++ m₂)
  | _, _, _, _, .nil, s => s
  | _, _, _, _, .cons r t, s => .cons r (pr_app t s)
end L2
namespace L2
open PySem PySem.Spec PyProof.Rows
def FunAt (K : PySem.W.Frag) (mg : Str → Option Value) (x : Str) (st : Stmt) : Prop := ∃ f fd, mg x = some (.ref f) ∧ Fun K x x st f fd
theorem funAt_mk {K : PySem.W.Frag} {mg : Str → Option Value} {h : Heap} {x : Str} {st : Stmt} (X : K.In h) (G : h.Ns mainGlobals mg) {f : Addr} {oc : Value} {od an : Option Addr} {osl : Array (Option Value)} {kV doc pm cdv ct : Value}
    (a : PySem.W.nsIn K mainGlobals x = some (some (.ref f))) (l : K.lookup f = some ⟨oc, od, .func (PySem.W.fnOf x x (defArgs st) (defBody st) (defScope st) .none kV doc pm an cdv ct), osl⟩)
    (c : PySem.W.codeIn K cdv x = true) (k : PySem.W.keepIn K (.ref f) = true) : FunAt K mg x st := ⟨f, _, PySem.W.mg_of X G a, fun_mk l c k⟩
def FnP (P : Program) (w : World) (K : PySem.W.Frag) (mg : Str → Option Value) (base : Heap) (k : Nat) (x : Str) (ps : List Str) (sp : Sp) : Prop :=
  ∃ f fd, mg x = some (.ref f) ∧ PySem.W.keepIn K (.ref f) = true ∧ Binds K fd ps [] ∧ FnOk P w K mg base CX0 k f fd ps sp ∧ ∃ oc od sl, K.lookup f = some ⟨oc, od, .func fd, sl⟩
section
variable {P : Program} {w : World} {K : PySem.W.Frag} {mg : Str → Option Value} {base : Heap}
theorem FunAt.ok {x : Str} {st : Stmt} {N ps : List Str} {k : Nat} {sp : Sp} (F : FunAt K mg x st) (S : FnScope N ps (defScope st))
    (hb : ∀ (kV doc pm : Value) (an : Option Addr) (cdv ct : Value) (us : List Value), us.length = ps.length → bindArgs (PySem.W.fnOf x x (defArgs st) (defBody st) (defScope st) .none kV doc pm an cdv ct) ⟨us, []⟩ = pure (ps.zip us))
    (len : ∀ vs H Q E, sp vs H Q E → vs.length = ps.length)
    (hbody : ∀ (f : Addr) (cdv : Value) (A : Around) (outer : List Env) (s : Shared) (H : Hp) (vs : List V) (Q : VK) (E : XK), Room k (A.deeper (envOfC x (defScope st) s.heap.objs.size f cdv)) → sp vs H Q E →
      ∃ t, PSs (cxOf CX0 P w K mg base N x (defScope st) f cdv A outer s H E).nox (defBody st) t ∧ t { nx := fun _ H' => Q .non H', rt := Q } (start N vs) H) : FnP P w K mg base (k + 1) x ps sp := by
  obtain ⟨f, fd, h1, F⟩ := F
  refine ⟨f, fd, h1, F.kp, F.binds hb, F.ok S len fun cdv A outer s H vs Q E => hbody f cdv A outer s H vs Q E, ?_⟩
  obtain ⟨oc, od, kV, doc, pm, an, cdv, ct, osl, rfl, lk, hcd⟩ := F.ex
  exact ⟨_, _, _, lk⟩
end
section
variable {X : Cx} {k : Nat} {ps : List Str} {sp : Sp} {x : Str} {p pos : Pos} {e : Expr} {es : List Expr} {t : TA}
theorem pe_callN (F : FnP X.prog X.w X.K X.mg X.base k x ps sp) (hr : Room k X.A) (hg : Gl X x) (ha : PA X (e :: es) t) (hdb : (x == ("__debug__" : Str)) = false := by decide)
    (he : starEach (e :: es) X.env = (false, eval e X.env) :: starEach es X.env := by rfl) (hpl : (backTo pos (starEach es X.env)).any (·.1) = false := by rfl) : PE X (.Call (.Name x p) (e :: es) [] pos) (tCall sp [] E0 t) := by
  obtain ⟨f, fd, h1, h2, h3, h4, _⟩ := F
  exact pe_call h4 hr hg h1 h2 h3 .nil pass0 ha hdb he hpl
end
theorem pe_ty {X : Cx} {x : Str} {T : String} {pos : Pos} (hg : Gl X x) (hm : X.mg x = none) (hv : bootBuiltins x = some (.type T)) (hn : x ≠ "__name__" := by decide) (hd : (x == ("__debug__" : Str)) = false := by decide) : PE X (.Name x pos) (tC (.ty T)) :=
  pe_bltn (v := .ty T) hg hm hv rfl hn hd
section
variable {K : PySem.W.Frag} {mg : Str → Option Value} {st : Stmt} {S : Sl} {H H' : Hp} {f : Addr}
end
end L2
namespace L2
open PySem PySem.Spec PyProof.Rows
def BmAt (mg : Str → Option Value) (h : Heap) : Prop := ∃ bm ob, mg "__builtins__" = some (.ref bm) ∧ bm ≠ builtinsNs ∧ h.get? bm = some ob ∧ ob.cls = .type "module" ∧ ob.dict = some builtinsNs ∧ ob.data = .plain
theorem law_callT {P : Program} {w : World} {K : PySem.W.Frag} {mg mb : Str → Option Value} {k : Nat} {fa a c0 Pt : Addr} {fd : FuncData} {x : Str} {sp : Sp} {s₁ : Shared} {vs : List Value} {ns : List Int}
    (KX : K.In s₁.heap) (hns : s₁.heap.Ns mainGlobals mg) (hb : s₁.heap.Ns builtinsNs mb) (hbb : ∀ x : Str, x ≠ "__name__" → mb x = bootBuiltins x) (hlim : s₁.heap.NoLimit) (hg : s₁.gens = #[])
    (ha : s₁.heap.get? a = some { cls := .type "list", data := .seq vs.toArray }) (hi : IntsAre vs ns) (hl : ns.length ≤ sizeLine) (hr : Room k callerA)
    (hC : PySem.W.CodeHd s₁.heap c0 Pt) (hT : s₁.heap.get? Pt = some (PySem.W.tabObj #[])) (hnt : PySem.W.noTabs K = true) (hbm : BmAt mg s₁.heap)
    (F : ∀ base : Heap, K.In base → base.Ns mainGlobals mg → PySem.W.CodeHd base c0 Pt → BmAt mg base → FnOk P w K mg base CX0 k fa fd [x] sp) (hbind : ∀ (s : Shared) (u : Value), BindsTo s fd ⟨[u], []⟩ [(x, u)])
    (hsp : ∀ H : Hp, SqL K H a (ns.map V.int) → Scr K H a (ns.map V.int) → H Pt = some (.tbl #[]) → sp [.ref a] H (fun v _ => v = .bl true) fun _ _ _ => False) :
    codeAny (model P w) callerA (.call (.ref fa) ⟨[.ref a], []⟩) (fun r s' => r = .ok (.ret (.bool true)) ∧ OldK s₁.heap s'.heap ∧ s'.os = s₁.os ∧ AllBare s'.gens) s₁ := by
  have rv := vals_ints hi
  have lenV := hi.length
  have hKP : K.lookup Pt = none := by
    cases q : K.lookup Pt with
    | none => rfl
    | some o =>
      have e := KX _ _ q
      rw [hT] at e; cases e
      have h2 := List.all_eq_true.mp hnt (Pt, PySem.W.tabObj #[]) (PySem.W.mem_of_lookupK q)
      exact absurd (show false = true from h2) Bool.false_ne_true
  have haP : a ≠ Pt := by rintro rfl; rw [hT] at ha; cases ha
  have core : ∀ H : Hp, SqL K H a (ns.map V.int) → Scr K H a (ns.map V.int) → H Pt = some (.tbl #[]) → HOk P w H s₁.heap → (∀ b, H b ≠ none → b = Pt ∨ (b = a ∧ K.lookup a = none ∧ ∃ o xs, H b = some (.frz o (.lst xs)))) →
      codeAny (model P w) callerA (.call (.ref fa) ⟨[.ref a], []⟩) (fun r s' => r = .ok (.ret (.bool true)) ∧ OldK s₁.heap s'.heap ∧ s'.os = s₁.os ∧ AllBare s'.gens) s₁ := by
    intro H hS hScr hP hok hA
    have base_of : ∀ {b : Addr} {o : Obj}, s₁.heap.get? b = some o → H b = none → (hidT s₁.heap H).get? b = some o := fun e n => hidT_get e n
    have noT : ∀ {b : Addr} {o : Obj}, s₁.heap.get? b = some o → o.cls ≠ .none → o.cls ≠ .type "list" → H b = none := fun {b o} e d1 d2 => by
      cases q : H b with
      | none => rfl
      | some u =>
        rcases hA b (by rw [q]; simp) with z | ⟨z, _⟩
        · subst z; rw [hT] at e; cases e; exact absurd rfl d1
        · subst z; rw [ha] at e; cases e; exact absurd rfl d2
    have noA : ∀ {b : Addr} {o : Obj} {es : Array DictEntry} {ep : Nat}, s₁.heap.get? b = some o → o.data = .dict es ep → H b = none := fun {b o es ep} e d => by
      cases q : H b with
      | none => rfl
      | some u =>
        rcases hA b (by rw [q]; simp) with z | ⟨z, _⟩
        · subst z; rw [hT] at e; cases e; cases d
        · subst z; rw [ha] at e; cases e
          have d' : Data.seq vs.toArray _ = Data.dict es ep := d
          cases d'
    have nsK : ∀ {b : Addr} {m : Str → Option Value}, s₁.heap.Ns b m → (hidT s₁.heap H).Ns b m := fun {b m} ⟨o, es, ep, e, d, r⟩ => ⟨o, es, ep, base_of e (noA e d), d, r⟩
    have hKb : K.In (hidT s₁.heap H) := fun b o e => base_of (KX b o e) (by
      cases q : H b with
      | none => rfl
      | some u =>
        rcases hA b (by rw [q]; simp) with z | ⟨z, z2, _⟩
        · subst z; rw [hKP] at e; cases e
        · subst z; rw [z2] at e; cases e)
    have hCb : PySem.W.CodeHd (hidT s₁.heap H) c0 Pt := by
      obtain ⟨o, vs', file, tf, flags, tg, inF, text, tt, e1, r1, r⟩ := hC
      exact ⟨o, vs', file, tf, flags, tg, inF, text, tt, base_of e1 (noT e1 (by rw [r1]; nofun) (by rw [r1]; decide)), r1, r⟩
    have hBb : BmAt mg (hidT s₁.heap H) := by
      obtain ⟨bm, ob, b1, b2, b3, b4, r⟩ := hbm
      exact ⟨bm, ob, b1, b2, base_of b3 (noT b3 (by rw [b4]; nofun) (by rw [b4]; decide)), b4, r⟩
    have hM : Mod K mg (hidT s₁.heap H) := ⟨hKb, nsK hns, ⟨mb, nsK hb, hbb⟩, let ⟨mc, h1, h2⟩ := hlim; ⟨mc, nsK h1, h2⟩⟩
    have e0 : Env0 P w K mg (hidT s₁.heap H) callerA [] s₁ H := ⟨rfl, hM, fun b o e => of_hidT e, Nat.le_of_eq (hidT_size _ _), trivial, fun b hb => absurd (show b ∈ ([] : List Addr) from hb) (by simp), hok, .of_eq hg⟩
    refine codeAny_mono ((F _ hKb (nsK hns) hCb hBb).run callerA [] s₁ H ⟨[.ref a], []⟩ [.ref a] [.ref a] _ _ hr e0 (hbind s₁ (.ref a)) (.cons rfl .nil) (hsp H hS hScr hP)) fun r s' h => ?_
    cases r with
    | error e => exact (show False from h).elim
    | ok fl =>
      cases fl with
      | next => exact False.elim h
      | brk => exact False.elim h
      | cont => exact False.elim h
      | ret u =>
        obtain ⟨v, H', os, bare, un, hok', r', q⟩ := h
        have q' : v = .bl true := q
        subst q'
        obtain rfl : u = Value.bool true := r'
        have kp : ∀ b o, s₁.heap.get? b = some o → b ≠ Pt → s'.heap.get? b = some o := fun b o e hbP => by
          cases q : H b with
          | none => exact un.keep b o e q (by intro z; exact absurd (show b ∈ ([] : List Addr) from z) (by simp)) (by simp)
          | some u =>
            rcases hA b (by rw [q]; simp) with z | ⟨z, _, ob, xs, z2⟩
            · exact absurd z hbP
            · have z3 := un.frzs b ob _ z2
              obtain ⟨e1, _⟩ := hok b _ z2
              obtain ⟨e2, _⟩ := hok' b _ z3
              rw [e] at e1; cases e1
              exact e2
        obtain ⟨more, hm⟩ := un.tbls Pt #[] hP
        have hP' : s'.heap.get? Pt = some (PySem.W.tabObj (#[] ++ more)) := hok' _ _ hm
        refine ⟨rfl, ⟨fun b o e => ?_, fun b o e => ?_⟩, os, bare⟩
        · by_cases hbP : b = Pt
          · subst hbP
            rw [hT] at e; cases e
            exact .inr (.inl ⟨(hC.tab hT).isCodeTable, rfl, #[], more, rfl, hP'⟩)
          · exact .inl (kp b o e hbP)
        · by_cases hbP : b = Pt
          · subst hbP; exact ⟨_, hP'⟩
          · exact ⟨o, kp b o e hbP⟩
  cases hk : K.lookup a with
  | some o =>
    have e := KX a o hk
    rw [ha] at e
    cases e
    refine core (fun b => if b = Pt then some (.tbl #[]) else none) (.inr ⟨_, vs.toArray, _, hk, rfl, rfl, rfl, by rw [List.size_toArray, lenV]; exact hl, by simpa using rv⟩)
      ⟨vs, _, rv, by rw [List.length_map]; exact hl, .inr hk⟩ (if_pos rfl) (fun b u z => ?_) (fun b z => ?_)
    · by_cases hb : b = Pt
      · have z' := (if_pos hb).symm.trans z
        cases z'; subst hb; exact hT
      · have z' := (if_neg hb).symm.trans z
        cases z'
    · by_cases hb : b = Pt
      · exact .inl hb
      · exact absurd (if_neg hb) z
  | none =>
    have eH : (fun b => if b = Pt then some (.tbl #[]) else if b = a then some (.frz { cls := .type "list", data := .seq vs.toArray } (.lst (ns.map V.int))) else none : Hp) a = some (.frz { cls := .type "list", data := .seq vs.toArray } (.lst (ns.map V.int))) := by
      show (if a = Pt then _ else if a = a then _ else _) = _
      rw [if_neg haP, if_pos rfl]
    refine core (fun b => if b = Pt then some (.tbl #[]) else if b = a then some (.frz { cls := .type "list", data := .seq vs.toArray } (.lst (ns.map V.int))) else none) (.inl (.inr ⟨{ cls := .type "list", data := .seq vs.toArray }, eH⟩))
      ⟨vs, _, rv, by rw [List.length_map]; exact hl, .inl ⟨_, eH⟩⟩ (if_pos rfl) (fun b u z => ?_) (fun b z => ?_)
    · by_cases hb : b = Pt
      · have z' := (if_pos hb).symm.trans z
        cases z'; subst hb; exact hT
      · have z1 := (if_neg hb).symm.trans z
        by_cases hb2 : b = a
        · have z2 := (if_pos hb2).symm.trans z1
          cases z2
          subst hb2
          exact ⟨ha, by rw [List.length_map]; exact hl, vs, _, rv, ha⟩
        · have z2 := (if_neg hb2).symm.trans z1
          cases z2
    · by_cases hb : b = Pt
      · exact .inl hb
      · by_cases hb2 : b = a
        · exact .inr ⟨hb2, hk, _, _, by rw [if_neg hb, if_pos hb2]⟩
        · exact absurd (by rw [if_neg hb, if_neg hb2]) z
theorem walk_ofT {l : PySem.W.OpenLaw} {n k : Nat} {q : Program} {loose : List Str} {XP : (Str → Option Value) → Heap → Prop} {YP : World → Heap → Prop} {d dt : DefRec} {K : Params → PySem.W.Frag} {sp : PySem.W.Frag → (Str → Option Value) → Addr → Sp} {x xn : Str} {c0 Pt : Addr}
    (hn : l.most = some n) (hn2 : n ≤ sizeLine) (hdf : d.params.defaults = []) (hr : Room k callerA)
    (hY : ∀ (w : World) (h : Heap), YP w h → (K w.params).In h) (hrec : (recsOf q).find? (fun e => e.name == xn) = some dt)
    (ht : ∀ w : World, PySem.W.tabIn (K w.params) xn = some (c0, Pt)) (hnt : ∀ w : World, PySem.W.noTabs (K w.params) = true)
    (F : ∀ (w : World) (mg : Str → Option Value) (fa : Addr) (h : Heap), (K w.params).In h → h.Ns mainGlobals mg → mg d.name = some (.ref fa) → PySem.W.tabIn (K w.params) xn = some (c0, Pt) →
      ∃ fd : FuncData, (∀ (s : Shared) (u : Value), BindsTo s fd ⟨[u], []⟩ [(x, u)]) ∧
        ∀ base : Heap, (K w.params).In base → base.Ns mainGlobals mg → PySem.W.CodeHd base c0 Pt → BmAt mg base → FnOk l.prog w (K w.params) mg base CX0 k fa fd [x] (sp (K w.params) mg Pt))
    (hsp : ∀ (K : PySem.W.Frag) (mg : Str → Option Value) (Pt : Addr) (H : Hp) (a : Addr) (ns : List Int), ns.length ≤ n → SqL K H a (ns.map V.int) → Scr K H a (ns.map V.int) → H Pt = some (.tbl #[]) → sp K mg Pt [.ref a] H (fun v _ => v = .bl true) fun _ _ _ => False) :
    PySem.W.WalkO q loose XP YP l.row.toRowW d [] (fun f vs => PySem.call f vs) := by
  refine Att.attach_call hn hdf fun w s₀ s₁ mg mb fa o pm cd doc a vs ns G Y ho hd hcd hmg hobj hints hlen hg => ?_
  have KX := hY w _ Y
  obtain ⟨fd, hb, hF⟩ := F w mg fa _ KX G.T.g hmg (ht w)
  obtain ⟨hC, hT⟩ := PySem.W.tab_of G.T KX hrec (ht w)
  exact law_callT KX G.T.g G.T.b G.T.builtins G.T.nolimit hg hobj hints (Nat.le_trans hlen hn2) hr hC hT (hnt w) G.T.bmain hF hb fun H hS hScr hP => hsp _ mg _ H a ns hlen hS hScr hP
end L2
namespace L2
open PySem PySem.Spec PyProof.Rows
theorem law_fn {P : Program} {w : World} {K : PySem.W.Frag} {mg : Str → Option Value} {c0 Pt : Addr} {k : Nat} {sp : Sp} {x name : Str} {ps : List Str} {st : Stmt} {fa : Addr} (hmg : mg name = some (.ref fa)) (F : FunAt K mg name st)
    (h : ∀ base : Heap, K.In base → base.Ns mainGlobals mg → PySem.W.CodeHd base c0 Pt → BmAt mg base → FnP P w K mg base k name ps sp)
    (hps : ps = [x] := by rfl) (hbind : ∀ (kV doc pm : Value) (an : Option Addr) (cdv ct u : Value), bindArgs (PySem.W.fnOf name name (defArgs st) (defBody st) (defScope st) .none kV doc pm an cdv ct) ⟨[u], []⟩ = pure [(x, u)] := by intros; rfl) :
    ∃ fd : FuncData, (∀ (s : Shared) (u : Value), BindsTo s fd ⟨[u], []⟩ [(x, u)]) ∧ ∀ base : Heap, K.In base → base.Ns mainGlobals mg → PySem.W.CodeHd base c0 Pt → BmAt mg base → FnOk P w K mg base CX0 k fa fd [x] sp := by
  subst hps
  obtain ⟨f, fd, h1, F⟩ := F
  have e := hmg.symm.trans h1
  cases e
  obtain ⟨oc, od, kV, doc, pm, an, cdv, ct, osl, rfl, lk, hcd⟩ := F.ex
  refine ⟨_, fun s u => .of_eq (hbind kV doc pm an cdv ct u), fun base kb nb hC hB => ?_⟩
  obtain ⟨f', fd', h1', h2', h3', h4', oc2, od2, sl2, lk2⟩ := h base kb nb hC hB
  have e := h1.symm.trans h1'
  cases e
  rw [lk] at lk2
  cases lk2
  exact h4'
end L2
namespace L2
open PySem PySem.Spec PyProof.Rows
theorem tabIn_mk {K : PySem.W.Frag} {x : Str} {f c P : Addr} {oc o1 : Value} {od o2 : Option Addr} {fd : FuncData} {sl s2 : Array (Option Value)} {vs : Array Value} (a : PySem.W.nsIn K mainGlobals x = some (some (.ref f))) (l : K.lookup f = some ⟨oc, od, .func fd, sl⟩) (hc : fd.code = .ref c)
    (lc : K.lookup c = some ⟨o1, o2, .fields vs, s2⟩) (v : vs[11]? = some (.ref P)) : PySem.W.tabIn K x = some (c, P) := by
  unfold PySem.W.tabIn
  rw [a]
  dsimp only
  rw [l]
  dsimp only
  rw [hc]
  dsimp only
  rw [lc]
  dsimp only
  rw [v]
end L2
namespace L2
open PySem PySem.Spec PyProof.Rows
theorem ix_listK {X : Cx} (K : PySem.W.Frag) (hK : X.K = K) : IxR X (rIxL K) := by subst hK; exact ix_list
theorem ix_tupK {X : Cx} (K : PySem.W.Frag) (hK : X.K = K) : IxR X (rIxT K) := by subst hK; exact ix_tup
end L2
namespace L2
open PySem PySem.Spec PyProof.Rows
def MethAt (K : PySem.W.Frag) (C : Addr) (m qual : Str) (st : Stmt) : Prop := ∃ f fd, Meth K C m f ∧ Fun K m qual st f fd
theorem methAt_mk {K : PySem.W.Frag} {C : Addr} {m qual : Str} {st : Stmt} {f : Addr} {oc : Value} {od an : Option Addr} {osl : Array (Option Value)} {kV doc pm cdv ct : Value} (a : PySem.W.findIn K (.ref C) m = some (some (.ref f))) (i : PySem.W.isFn K (.ref f) = true)
    (l : K.lookup f = some ⟨oc, od, .func (PySem.W.fnOf m qual (defArgs st) (defBody st) (defScope st) .none kV doc pm an cdv ct), osl⟩) (c : PySem.W.codeIn K cdv qual = true) (k : PySem.W.keepIn K (.ref f) = true) : MethAt K C m qual st := ⟨f, _, ⟨a, i, k⟩, fun_mk l c k⟩
def MtP (P : Program) (w : World) (K : PySem.W.Frag) (mg : Str → Option Value) (base : Heap) (C : Addr) (k : Nat) (m : Str) (ps : List Str) (sp : Sp) : Prop := ∃ f fd, Meth K C m f ∧ Binds K fd ps [] ∧ FnOk P w K mg base CX0 k f fd ps sp
section
variable {P : Program} {w : World} {K : PySem.W.Frag} {mg : Str → Option Value} {base : Heap} {C : Addr}
theorem MethAt.ok {m qual : Str} {st : Stmt} {N ps : List Str} {k : Nat} {sp : Sp} (F : MethAt K C m qual st) (S : FnScope N ps (defScope st))
    (hb : ∀ (kV doc pm : Value) (an : Option Addr) (cdv ct : Value) (us : List Value), us.length = ps.length → bindArgs (PySem.W.fnOf m qual (defArgs st) (defBody st) (defScope st) .none kV doc pm an cdv ct) ⟨us, []⟩ = pure (ps.zip us))
    (len : ∀ vs H Q E, sp vs H Q E → vs.length = ps.length)
    (hbody : ∀ (f : Addr) (cdv : Value) (A : Around) (outer : List Env) (s : Shared) (H : Hp) (vs : List V) (Q : VK) (E : XK), Room k (A.deeper (envOfC qual (defScope st) s.heap.objs.size f cdv)) → sp vs H Q E →
      ∃ t, PSs (cxOf CX0 P w K mg base N qual (defScope st) f cdv A outer s H E).nox (defBody st) t ∧ t { nx := fun _ H' => Q .non H', rt := Q } (start N vs) H) : MtP P w K mg base C (k + 1) m ps sp := by
  obtain ⟨f, fd, h1, F⟩ := F
  exact ⟨f, fd, h1, F.binds hb, F.ok S len fun cdv A outer s H vs Q E => hbody f cdv A outer s H vs Q E⟩
end
section
variable {X : Cx} {C : Addr} {k : Nat} {ps : List Str} {sp : Sp} {m : Str} {o e : Expr} {es : List Expr} {ta : TE} {t : TA} {apos pos : Pos}
end
end L2
namespace Gb
section
variable {α : Type} (nl : α) (pr : α → α → α)
end
end Gb
namespace L2
open PySem PySem.Spec PyProof.Rows
theorem ObjOk.there {P : Program} {w : World} {H : Hp} {h : Heap} {a : Addr} {o : HO} (x : ObjOk P w H h a o) : ∃ ob, h.get? a = some ob := by
  cases o with
  | lst xs => obtain ⟨_, _, _, _, e⟩ := x; exact ⟨_, e⟩
  | tup xs => obtain ⟨_, _, _, o, e, _⟩ := x; exact ⟨_, e⟩
  | dK kvs => obtain ⟨_, _, _, _, o, _, _, e, _⟩ := x; exact ⟨_, e⟩
  | dT kvs => obtain ⟨_, _, _, _, o, _, _, e, _⟩ := x; exact ⟨_, e⟩
  | set S n => obtain ⟨o, _, _, _, e, _⟩ := x; exact ⟨_, e⟩
  | ins C dx fs => obtain ⟨_, _, _, e, _⟩ := x; exact ⟨_, e⟩
  | own y => exact x
  | xd fs => obtain ⟨_, ⟨_, _, _, e, _⟩, _⟩ := x; exact ⟨_, e⟩
  | rng lo hi => obtain ⟨_, _, _, e⟩ := x; exact ⟨_, e⟩
  | frz ob u => obtain ⟨e, _⟩ := x; exact ⟨_, e⟩
  | tbl ps => exact ⟨_, (show h.get? a = some _ from x)⟩
  | met f y => exact ⟨_, (show h.get? a = some _ from x)⟩
  | ext φ => obtain ⟨_, e, _⟩ := x; exact e
def quietIn (K : PySem.W.Frag) (N : Addr) : Bool := PySem.W.nsOkIn K N && quietNames.all fun n => PySem.W.nsIn K N n == some none
def tailQ (K : PySem.W.Frag) (bmB : List Value) : List Value → Bool
  | [] => bmB == []
  | v :: r => (v :: r == bmB) || match v with
    | .ref A => (match List.lookup A K with
      | some ⟨_, _, .cls cd, _⟩ => quietIn K cd.ns && tailQ K bmB r
      | _ => false)
    | _ => false
theorem quietIn.ns {K : PySem.W.Frag} {N : Addr} {h : Heap} (X : K.In h) (q : quietIn K N = true) : ∃ mN, h.Ns N mN ∧ ∀ n ∈ quietNames, mN n = none := by
  have q := Bool.and_eq_true_iff.mp q
  have nsI := Heap.Ns.of_isNs (PySem.W.isNs_of_in X q.1)
  refine ⟨_, nsI, fun n hn => ?_⟩
  have z := List.all_eq_true.mp q.2 n hn
  exact PySem.W.nsMap_none_of_in X q.1 (eq_of_beq z)
theorem tailQ.ok {K : PySem.W.Frag} {bmB : List Value} {h : Heap} (X : K.In h) : ∀ {l : List Value}, tailQ K bmB l = true → OwnTailQ h bmB l
  | [], q => by
    have e : bmB = [] := eq_of_beq (show (bmB == []) = true from q)
    subst e; exact .base
  | v :: r, q => by
    unfold tailQ at q
    rcases Bool.or_eq_true_iff.mp q with q | q
    · have e : v :: r = bmB := eq_of_beq q
      subst e; exact .base
    · split at q
      · split at q
        · next A _ c0 dd cd sl lk =>
          have q := Bool.and_eq_true_iff.mp q
          obtain ⟨mA, h1, h2⟩ := quietIn.ns X q.1
          exact .own (X _ _ lk) h1 h2 (tailQ.ok X q.2)
        · cases q
      · cases q
theorem exc_class_get {K : PySem.W.Frag} {C e : Addr} {oe : Obj} {prog : Program} {w : World} {A : Around} {s : Shared} {R : Result → Shared → Prop} {tp : Value} (X : K.In s.heap) (he : s.heap.get? e = some oe) (hc : oe.cls = .ref C)
    (mo : PySem.W.mroIn K C (.type "object") = some true) (h : R (.ok (.ret (.ref C))) s) (htp : (tp == Value.none) = false) :
    codeAny (model prog w) A (.call (.builtin "getset_descriptor.__get__") { pos := [.builtin "object.__class__", .ref e, tp] }) R s := by
  refine codeAny_call_builtin PySem.W.KF.slot_gs.plain PySem.W.KF.entry_gs ?_
  refine PySem.W.KF.slot_gs.check _ _ _ s _ _ _ _ PySem.W.KF.type_class (PySem.W.KF.args_gs _ _ _) ?_
  unfold Builtin.«getset_descriptor.__get__» Builtin.Getset_descriptor.descrGet
  refine wpAny_bind ?_
  show wpAny _ _ (pure (Value.builtin "object.__class__", some (Value.ref e), if (tp == Value.none) = true then none else some tp)) _ _ _
  refine wpAny_pure ?_
  show wpAny _ _ (Builtin.Getset_descriptor.descrGetter _ (some _)) _ _ _
  unfold Builtin.Getset_descriptor.descrGetter
  unfold Builtin.Getset_descriptor.descrCheckInstance
  refine wpAny_bind (wpAny_bind ?_)
  have hnc : Builtin.Getset_descriptor.descrNameAndClass (Value.builtin "object.__class__") = pure (Str.ofString "__class__", Value.type "object") := by
    show (match Builtin.Getset_descriptor.descrOwnerAndName "object.__class__" with | (o, n) => (pure (Str.ofString n, Value.type o) : Sem _)) = _
    rw [PySem.W.KF.owner_class]
  rw [hnc]
  refine wpAny_pure ?_
  refine wpAny_bind ?_
  unfold isInstance
  refine wpAny_bind (wpAny_typeOf_ref he ?_)
  rw [hc]
  refine PySem.W.looks_mroIn X mo _ _ _ s (fun _ _ z => z) ?_
  refine wpAny_pure ?_
  refine wpAny_pure ?_
  refine ⟨by kernel_rfl, codeAny_builtin PySem.W.KF.entry_class ?_⟩
  unfold Builtin.«object.__class__» shownTypeOf
  refine wpAny_bind (wpAny_bind (wpAny_typeOf_ref he ?_))
  rw [hc]
  refine wpAny_pure ?_
  exact wpAny_pure h
structure Fly (P : Program) (w : World) (outer : List Env) (H H' : Hp) (s : Shared) (C ea t : Addr) (B : Heap) (s' : Shared) : Prop where
  os : s'.os = s.os
  bare : AllBare s'.gens
  fly : B.FlyingW outer ea (.ref C) (.ref t) s'.heap
  un : Un (frs outer) [] H H' s.heap s'.heap
  hok : HOk P w H' s'.heap
  old : ∀ b o, s.heap.get? b = some o → H b = none → b ∉ frs outer → B.get? b = some o
  trk : ∀ b u, H' b = some u → b ∉ frs outer ∧ ∀ o, s'.heap.get? b = some o → B.get? b = some o
  all : ∀ b o, s.heap.get? b = some o → b ∈ frs outer ∨ ∃ o', B.get? b = some o'
theorem funFrames_base {h b1 b2 : Heap} : ∀ {l : List Env}, h.FunFrames b1 l → (∀ a ∈ frs l, b2.get? a = none) → h.FunFrames b2 l
  | [], _, _ => trivial
  | env :: r, x, k => by
    obtain ⟨hk, ⟨L, o, hf, hn, ho, hd⟩, hr⟩ := x
    refine ⟨hk, ⟨L, o, hf, k L (by unfold frs; rw [List.filterMap_cons, hf]; exact List.mem_cons_self), ho, hd⟩, funFrames_base hr fun a ha => k a ?_⟩
    unfold frs; rw [List.filterMap_cons, hf]; exact List.mem_cons_of_mem _ ha
end L2
namespace L2
open PySem PySem.Spec PyProof.Rows
section
variable {X : Cx}
end
section
variable {X : Cx} {pins : List (Addr × Obj)} {σ : St} {H H' : Hp} {s s' : Shared} {C ea t : Addr} {B h2 : Heap}
theorem Inv.fly (I : Inv X pins σ H s) (F : Fly X.prog X.w X.stack H H' s C ea t B s') (f2 : B.StaysIn h2) (up : s'.heap.UpToSlots h2) : Inv X pins σ H' { s' with heap := h2 } := by
  have slot : ∀ b o, s.heap.get? b = some o → H b = none → b ∈ frs X.stack → ∃ sl, h2.get? b = some { o with slots := sl } := fun b o e hn hb => by
    obtain ⟨sl, e1⟩ := F.un.slot b o e hn hb (by simp)
    obtain ⟨_, o2, e2, d2⟩ := I.stack.mem hb
    rw [e] at e2; cases e2
    obtain ⟨sl2, e3⟩ := up b _ e1 d2
    exact ⟨sl2, e3⟩
  refine I.call' (s' := { s' with heap := h2 }) (ch := []) F.os ⟨fun b o e n nf _ => f2 _ _ (F.old b o e n nf), fun b o e n hb _ => slot b o e n hb, F.un.free, fun b o e _ => ?_, F.un.tups, F.un.frzs, F.un.tbls⟩ (fun a u z => ?_) F.bare (fun b z => absurd z (by simp))
  · rcases F.all b o e with hb | ⟨o', z⟩
    · obtain ⟨sl, z⟩ := slot b o e (I.stkFree b hb) hb
      exact ⟨_, z⟩
    · exact ⟨o', f2 _ _ z⟩
  · refine (F.hok a u z).stay (fun b v hb hv => f2 _ _ ?_) (fun _ y => y) fun _ _ y => y
    rcases hb with rfl | hb
    · exact (F.trk _ _ z).2 _ hv
    · exact (F.trk _ _ hb).2 _ hv
end
section
variable {X : Cx} {e : Expr} {es : List Expr} {st : Stmt} {rest : List Stmt} {pos : Pos}
end
end L2
namespace L2
open PySem PySem.Spec PyProof.Rows
abbrev Cx.hand (X : Cx) (e : Addr) : Cx := { X with A := X.A.mark (some (.ref e)), calm := false }
section
variable {X : Cx} {pins : List (Addr × Obj)} {σ : St} {H : Hp} {s : Shared} {ea : Addr}
theorem Cx.Ok.hand (ok : X.Ok) (e : Addr) : (X.hand e).Ok :=
  ⟨ok.mod, ok.kind, ok.glob, ok.blt, ok.above, ok.inj, ok.has, ok.cab, (fun z => by cases z), ok.frames, ok.stk, ok.exf, ok.bs, ok.bsz, ok.noex, ok.exfs, ok.funs, ok.frf⟩
theorem Inv.hand (I : Inv X pins σ H s) (e : Addr) : Inv (X.hand e) pins σ H s := ⟨I.ok.hand e, I.os, I.bare, I.base, I.loc, I.cell, I.free, I.freeC, I.pin, I.hok, I.len⟩
theorem Inv.unhand (ok : X.Ok) (I : Inv (X.hand ea) pins σ H s) : Inv X pins σ H s := ⟨ok, I.os, I.bare, I.base, I.loc, I.cell, I.free, I.freeC, I.pin, I.hok, I.len⟩
theorem Inv.track' {a : Addr} {o : Obj} (I : Inv X pins σ H s) (ho : s.heap.get? a = some o) (h0 : H a = none) (h1 : a ≠ X.env.locals) (h4 : ∀ x c, X.env.cells.lookup x = some c → c ≠ a) (h5 : ∀ p ∈ X.pn ++ pins, p.1 ≠ a) (hs : X.s₀.heap.get? a = none) :
    Inv X pins σ (upd H a (.frz o (.own 0))) s := by
  refine ⟨I.ok, I.os, I.bare, ⟨I.base.keep, I.base.slot, fun b ob e n hx => ?_, I.base.there, fun b xs e => ?_, fun b ob u e => ?_, fun b ps e => ?_⟩, I.loc, I.cell, ?_, fun x c e => ?_, fun p hp => ?_, ?_, I.len⟩
  · have z : b ≠ a := fun z => by rw [z, hs] at e; cases e
    rw [upd_ne z]; exact I.base.free b ob e n hx
  · have q := I.base.tups b xs e
    rw [upd_ne (ne_of_none q h0)]; exact q
  · have q := I.base.frzs b ob u e
    rw [upd_ne (ne_of_none q h0)]; exact q
  · obtain ⟨more, q⟩ := I.base.tbls b ps e
    exact ⟨more, by rw [upd_ne (ne_of_none q h0)]; exact q⟩
  · rw [upd_ne (Ne.symm h1)]; exact I.free
  · rcases I.freeC x c e with z | ⟨z1, ob, z⟩
    · left; rw [upd_ne (h4 x c e)]; exact z
    · right; exact ⟨z1, ob, by rw [upd_ne (h4 x c e)]; exact z⟩
  · obtain ⟨e, n, ne, nf, d⟩ := I.pin p hp
    exact ⟨e, by rw [upd_ne (h5 p hp)]; exact n, ne, nf, d⟩
  · exact I.hok.track ho h0
theorem unbind_ok {M : Model} {A : Around} {E : Value → Shared → Prop} {i : Nat} {n : Str} {pos : Pos} {Q : Unit → Shared → Prop} (I : Inv X pins σ H s) (hN : X.N.Nodup) (hi : X.N[i]? = some n) (hk : X.env.scope.names.lookup n = some .local)
    (h : ∀ s', Inv X pins (σ.set i none) H s' → Q () s') : wpAny M A (do bindName X.env n Value.none; unbindBehindTheSuite X.env n pos) Q E s := by
  have hcls : (X.env.scope.kind == .class || (X.env.scope.kind == .module && X.env.locals != X.env.globals)) = false := by rw [I.ok.kind]; rfl
  refine wpAny_bind ?_
  unfold bindName
  refine wpAny_bind (wpAny_holding (wpAny_point (wpAny_bind (store_ok (v := .non) I hN hi (.inl hk) rfl (fun s1 I1 => wpAny_point ?_) (.inr hk)))))
  unfold unbindBehindTheSuite
  refine wpAny_onRaise ?_
  have hiσ : i < σ.length := by rw [I.len]; exact (List.getElem?_eq_some_iff.mp hi).1
  obtain ⟨m, hn, hl⟩ := id I1.loc
  have hmn : ∃ v, m n = some v := by
    obtain ⟨u, _, z⟩ := hl i n .non hi (by rw [List.getElem?_set_self hiσ]) (.inl hk)
    rcases z with ⟨_, z⟩ | ⟨z, _⟩
    · exact ⟨u, z⟩
    · rcases z with z | z <;> (rw [show X.env.kindOf n = some .local from hk] at z; cases z)
  obtain ⟨v, hv⟩ := hmn
  refine wpAny_unbindName_local hk hn hv hcls fun h' u hn' hs => ?_
  have cne := I1.cne
  obtain ⟨oL, _, _, hoL, _⟩ := id hn
  refine h _ ⟨I1.ok, I1.os, I1.bare, ⟨fun b o e n hb hx => ?_, fun b o e n hb hx => ?_, I1.base.free, fun b o e hx => ?_, I1.base.tups, I1.base.frzs, I1.base.tbls⟩, ⟨_, hn', fun j y v' e1 e2 e3 => ?_⟩, fun y c e => ?_, I1.free, I1.freeC, fun p hp => ?_, fun b ob e => ?_, by simpa using I.len⟩
  · exact (hs.2 b (Nat.ne_of_lt (Nat.lt_of_lt_of_le (Heap.lt_size e) I1.ok.above))).trans (I1.base.keep b o e n hb hx)
  · obtain ⟨sl, e1⟩ := I1.base.slot b o e n hb hx
    exact ⟨sl, (hs.2 b (Nat.ne_of_lt (Nat.lt_of_lt_of_le (Heap.lt_size e) I1.ok.above))).trans e1⟩
  · obtain ⟨o', e1⟩ := I1.base.there b o e hx
    exact ⟨o', (hs.2 b (Nat.ne_of_lt (Nat.lt_of_lt_of_le (Heap.lt_size e) I1.ok.above))).trans e1⟩
  · have hj : j ≠ i := fun z => by
      subst z
      rw [List.getElem?_set_self hiσ] at e2; cases e2
    have e2' : (σ.set i (some V.non))[j]? = some (some v') := by
      rw [List.getElem?_set_ne (Ne.symm hj)] at e2 ⊢; exact e2
    obtain ⟨u', r', q⟩ := hl j y v' e1 e2' e3
    refine ⟨u', r', ?_⟩
    rcases q with ⟨k, e⟩ | ⟨k, c, e, z⟩
    · refine .inl ⟨k, ?_⟩
      have : y ≠ n := fun e => hj (nodup_ix hN e1 (e ▸ hi))
      simp [this, e]
    · exact .inr ⟨k, c, e, z.sameBut hs (cne y c e)⟩
  · obtain ⟨w', z⟩ := I1.cell y c e
    exact ⟨w', z.sameBut hs (cne y c e)⟩
  · obtain ⟨e, n, ne, nf, d⟩ := I1.pin p hp
    exact ⟨(hs.2 p.1 ne).trans e, n, ne, nf, d⟩
  · refine (I1.hok b ob e).stay (fun c w' hc q => (hs.2 c ?_).trans q) (fun _ q => q) fun _ _ q => q
    rintro rfl
    rcases hc with rfl | hc
    · rw [I1.free] at e; cases e
    · rw [I1.free] at hc; cases hc
end
def handEnds (i : Nat) (D : Ends) : Ends := { nx := fun σ H => D.nx (σ.set i none) H, rt := D.rt, bk := fun σ H => D.bk (σ.set i none) H, ct := fun σ H => D.ct (σ.set i none) H }
theorem UpToSlots.trans {a b c : Heap} (x : a.UpToSlots b) (y : b.UpToSlots c) : a.UpToSlots c := fun p o e d => by
  obtain ⟨sl, e1⟩ := x p o e d
  obtain ⟨sl2, e2⟩ := y p _ e1 d
  exact ⟨sl2, e2⟩
section
variable {X : Cx}
end
end L2
namespace L2
open PySem PySem.Spec PyProof.Rows
end L2
namespace L2
open PySem PySem.Spec PyProof.Rows
def repS (x : Str) (n : Int) : Str := if n < 1 then Str.empty else if (n == 1 || x.length == 0) = true then x else { cps := List.foldl (fun x1 x2 => x1 ++ x2) #[] (List.replicate n.toNat x.cps) }
theorem rep_size (c : Array Nat) : ∀ (k : Nat) (a : Array Nat), (List.foldl (fun x1 x2 => x1 ++ x2) a (List.replicate k c)).size = a.size + k * c.size
  | 0, a => by simp
  | k + 1, a => by
    rw [List.replicate_succ, List.foldl_cons, rep_size c k (a ++ c), Array.size_append, Nat.succ_mul]
    omega
section
variable {X : Cx}
theorem op_repStr : OpR X (binaryOp .Mult) (fun x y H Q => ∃ z n, x = .str z ∧ y = .int n ∧ 0 ≤ n ∧ n ≤ 1000 ∧ z.length ≤ 1000 ∧ Q (.str (repS z n)) H) := by
  intro pins s σ H x y v u Q I rx ry h
  obtain ⟨z, n, rfl, rfl, n0, n1, zl, q⟩ := h
  obtain ⟨t, rfl⟩ := rx
  obtain ⟨t2, rfl⟩ := ry
  refine PySem.P.mul_str (by simp; omega) (fun a b => ?_) (fun a b => ?_) ?_
  · have : (1000 : Int) ≤ (2 ^ 63 - 1) / n := (Int.le_ediv_iff_mul_le (by omega)).mpr (by omega)
    omega
  · unfold Builtin.Str.tooLong
    have : z.length * n.toNat ≤ 1000 * 1000 := Nat.mul_le_mul (by omega) (by omega)
    have e : sizeLine = 16777216 := by decide
    simp; omega
  · unfold repS at q
    by_cases h1 : n < 1
    · rw [if_pos h1] at q ⊢
      exact ⟨by decide, .str _, H, I.tok _, ⟨_, rfl⟩, q⟩
    · rw [if_neg h1] at q ⊢
      by_cases h2 : (n == 1 || z.length == 0) = true
      · rw [if_pos h2] at q ⊢
        exact ⟨.str _, H, I, ⟨_, rfl⟩, q⟩
      · rw [if_neg h2] at q ⊢
        refine ⟨?_, .str _, H, I.tok _, ⟨_, rfl⟩, q⟩
        show (List.foldl (fun x1 x2 => x1 ++ x2) #[] (List.replicate n.toNat z.cps)).size ≤ sizeLine
        rw [rep_size]
        have : n.toNat * z.cps.size ≤ 1000 * 1000 := Nat.mul_le_mul (by omega) zl
        have e : sizeLine = 16777216 := by decide
        simp; omega
end
end L2
namespace L2
open PySem PySem.Spec PyProof.Rows
abbrev bmVE : List Value := [Value.type "ValueError", Value.type "Exception", Value.type "BaseException", Value.type "object"]
structure QuietAt (K : PySem.W.Frag) (N : Addr) : Prop where
  ok : PySem.W.nsOkIn K N = true
  a : PySem.W.nsIn K N "__init__" = some none
  b : PySem.W.nsIn K N "__getattribute__" = some none
  c : PySem.W.nsIn K N "__getattr__" = some none
  d : PySem.W.nsIn K N "args" = some none
theorem QuietAt.q {K : PySem.W.Frag} {N : Addr} (x : QuietAt K N) : quietIn K N = true := by
  unfold quietIn quietNames
  rw [x.ok]
  simp only [List.all_cons, List.all_nil, Bool.and_true, Bool.true_and]
  rw [x.a, x.b, x.c, x.d]
  simp
theorem nsOk_of {K : PySem.W.Frag} {N : Addr} {c : Value} {d : Option Addr} {es : Array DictEntry} {ep : Nat} {sl : Array (Option Value)} (l : K.lookup N = some ⟨c, d, .dict es ep, sl⟩) (h : (es.toList.all fun e => match e.key with | .str _ _ => true | _ => false) = true) : PySem.W.nsOkIn K N = true := by
  unfold PySem.W.nsOkIn; rw [l]
  show (es.all fun e => match e.key with | .str _ _ => true | _ => false) = true
  rw [← Array.all_toList]; exact h
theorem tailQ_one {K : PySem.W.Frag} {B : Addr} {c : Value} {d : Option Addr} {cd : ClassData} {sl : Array (Option Value)} (l : K.lookup B = some ⟨c, d, .cls cd, sl⟩) (q : QuietAt K cd.ns) : tailQ K bmVE (.ref B :: bmVE) = true := by
  unfold tailQ
  rw [Bool.or_eq_true_iff]
  right
  show (match List.lookup B K with | some ⟨_, _, .cls cd, _⟩ => quietIn K cd.ns && tailQ K bmVE bmVE | _ => false) = true
  rw [show List.lookup B K = _ from l]
  show (quietIn K cd.ns && tailQ K bmVE bmVE) = true
  rw [q.q]; rfl
theorem kit_ref {K : PySem.W.Frag} {c C : Addr} {b : Bool} {d : Option Addr} {cd : ClassData} {sl : Array (Option Value)} (ne : c ≠ C) (l : K.lookup C = some ⟨.type "type", d, .cls cd, sl⟩) (m : PySem.W.mroIn K c (.ref C) = some b) : PySem.W.kitOne K (.ref c) (.ref C) = some b := by
  unfold PySem.W.kitOne
  rw [if_neg (by simpa using ne)]
  have e1 : PySem.W.clsIn K C = some cd := by unfold PySem.W.clsIn; rw [show List.lookup C K = _ from l]
  have e2 : PySem.W.typeIn K (.ref C) = some (.type "type") := by show Option.map (fun x => x.cls) (List.lookup C K) = _; rw [show List.lookup C K = _ from l]; rfl
  show (if ((PySem.W.clsIn K C).isSome && PySem.W.typeIn K (.ref C) == some (.type "type")) = true then PySem.W.mroIn K c (.ref C) else none) = _
  rw [e1, e2]
  rw [if_pos (by simp)]
  exact m
theorem kit_ty {K : PySem.W.Frag} {c : Addr} {T : String} {b : Bool} (hm : PySem.W.kitMeta T = true) (m : PySem.W.mroIn K c (.type T) = some b) : PySem.W.kitOne K (.ref c) (.type T) = some b := by
  unfold PySem.W.kitOne
  rw [if_neg (by simp)]
  show (if PySem.W.kitMeta T = true then PySem.W.mroIn K c (.type T) else none) = _
  rw [if_pos hm]; exact m
theorem kit_ll {K : PySem.W.Frag} : PySem.W.kitOne K (.type "list") (.type "list") = some true := by unfold PySem.W.kitOne; rw [if_pos (by simp)]
theorem kitMeta_VE : PySem.W.kitMeta "ValueError" = true := by kernel_rfl
end L2
namespace L2
open PySem PySem.Spec PyProof.Rows
section
variable {α β : Type} {f : Nat → Nat → Bool} {n : Nat}
end
section
variable {key : Nat → Int} {n : Nat}
end
end L2
namespace L2
open PySem PySem.Spec PyProof.Rows
end L2
namespace L2
open PySem PySem.Spec PyProof.Rows
section
variable {X : Cx} {pins : List (Addr × Obj)} {σ : St} {H H' : Hp} {s : Shared} {h' : Heap}
end
end L2
namespace L2
open PySem PySem.Spec PyProof.Rows
section
variable {X : Cx}
end
end L2
namespace L2
open PySem PySem.Spec PyProof.Rows
abbrev Rw := Int × Str
def RowAt (H : Hp) (r : Rw) (v : V) : Prop := ∃ p, v = .ref p ∧ H p = some (.tup [.int r.1, .str r.2])
end L2
namespace L2
open PySem PySem.Spec PyProof.Rows
section
variable {X : Cx}
end
section
variable {P : Program} {w : World} {K : PySem.W.Frag} {mg : Str → Option Value} {base : Heap}
end
inductive IntCs : List Expr → List Int → Prop
  | nil : IntCs [] []
  | cons {n : Int} {j p} {es : List Expr} {ns : List Int} (h : IntCs es ns) : IntCs (.Constant (.int n) j p :: es) (n :: ns)
def tInts (ns : List Int) : TA := fun _ H Q => Q (ns.map V.int) H
theorem pa_ints {X : Cx} {es : List Expr} {ns : List Int} (h : IntCs es ns) : PA X es (tInts ns) := by
  induction h with
  | nil => exact pa_nil
  | cons h ih => exact pa_cons pe_int ih
theorem bits_lt {k : Int} (h : 0 ≤ k) (D : Nat) : (((Builtin.Int.intBits k : Nat) : Int) ≤ (D : Int)) ↔ k < 2 ^ D := by
  have hp := Nat.one_le_two_pow (n := D)
  unfold Builtin.Int.intBits
  rw [two_pow_cast]
  by_cases e : k = 0
  · subst e
    rw [show ((0 : Int) == 0) = true from rfl, if_pos rfl]
    omega
  · rw [show (k == 0) = false from beq_eq_false_iff_ne.mpr e, if_neg Bool.false_ne_true]
    have z := Nat.log2_lt (n := k.natAbs) (k := D) (by omega)
    omega
end L2
namespace L2
open PySem PySem.Spec PyProof.Rows
section
variable {P : Program} {w : World} {K : PySem.W.Frag} {mg : Str → Option Value} {base : Heap} {C : Addr}
end
section
variable {X : Cx} {C : Addr} {k : Nat} {ps : List Str} {sp : Sp} {m x : Str} {o e : Expr} {es : List Expr} {ta : TE} {t : TA} {p apos pos : Pos} {E : XK}
end
end L2
namespace L2
open PySem PySem.Spec PyProof.Rows
def isTup (H : Hp) (x : V) : Prop := ∃ a xs, x = .ref a ∧ H a = some (.tup xs)
def isLst (H : Hp) (x : V) : Prop := ∃ a xs, x = .ref a ∧ H a = some (.lst xs)
def EqB0 (H : Hp) (x y : V) (b : Bool) : Prop :=
  (flatV x = true ∧ flatV y = true ∧ b = eqV x y) ∨ (b = false ∧ ((flatV x = true ∧ (isTup H y ∨ isLst H y)) ∨ ((isTup H x ∨ isLst H x) ∧ flatV y = true) ∨ (isTup H x ∧ isLst H y) ∨ (isLst H x ∧ isTup H y)))
def EqB (H : Hp) : Nat → V → V → Bool → Prop
  | 0, x, y, b => EqB0 H x y b
  | n + 1, x, y, b => EqB0 H x y b ∨
    (∃ a c xs ys, ∃ e : Nat → Bool, x = .ref a ∧ y = .ref c ∧ H a = some (.tup xs) ∧ H c = some (.tup ys) ∧ (∀ (i : Nat) u v, xs[i]? = some u → ys[i]? = some v → EqB H n u v (e i)) ∧ b = ((List.range (min xs.length ys.length)).all e && xs.length == ys.length)) ∨
    (∃ a c xs ys, ∃ e : Nat → Bool, x = .ref a ∧ y = .ref c ∧ H a = some (.lst xs) ∧ H c = some (.lst ys) ∧ (∀ (i : Nat) u v, xs[i]? = some u → ys[i]? = some v → EqB H n u v (e i)) ∧ b = (xs.length == ys.length && (List.range xs.length).all e))
theorem EqB0.self {H : Hp} {x : V} {b : Bool} (h : EqB0 H x x b) : b = true := by
  have no : ∀ {x : V}, flatV x = true → (isTup H x ∨ isLst H x) → False := fun {x} f q => by
    rcases q with ⟨a, xs, rfl, _⟩ | ⟨a, xs, rfl, _⟩ <;> cases f
  have no2 : isTup H x → isLst H x → False := fun ⟨a, xs, e1, e2⟩ ⟨c, ys, e3, e4⟩ => by
    rw [e1] at e3; cases e3; rw [e2] at e4; cases e4
  rcases h with ⟨f, _, rfl⟩ | ⟨_, ⟨f, q⟩ | ⟨q, f⟩ | ⟨q, p⟩ | ⟨p, q⟩⟩
  · exact eqV_self f
  · exact (no f q).elim
  · exact (no f q).elim
  · exact (no2 q p).elim
  · exact (no2 q p).elim
theorem EqB.self {H : Hp} : ∀ {n : Nat} {x : V} {b : Bool}, EqB H n x x b → b = true
  | 0, x, b, h => EqB0.self h
  | n + 1, x, b, h => by
    rcases h with h | ⟨a, c, xs, ys, e, e1, e2, e3, e4, e5, rfl⟩ | ⟨a, c, xs, ys, e, e1, e2, e3, e4, e5, rfl⟩
    · exact EqB0.self h
    · rw [e1] at e2; cases e2
      rw [e3] at e4; cases e4
      have : (List.range (min xs.length xs.length)).all e = true := by
        rw [List.all_eq_true]
        intro i hi
        have hi : i < xs.length := by simpa using hi
        exact EqB.self (e5 i xs[i] xs[i] (List.getElem?_eq_getElem hi) (List.getElem?_eq_getElem hi))
      rw [this]; simp
    · rw [e1] at e2; cases e2
      rw [e3] at e4; cases e4
      have : (List.range xs.length).all e = true := by
        rw [List.all_eq_true]
        intro i hi
        have hi : i < xs.length := by simpa using hi
        exact EqB.self (e5 i xs[i] xs[i] (List.getElem?_eq_getElem hi) (List.getElem?_eq_getElem hi))
      rw [this]; simp
section
variable {X : Cx}
theorem Inv.tupV {pins : List (Addr × Obj)} {σ : St} {H : Hp} {s : Shared} {a : Addr} {xs : List V} (I : Inv X pins σ H s) (h : H a = some (.tup xs)) : ∃ its, Vals xs its ∧ s.heap.IsTuple a its.toArray := by
  obtain ⟨_, its, r, p⟩ := I.hok _ _ h
  exact ⟨its, r, p⟩
theorem Inv.lstV {pins : List (Addr × Obj)} {σ : St} {H : Hp} {s : Shared} {a : Addr} {xs : List V} (I : Inv X pins σ H s) (h : H a = some (.lst xs)) : ∃ its, Vals xs its ∧ s.heap.IsList a its.toArray := by
  obtain ⟨its, r, p, _⟩ := I.list (SqL.of h)
  exact ⟨its, r, p.isList⟩
theorem eqAt_B0 {pins : List (Addr × Obj)} {σ : St} {H : Hp} {s : Shared} {A : Around} {x y : V} {u v : Value} {b : Bool} (I : Inv X pins σ H s) (h : EqB0 H x y b) (rx : RelV x u) (ry : RelV y v) (hu : A.units < cLine) : SeqAt.EqAt A s u v b := by
  rcases h with ⟨f, g, rfl⟩ | ⟨rfl, ⟨f, ⟨a, xs, rfl, e⟩ | ⟨a, xs, rfl, e⟩⟩ | ⟨⟨a, xs, rfl, e⟩ | ⟨a, xs, rfl, e⟩, f⟩ | ⟨⟨a, xs, rfl, e⟩, ⟨c, ys, rfl, e2⟩⟩ | ⟨⟨a, xs, rfl, e⟩, ⟨c, ys, rfl, e2⟩⟩⟩
  · exact eqAt_V rx ry f g
  · obtain rfl : v = Value.ref a := ry
    obtain ⟨its, _, p⟩ := I.tupV e
    cases x with
    | non => cases rx; exact SeqAt.EqAt.none_tuple p hu
    | bl b => cases rx; exact SeqAt.EqAt.bool_tuple b p hu
    | int i => obtain ⟨t, rfl⟩ := rx; exact SeqAt.EqAt.int_tuple i t p hu
    | str z => obtain ⟨t, rfl⟩ := rx; exact SeqAt.EqAt.str_tuple z t p hu
    | _ => cases f
  · obtain rfl : v = Value.ref a := ry
    obtain ⟨its, _, p⟩ := I.lstV e
    cases x with
    | non => cases rx; exact SeqAt.EqAt.none_list p hu
    | bl b => cases rx; exact SeqAt.EqAt.bool_list b p hu
    | int i => obtain ⟨t, rfl⟩ := rx; exact SeqAt.EqAt.int_list i t p hu
    | str z => obtain ⟨t, rfl⟩ := rx; exact SeqAt.EqAt.str_list z t p hu
    | _ => cases f
  · obtain rfl : u = Value.ref a := rx
    obtain ⟨its, _, p⟩ := I.tupV e
    cases y with
    | non => cases ry; exact SeqAt.EqAt.tuple_none p hu
    | bl b => cases ry; exact SeqAt.EqAt.tuple_bool b p hu
    | int i => obtain ⟨t, rfl⟩ := ry; exact SeqAt.EqAt.tuple_int i t p hu
    | str z => obtain ⟨t, rfl⟩ := ry; exact SeqAt.EqAt.tuple_str z t p hu
    | _ => cases f
  · obtain rfl : u = Value.ref a := rx
    obtain ⟨its, _, p⟩ := I.lstV e
    cases y with
    | non => cases ry; exact SeqAt.EqAt.list_none p hu
    | bl b => cases ry; exact SeqAt.EqAt.list_bool b p hu
    | int i => obtain ⟨t, rfl⟩ := ry; exact SeqAt.EqAt.list_int i t p hu
    | str z => obtain ⟨t, rfl⟩ := ry; exact SeqAt.EqAt.list_str z t p hu
    | _ => cases f
  · obtain rfl : u = Value.ref a := rx
    obtain rfl : v = Value.ref c := ry
    obtain ⟨its, _, p⟩ := I.tupV e
    obtain ⟨its2, _, p2⟩ := I.lstV e2
    exact SeqAt.EqAt.tuple_list p p2 hu
  · obtain rfl : u = Value.ref a := rx
    obtain rfl : v = Value.ref c := ry
    obtain ⟨its, _, p⟩ := I.lstV e
    obtain ⟨its2, _, p2⟩ := I.tupV e2
    exact SeqAt.EqAt.list_tuple p p2 hu
theorem eqAt_B {pins : List (Addr × Obj)} {σ : St} {H : Hp} {s : Shared} (I : Inv X pins σ H s) : ∀ (n : Nat) (x y : V) (u v : Value) (b : Bool) (A : Around), EqB H n x y b → RelV x u → RelV y v → A.units + n < cLine → SeqAt.EqAt A s u v b
  | 0, x, y, u, v, b, A, h, rx, ry, hu => eqAt_B0 I h rx ry (by omega)
  | n + 1, x, y, u, v, b, A, h, rx, ry, hu => by
    rcases id h with h | ⟨a, c, xs, ys, e, rfl, rfl, ha, hc, hi, eb⟩ | ⟨a, c, xs, ys, e, rfl, rfl, ha, hc, hi, eb⟩
    · exact eqAt_B0 I h rx ry (by omega)
    · obtain rfl : u = Value.ref a := rx
      obtain rfl : v = Value.ref c := ry
      by_cases hac : a = c
      · subst hac
        rw [EqB.self h]; exact SeqAt.EqAt.same _
      obtain ⟨its, r, pa⟩ := I.tupV ha
      obtain ⟨its2, r2, pb⟩ := I.tupV hc
      have q := SeqAt.RcAt.tuples (A := A) (s := s) (e := e) pa pb (by omega) fun j h1 h2 => by
        obtain ⟨x1, e1, q1⟩ := r.at h1
        obtain ⟨y1, e2, q2⟩ := r2.at h2
        exact eqAt_B I n x1 y1 _ _ _ A.in1 (hi j x1 y1 e1 e2) q1 q2 (by show A.units + 1 + n < cLine; omega)
      have l1 := r.length; have l2 := r2.length
      rw [List.size_toArray, List.size_toArray, ← l1, ← l2, ← eb] at q
      exact SeqAt.EqAt.of_refs hac q
    · obtain rfl : u = Value.ref a := rx
      obtain rfl : v = Value.ref c := ry
      by_cases hac : a = c
      · subst hac
        rw [EqB.self h]; exact SeqAt.EqAt.same _
      obtain ⟨its, r, pa⟩ := I.lstV ha
      obtain ⟨its2, r2, pb⟩ := I.lstV hc
      have l1 := r.length; have l2 := r2.length
      by_cases hl : xs.length = ys.length
      · have q := SeqAt.RcAt.lists (A := A) (s := s) (e := e) pa pb (by simp; omega) (by omega) fun j h1 h2 => by
          obtain ⟨x1, e1, q1⟩ := r.at h1
          obtain ⟨y1, e2, q2⟩ := r2.at h2
          exact eqAt_B I n x1 y1 _ _ _ A.in1 (hi j x1 y1 e1 e2) q1 q2 (by show A.units + 1 + n < cLine; omega)
        rw [List.size_toArray, ← l1] at q
        have eb' : b = (List.range xs.length).all e := by rw [eb, show (xs.length == ys.length) = true from by simpa using hl, Bool.true_and]
        rw [← eb'] at q
        exact SeqAt.EqAt.of_refs hac q
      · have eb' : b = false := by rw [eb, show (xs.length == ys.length) = false from by simpa using hl, Bool.false_and]
        subst eb'
        exact SeqAt.EqAt.of_refs hac (SeqAt.RcAt.lists_lengths pa pb (by simp; omega) (by omega))
theorem rcAt_V {A : Around} {s : Shared} {x y : V} {u v : Value} (rx : RelV x u) (ry : RelV y v) (fx : flatV x = true) (fy : flatV y = true) : SeqAt.RcAt A s u v (eqV x y) := by
  cases x with
  | non =>
    cases rx
    cases y with
    | non => cases ry; exact SeqAt.RcAt.none_none
    | bl b => cases ry; exact SeqAt.RcAt.none_bool b
    | int i => obtain ⟨t, rfl⟩ := ry; exact SeqAt.RcAt.none_int i t
    | str z => obtain ⟨t, rfl⟩ := ry; exact SeqAt.RcAt.none_str z t
    | _ => cases fy
  | bl a =>
    cases rx
    cases y with
    | non => cases ry; exact SeqAt.RcAt.bool_none a
    | bl b => cases ry; exact SeqAt.RcAt.bool_bool a b
    | int i => obtain ⟨t, rfl⟩ := ry; exact SeqAt.RcAt.bool_int a i t
    | str z => obtain ⟨t, rfl⟩ := ry; exact SeqAt.RcAt.bool_str a z t
    | _ => cases fy
  | int a =>
    obtain ⟨ta, rfl⟩ := rx
    cases y with
    | non => cases ry; exact SeqAt.RcAt.int_none a ta
    | bl b => cases ry; exact SeqAt.RcAt.int_bool a ta b
    | int i => obtain ⟨t, rfl⟩ := ry; exact SeqAt.RcAt.int_int a ta i t
    | str z => obtain ⟨t, rfl⟩ := ry; exact SeqAt.RcAt.int_str a ta z t
    | _ => cases fy
  | str a =>
    obtain ⟨ta, rfl⟩ := rx
    cases y with
    | non => cases ry; exact SeqAt.RcAt.str_none a ta
    | bl b => cases ry; exact SeqAt.RcAt.str_bool a ta b
    | int i => obtain ⟨t, rfl⟩ := ry; exact SeqAt.RcAt.str_int a ta i t
    | str z => obtain ⟨t, rfl⟩ := ry; exact SeqAt.RcAt.str_str a ta z t
    | _ => cases fy
  | _ => cases fx
theorem rcAt_B0 {pins : List (Addr × Obj)} {σ : St} {H : Hp} {s : Shared} {A : Around} {x y : V} {u v : Value} {b : Bool} (I : Inv X pins σ H s) (h : EqB0 H x y b) (rx : RelV x u) (ry : RelV y v) (hu : A.units < cLine) : SeqAt.RcAt A s u v b := by
  rcases h with ⟨f, g, rfl⟩ | ⟨rfl, ⟨f, ⟨a, xs, rfl, e⟩ | ⟨a, xs, rfl, e⟩⟩ | ⟨⟨a, xs, rfl, e⟩ | ⟨a, xs, rfl, e⟩, f⟩ | ⟨⟨a, xs, rfl, e⟩, ⟨c, ys, rfl, e2⟩⟩ | ⟨⟨a, xs, rfl, e⟩, ⟨c, ys, rfl, e2⟩⟩⟩
  · exact rcAt_V rx ry f g
  · obtain rfl : v = Value.ref a := ry
    obtain ⟨its, _, p⟩ := I.tupV e
    cases x with
    | non => cases rx; exact SeqAt.RcAt.none_tuple p hu
    | bl b => cases rx; exact SeqAt.RcAt.bool_tuple b p hu
    | int i => obtain ⟨t, rfl⟩ := rx; exact SeqAt.RcAt.int_tuple i t p hu
    | str z => obtain ⟨t, rfl⟩ := rx; exact SeqAt.RcAt.str_tuple z t p hu
    | _ => cases f
  · obtain rfl : v = Value.ref a := ry
    obtain ⟨its, _, p⟩ := I.lstV e
    cases x with
    | non => cases rx; exact SeqAt.RcAt.none_list p hu
    | bl b => cases rx; exact SeqAt.RcAt.bool_list b p hu
    | int i => obtain ⟨t, rfl⟩ := rx; exact SeqAt.RcAt.int_list i t p hu
    | str z => obtain ⟨t, rfl⟩ := rx; exact SeqAt.RcAt.str_list z t p hu
    | _ => cases f
  · obtain rfl : u = Value.ref a := rx
    obtain ⟨its, _, p⟩ := I.tupV e
    cases y with
    | non => cases ry; exact SeqAt.RcAt.tuple_none p hu
    | bl b => cases ry; exact SeqAt.RcAt.tuple_bool b p hu
    | int i => obtain ⟨t, rfl⟩ := ry; exact SeqAt.RcAt.tuple_int i t p hu
    | str z => obtain ⟨t, rfl⟩ := ry; exact SeqAt.RcAt.tuple_str z t p hu
    | _ => cases f
  · obtain rfl : u = Value.ref a := rx
    obtain ⟨its, _, p⟩ := I.lstV e
    cases y with
    | non => cases ry; exact SeqAt.RcAt.list_none p hu
    | bl b => cases ry; exact SeqAt.RcAt.list_bool b p hu
    | int i => obtain ⟨t, rfl⟩ := ry; exact SeqAt.RcAt.list_int i t p hu
    | str z => obtain ⟨t, rfl⟩ := ry; exact SeqAt.RcAt.list_str z t p hu
    | _ => cases f
  · obtain rfl : u = Value.ref a := rx
    obtain rfl : v = Value.ref c := ry
    obtain ⟨its, _, p⟩ := I.tupV e
    obtain ⟨its2, _, p2⟩ := I.lstV e2
    exact SeqAt.RcAt.tuple_list p p2 hu
  · obtain rfl : u = Value.ref a := rx
    obtain rfl : v = Value.ref c := ry
    obtain ⟨its, _, p⟩ := I.lstV e
    obtain ⟨its2, _, p2⟩ := I.tupV e2
    exact SeqAt.RcAt.list_tuple p p2 hu
theorem op_eqB : OpR X (compareOp .Eq) (fun x y H Q => ∃ n b, EqB H n x y b ∧ X.A.units + n + 1 < cLine ∧ Q (.bl b) H) := by
  intro pins s σ H x y v u Q I rx ry h
  obtain ⟨n, b, h, hu, q⟩ := h
  have done : SeqAt.RcAt X.A s v u b → wpAny (model X.prog X.w) X.A (compareOp .Eq v u) (EP X pins σ Q) X.xe s := fun z => z X.prog X.w X.xe _ ⟨.bl b, H, I, rfl, q⟩
  cases n with
  | zero => exact done (rcAt_B0 I h rx ry (by omega))
  | succ n =>
    rcases id h with h | ⟨a, c, xs, ys, e, rfl, rfl, ha, hc, hi, eb⟩ | ⟨a, c, xs, ys, e, rfl, rfl, ha, hc, hi, eb⟩
    · exact done (rcAt_B0 I h rx ry (by omega))
    · obtain rfl : v = Value.ref a := rx
      obtain rfl : u = Value.ref c := ry
      obtain ⟨its, r, pa⟩ := I.tupV ha
      obtain ⟨its2, r2, pb⟩ := I.tupV hc
      have z := SeqAt.RcAt.tuples (A := X.A) (s := s) (e := e) pa pb (by omega) fun j h1 h2 => by
        obtain ⟨x1, e1, q1⟩ := r.at h1
        obtain ⟨y1, e2, q2⟩ := r2.at h2
        exact eqAt_B I n x1 y1 _ _ _ X.A.in1 (hi j x1 y1 e1 e2) q1 q2 (by show X.A.units + 1 + n < cLine; omega)
      have l1 := r.length; have l2 := r2.length
      rw [List.size_toArray, List.size_toArray, ← l1, ← l2, ← eb] at z
      exact done z
    · obtain rfl : v = Value.ref a := rx
      obtain rfl : u = Value.ref c := ry
      obtain ⟨its, r, pa⟩ := I.lstV ha
      obtain ⟨its2, r2, pb⟩ := I.lstV hc
      have l1 := r.length; have l2 := r2.length
      by_cases hl : xs.length = ys.length
      · have z := SeqAt.RcAt.lists (A := X.A) (s := s) (e := e) pa pb (by simp; omega) (by omega) fun j h1 h2 => by
          obtain ⟨x1, e1, q1⟩ := r.at h1
          obtain ⟨y1, e2, q2⟩ := r2.at h2
          exact eqAt_B I n x1 y1 _ _ _ X.A.in1 (hi j x1 y1 e1 e2) q1 q2 (by show X.A.units + 1 + n < cLine; omega)
        rw [List.size_toArray, ← l1] at z
        have eb' : b = (List.range xs.length).all e := by rw [eb, show (xs.length == ys.length) = true from by simpa using hl, Bool.true_and]
        rw [← eb'] at z
        exact done z
      · have eb' : b = false := by rw [eb, show (xs.length == ys.length) = false from by simpa using hl, Bool.false_and]
        subst eb'
        exact done (SeqAt.RcAt.lists_lengths pa pb (by simp; omega) (by omega))
theorem rcNe_V {A : Around} {s : Shared} {x y : V} {u v : Value} (rx : RelV x u) (ry : RelV y v) (fx : flatV x = true) (fy : flatV y = true) : SeqAt.RcNeAt A s u v (!eqV x y) := by
  cases x with
  | non =>
    cases rx
    cases y with
    | non => cases ry; exact SeqAt.RcNeAt.none_none
    | bl b => cases ry; exact SeqAt.RcNeAt.none_bool b
    | int i => obtain ⟨t, rfl⟩ := ry; exact SeqAt.RcNeAt.none_int i t
    | str z => obtain ⟨t, rfl⟩ := ry; exact SeqAt.RcNeAt.none_str z t
    | _ => cases fy
  | bl a =>
    cases rx
    cases y with
    | non => cases ry; exact SeqAt.RcNeAt.bool_none a
    | bl b => cases ry; exact SeqAt.RcNeAt.bool_bool a b
    | int i => obtain ⟨t, rfl⟩ := ry; exact SeqAt.RcNeAt.bool_int a i t
    | str z => obtain ⟨t, rfl⟩ := ry; exact SeqAt.RcNeAt.bool_str a z t
    | _ => cases fy
  | int a =>
    obtain ⟨ta, rfl⟩ := rx
    cases y with
    | non => cases ry; exact SeqAt.RcNeAt.int_none a ta
    | bl b => cases ry; exact SeqAt.RcNeAt.int_bool a ta b
    | int i => obtain ⟨t, rfl⟩ := ry; exact SeqAt.RcNeAt.int_int a ta i t
    | str z => obtain ⟨t, rfl⟩ := ry; exact SeqAt.RcNeAt.int_str a ta z t
    | _ => cases fy
  | str a =>
    obtain ⟨ta, rfl⟩ := rx
    cases y with
    | non => cases ry; exact SeqAt.RcNeAt.str_none a ta
    | bl b => cases ry; exact SeqAt.RcNeAt.str_bool a ta b
    | int i => obtain ⟨t, rfl⟩ := ry; exact SeqAt.RcNeAt.str_int a ta i t
    | str z => obtain ⟨t, rfl⟩ := ry; exact SeqAt.RcNeAt.str_str a ta z t
    | _ => cases fy
  | _ => cases fx
theorem rcNe_B0 {pins : List (Addr × Obj)} {σ : St} {H : Hp} {s : Shared} {A : Around} {x y : V} {u v : Value} {b : Bool} (I : Inv X pins σ H s) (h : EqB0 H x y b) (rx : RelV x u) (ry : RelV y v) (hu : A.units < cLine) : SeqAt.RcNeAt A s u v (!b) := by
  rcases h with ⟨f, g, rfl⟩ | ⟨rfl, ⟨f, ⟨a, xs, rfl, e⟩ | ⟨a, xs, rfl, e⟩⟩ | ⟨⟨a, xs, rfl, e⟩ | ⟨a, xs, rfl, e⟩, f⟩ | ⟨⟨a, xs, rfl, e⟩, ⟨c, ys, rfl, e2⟩⟩ | ⟨⟨a, xs, rfl, e⟩, ⟨c, ys, rfl, e2⟩⟩⟩
  · exact rcNe_V rx ry f g
  · obtain rfl : v = Value.ref a := ry
    obtain ⟨its, _, p⟩ := I.tupV e
    cases x with
    | non => cases rx; exact SeqAt.RcNeAt.none_tuple p hu
    | bl b => cases rx; exact SeqAt.RcNeAt.bool_tuple b p hu
    | int i => obtain ⟨t, rfl⟩ := rx; exact SeqAt.RcNeAt.int_tuple i t p hu
    | str z => obtain ⟨t, rfl⟩ := rx; exact SeqAt.RcNeAt.str_tuple z t p hu
    | _ => cases f
  · obtain rfl : v = Value.ref a := ry
    obtain ⟨its, _, p⟩ := I.lstV e
    cases x with
    | non => cases rx; exact SeqAt.RcNeAt.none_list p hu
    | bl b => cases rx; exact SeqAt.RcNeAt.bool_list b p hu
    | int i => obtain ⟨t, rfl⟩ := rx; exact SeqAt.RcNeAt.int_list i t p hu
    | str z => obtain ⟨t, rfl⟩ := rx; exact SeqAt.RcNeAt.str_list z t p hu
    | _ => cases f
  · obtain rfl : u = Value.ref a := rx
    obtain ⟨its, _, p⟩ := I.tupV e
    cases y with
    | non => cases ry; exact SeqAt.RcNeAt.tuple_none p hu
    | bl b => cases ry; exact SeqAt.RcNeAt.tuple_bool b p hu
    | int i => obtain ⟨t, rfl⟩ := ry; exact SeqAt.RcNeAt.tuple_int i t p hu
    | str z => obtain ⟨t, rfl⟩ := ry; exact SeqAt.RcNeAt.tuple_str z t p hu
    | _ => cases f
  · obtain rfl : u = Value.ref a := rx
    obtain ⟨its, _, p⟩ := I.lstV e
    cases y with
    | non => cases ry; exact SeqAt.RcNeAt.list_none p hu
    | bl b => cases ry; exact SeqAt.RcNeAt.list_bool b p hu
    | int i => obtain ⟨t, rfl⟩ := ry; exact SeqAt.RcNeAt.list_int i t p hu
    | str z => obtain ⟨t, rfl⟩ := ry; exact SeqAt.RcNeAt.list_str z t p hu
    | _ => cases f
  · obtain rfl : u = Value.ref a := rx
    obtain rfl : v = Value.ref c := ry
    obtain ⟨its, _, p⟩ := I.tupV e
    obtain ⟨its2, _, p2⟩ := I.lstV e2
    exact SeqAt.RcNeAt.tuple_list p p2 hu
  · obtain rfl : u = Value.ref a := rx
    obtain rfl : v = Value.ref c := ry
    obtain ⟨its, _, p⟩ := I.lstV e
    obtain ⟨its2, _, p2⟩ := I.tupV e2
    exact SeqAt.RcNeAt.list_tuple p p2 hu
theorem op_neB : OpR X (compareOp .NotEq) (fun x y H Q => ∃ n b, EqB H n x y b ∧ X.A.units + n + 1 < cLine ∧ Q (.bl !b) H) := by
  intro pins s σ H x y v u Q I rx ry h
  obtain ⟨n, b, h, hu, q⟩ := h
  have done : SeqAt.RcNeAt X.A s v u (!b) → wpAny (model X.prog X.w) X.A (compareOp .NotEq v u) (EP X pins σ Q) X.xe s := fun z => z X.prog X.w X.xe _ ⟨.bl !b, H, I, rfl, q⟩
  cases n with
  | zero => exact done (rcNe_B0 I h rx ry (by omega))
  | succ n =>
    rcases id h with h | ⟨a, c, xs, ys, e, rfl, rfl, ha, hc, hi, eb⟩ | ⟨a, c, xs, ys, e, rfl, rfl, ha, hc, hi, eb⟩
    · exact done (rcNe_B0 I h rx ry (by omega))
    · obtain rfl : v = Value.ref a := rx
      obtain rfl : u = Value.ref c := ry
      obtain ⟨its, r, pa⟩ := I.tupV ha
      obtain ⟨its2, r2, pb⟩ := I.tupV hc
      have z := SeqAt.RcNeAt.tuples (A := X.A) (s := s) (e := e) pa pb (by omega) fun j h1 h2 => by
        obtain ⟨x1, e1, q1⟩ := r.at h1
        obtain ⟨y1, e2, q2⟩ := r2.at h2
        exact eqAt_B I n x1 y1 _ _ _ X.A.in1 (hi j x1 y1 e1 e2) q1 q2 (by show X.A.units + 1 + n < cLine; omega)
      have l1 := r.length; have l2 := r2.length
      rw [List.size_toArray, List.size_toArray, ← l1, ← l2, ← eb] at z
      exact done z
    · obtain rfl : v = Value.ref a := rx
      obtain rfl : u = Value.ref c := ry
      obtain ⟨its, r, pa⟩ := I.lstV ha
      obtain ⟨its2, r2, pb⟩ := I.lstV hc
      have l1 := r.length; have l2 := r2.length
      by_cases hl : xs.length = ys.length
      · have z := SeqAt.RcNeAt.lists (A := X.A) (s := s) (e := e) pa pb (by simp; omega) (by omega) fun j h1 h2 => by
          obtain ⟨x1, e1, q1⟩ := r.at h1
          obtain ⟨y1, e2, q2⟩ := r2.at h2
          exact eqAt_B I n x1 y1 _ _ _ X.A.in1 (hi j x1 y1 e1 e2) q1 q2 (by show X.A.units + 1 + n < cLine; omega)
        rw [List.size_toArray, ← l1] at z
        have eb' : b = (List.range xs.length).all e := by rw [eb, show (xs.length == ys.length) = true from by simpa using hl, Bool.true_and]
        rw [← eb'] at z
        exact done z
      · have eb' : b = false := by rw [eb, show (xs.length == ys.length) = false from by simpa using hl, Bool.false_and]
        subst eb'
        exact done (SeqAt.RcNeAt.lists_lengths pa pb (by simp; omega) (by omega))
end
deriving instance DecidableEq for Tm
inductive Srt where
  | int | str | nd
end L2
namespace Gb
section
variable {α : Type} (pr : α → α → α)
end
end Gb
namespace Gb
section
variable {α : Type} (nl : α) (pr : α → α → α)
end
end Gb
namespace L2
open PySem PySem.Spec PyProof.Rows
section
variable {prog : Program} {w : World} {A : Around} {E : Value → Shared → Prop} {s : Shared} {R : Result → Shared → Prop}
end
theorem strs_of : ∀ {ys : List Str} {its : List Value}, Vals (ys.map V.str) its → StrsAre its ys
  | [], _, r => by cases r; exact .nil
  | y :: ys, _, r => by
    cases r with
    | cons p r => obtain ⟨t, rfl⟩ := p; exact .cons y t (strs_of r)
theorem mt_join {X : Cx} : MtR X "str.join" (fun x vs H Q => ∃ (z : Str) (p : Addr) (ys : List Str), x = .str z ∧ vs = [.ref p] ∧ SqL X.K H p (ys.map V.str) ∧ (ys.map (·.length)).sum + ys.length * z.length ≤ 16777216 ∧ Q (.str (Txt.join z ys)) H) := by
  intro pins s σ H x vs v us Q I rx rv h
  obtain ⟨z, p, ys, rfl, rfl, hq, hok, q⟩ := h
  obtain ⟨t, rfl⟩ := rx
  obtain ⟨u, rfl, ru⟩ := vals1 rv
  cases ru
  obtain ⟨its, r, pl, hz⟩ := I.list hq
  exact PyProof.Rows.join_list pl.isList (strs_of (by simpa using r)) hok fun t' k => ⟨.str _, H, I.tok _, ⟨_, rfl⟩, q⟩
theorem comp_range {lo : Int} {n : Nat} {js : List Nat} {te : TE} {σ : St} {H : Hp} {R : Addr → Hp → Prop} (Pv : Addr → Nat → List V → Hp → Prop) (h0 : ∀ D, H D = none → Pv D 0 [] (upd H D (.lst [])))
    (hs : ∀ D (i : Nat) ys H' Qb, H D = none → i < n → Pv D i ys H' → (∀ y H3, H3 D = some (.lst ys) → ys.length < sizeLine → Pv D (i + 1) (ys ++ [y]) (upd H3 D (.lst (ys ++ [y]))) → Qb y H3) → te (some (.int (lo + (i : Nat))) :: capt js σ) H' Qb)
    (hd : ∀ D ys H', H D = none → Pv D n ys H' → R D H') :
    ∀ D, H D = none → ∃ W : Nat → Nat → List V → Hp → Prop, (∃ m, W 0 m [] (upd H D (.lst []))) ∧ ∀ i m ys H, W i m ys H →
      ((Itr lo n).stop i H ∧ R D H) ∨ ((Itr lo n).go i H ∧ ∀ x H', (Itr lo n).yld i H x H' → if true = true then te (some x :: capt js σ) H' fun y H3 => H3 D = some (.lst ys) ∧ ys.length < sizeLine ∧ ∃ m', m' < m ∧ W (i + 1) m' (ys ++ [y]) (upd H3 D (.lst (ys ++ [y])))
        else ∃ m', m' < m ∧ W (i + 1) m' ys H') := by
  intro D hD
  refine ⟨fun i m ys H' => m = n - i ∧ i ≤ n ∧ Pv D i ys H', ⟨n, by simp, by omega, h0 D hD⟩, ?_⟩
  rintro i m ys H' ⟨rfl, hi, hp⟩
  by_cases hlt : i < n
  · refine .inr ⟨hlt, fun x H2 ⟨e2, ex⟩ => ?_⟩
    subst e2 ex
    refine iteT ?_
    exact hs D i ys _ _ hD hlt hp fun y H3 a b c => ⟨a, b, n - (i + 1), by omega, rfl, by omega, c⟩
  · have e : i = n := by omega
    subst e
    exact .inl ⟨Nat.le_refl _, hd D ys H' hD hp⟩
theorem comp_list {K : PySem.W.Frag} {a : Addr} {xs : List V} {js : List Nat} {te : TE} {σ : St} {H : Hp} {R : Addr → Hp → Prop} (Pv : Addr → Nat → List V → Hp → Prop) (h0 : ∀ D, H D = none → Pv D 0 [] (upd H D (.lst []))) (hl : ∀ D i ys H', H D = none → Pv D i ys H' → SqL K H' a xs)
    (hs : ∀ D (i : Nat) x ys H' Qb, H D = none → xs[i]? = some x → Pv D i ys H' → (∀ y H3, H3 D = some (.lst ys) → ys.length < sizeLine → Pv D (i + 1) (ys ++ [y]) (upd H3 D (.lst (ys ++ [y]))) → Qb y H3) → te (some x :: capt js σ) H' Qb)
    (hd : ∀ D ys H', H D = none → Pv D xs.length ys H' → R D H') :
    ∀ D, H D = none → ∃ W : Nat → Nat → List V → Hp → Prop, (∃ m, W 0 m [] (upd H D (.lst []))) ∧ ∀ i m ys H, W i m ys H →
      ((Itl K a).stop i H ∧ R D H) ∨ ((Itl K a).go i H ∧ ∀ x H', (Itl K a).yld i H x H' → if true = true then te (some x :: capt js σ) H' fun y H3 => H3 D = some (.lst ys) ∧ ys.length < sizeLine ∧ ∃ m', m' < m ∧ W (i + 1) m' (ys ++ [y]) (upd H3 D (.lst (ys ++ [y])))
        else ∃ m', m' < m ∧ W (i + 1) m' ys H') := by
  intro D hD
  refine ⟨fun i m ys H' => m = xs.length - i ∧ i ≤ xs.length ∧ Pv D i ys H', ⟨xs.length, by simp, by omega, h0 D hD⟩, ?_⟩
  rintro i m ys H' ⟨rfl, hi, hp⟩
  have hq := hl D i ys H' hD hp
  by_cases hlt : i < xs.length
  · refine .inr ⟨⟨_, xs[i], hq, List.getElem?_eq_getElem hlt⟩, fun x H2 ⟨e2, hx⟩ => ?_⟩
    subst e2
    have ex := hx _ hq
    refine iteT ?_
    exact hs D i x ys _ _ hD ex hp fun y H3 a b c => ⟨a, b, xs.length - (i + 1), by omega, rfl, by omega, c⟩
  · have e : i = xs.length := by omega
    subst e
    exact .inl ⟨⟨_, hq, Nat.le_refl _⟩, hd D ys H' hD hp⟩
theorem same_of {cl env : List (Str × Addr)} (h : ∀ p ∈ cl, env.lookup p.1 = some p.2) : ∀ z c, cl.lookup z = some c → env.lookup z = some c := fun z c e => h (z, c) (PySem.mem_of_lookup e)
theorem eqB_nil {H : Hp} {a b : Addr} {ws : List V} (ha : H a = some (.lst ws)) (hb : H b = some (.lst [])) : EqB H 1 (.ref a) (.ref b) (decide (ws = [])) := by
  refine .inr (.inr ⟨a, b, ws, [], fun _ => true, rfl, rfl, ha, hb, fun i u v _ h2 => by simp at h2, ?_⟩)
  rw [all_true, Bool.and_true, Bool.eq_iff_iff]
  simp
theorem eqB_flat {H : Hp} {x y : V} (fx : flatV x = true) (fy : flatV y = true) : EqB H 0 x y (eqV x y) := .inl ⟨fx, fy, rfl⟩
end L2
namespace Gb
section
variable {α : Type} (nl : α) (pr : α → α → α)
end
end Gb
namespace L2
open PySem PySem.Spec PyProof.Rows
def Ite (K : PySem.W.Frag) (a : Addr) : It :=
  ⟨fun i H => ∃ xs x, SqL K H a xs ∧ xs[i]? = some x,
   fun i H y H' => ∃ p x, y = .ref p ∧ H p = none ∧ (∀ xs, SqL K H a xs → xs[i]? = some x) ∧ H' = upd H p (.tup [.int (i : Nat), x]),
   fun i H => ∃ xs, SqL K H a xs ∧ xs.length ≤ i⟩
theorem turn_enum {P : Program} {w : World} {K : PySem.W.Frag} {es : List Expr} {kk : Nat} {tp : Pos} (a e it : Addr) (hne : e ≠ it) :
    Turn P w K (.Tuple es kk tp) (Ite K a) [e, it] e (fun i h => (∃ old, IsEnum h e it ((i : Nat) : Int) old) ∧ h.IsListIter it a i) where
  mem := by simp
  obj := fun i h st c hc => by
    obtain ⟨⟨old, he⟩, ⟨o, eo, _, d⟩⟩ := st
    simp only [List.mem_cons, List.not_mem_nil, or_false] at hc
    rcases hc with rfl | rfl
    · exact ⟨_, he, fun v q => by cases q⟩
    · exact ⟨o, eo, fun v q => by rw [d] at q; cases q⟩
  keep := fun i h h' st k => by
    obtain ⟨⟨old, he⟩, hit⟩ := st
    exact ⟨⟨old, k e (by simp) _ he⟩, hit.at fun o q => k it (by simp) o q⟩
  item := by
    intro X hP hw hK hc i pins s σ H E I hf st hg
    subst hP hw hK
    obtain ⟨xs, x, hq, hx⟩ := hg
    obtain ⟨its, rv, pl, hz⟩ := I.list hq
    obtain ⟨u, hu, ru⟩ := rv.get hx
    obtain ⟨⟨old, he⟩, hit⟩ := st
    refine wpAny_pyNext_enum_item he hit pl.isList (x := u) (by simpa using hu) hne fun h1 heo hit1 ht1 hz1 k1 => ⟨_, rfl, ?_⟩
    refine wpAny_letOwnedTupleGo_enum heo fun h2 he2 sb => ?_
    have hp : H s.heap.objs.size = none := I.hok.fresh (Nat.le_refl _)
    have lte : e < s.heap.objs.size := Heap.lt_size he
    have lti : it < s.heap.objs.size := by obtain ⟨o, eo, _⟩ := hit; exact Heap.lt_size eo
    have k2 : ∀ c o, c ∉ [e, it] → s.heap.get? c = some o → h2.get? c = some o := fun c o nc q => by
      simp only [List.mem_cons, List.not_mem_nil, or_false, not_or] at nc
      exact (sb.2 c nc.1).trans (k1 c o nc.1 nc.2 q)
    have pr2 : h2.get? s.heap.objs.size = some { cls := .type "tuple", data := .seq #[.int (i : Nat) s.toks, u] } := (sb.2 _ (Nat.ne_of_gt lte)).trans ht1
    have nfp : ∀ c o, H c = some o → c ∉ [e, it] := fun c o q hc => by rw [(hf c hc).1] at q; cases q
    have hnn : ∀ c o, H c = some o → c ≠ s.heap.objs.size := fun c o q => ne_of_none q hp
    have I2 : Inv X pins σ (upd H s.heap.objs.size (.tup [.int (i : Nat), x])) { s with heap := h2, toks := s.toks + 1 } := by
      refine I.call' (s' := { s with heap := h2, toks := s.toks + 1 }) (ch := [e, it]) rfl ⟨fun c o q n nf nc => k2 c o nc q, fun c o q n hc nc => ⟨o.slots, k2 c o nc q⟩, fun c o q n nc => ?_, fun c o q nc => ⟨o, k2 c o nc q⟩, fun c xs q => ?_, fun c o u q => ?_, fun c ps q => ⟨#[], ?_⟩⟩ (fun c o q => ?_) I.bare fun c hc => ?_
      · rw [upd_ne (Nat.ne_of_lt (Heap.lt_size q))]; exact n
      · rw [upd_ne (hnn _ _ q)]; exact q
      · rw [upd_ne (hnn _ _ q)]; exact q
      · rw [upd_ne (hnn _ _ q), Array.append_empty]; exact q
      · by_cases hc : c = s.heap.objs.size
        · subst hc
          rw [upd_same] at q; cases q
          exact ⟨by show (2 : Nat) ≤ _; decide, [.int (i : Nat) s.toks, u], .cons ⟨_, rfl⟩ (.cons ru .nil), _, pr2, rfl, _, rfl⟩
        · rw [upd_ne hc] at q
          refine (I.hok c o q).stay (fun d w' hd z => k2 d w' ?_ z) (fun d z => by rw [upd_ne (hnn _ _ z)]; exact z) fun d xs z => by rw [upd_ne (hnn _ _ z)]; exact z
          rcases hd with rfl | hd
          · exact nfp _ _ q
          · exact nfp _ _ hd
      · obtain ⟨f0, f1, f2, f3, f4, f5⟩ := hf c hc
        exact ⟨f3, f1, f4, f5⟩
    refine ⟨.ref s.heap.objs.size, _, I2, rfl, ⟨_, x, rfl, hp, fun ys hy => by rw [I.list_inj hy hq]; exact hx, rfl⟩, ⟨⟨u, ?_⟩, ?_⟩, fun c hc => ?_⟩
    · have z : IsEnum h2 e it ((i : Int) + 1) u := he2
      rw [show (i : Int) + 1 = ((i + 1 : Nat) : Int) by omega] at z
      exact z
    · exact hit1.at fun o q => (sb.2 _ (Ne.symm hne)).trans q
    · have lt : c < s.heap.objs.size := by
        simp only [List.mem_cons, List.not_mem_nil, or_false] at hc
        rcases hc with rfl | rfl
        · exact lte
        · exact lti
      rw [upd_ne (Nat.ne_of_lt lt)]; exact (hf c hc).1
  done := by
    intro X hP hw hK hc i pins s σ H E I hf st hg
    subst hP hw hK
    obtain ⟨xs, hq, hx⟩ := hg
    obtain ⟨its, rv, pl, hz⟩ := I.list hq
    have hl := rv.length
    obtain ⟨⟨old, he⟩, hit⟩ := st
    obtain ⟨f0, f1, f2, f3, f4, f5⟩ := hf it (by simp)
    exact wpAny_pyNext_enum_end (I.ok.hd hc) he hit pl.isList (by simp; omega) fun h' k => ⟨rfl, I.turned (t' := s.toks) (fun b o hb q => k b o hb q) f0 f1 f3 f4 f5⟩
  self := fun _ _ _ _ _ st h => by
    obtain ⟨⟨old, he⟩, _⟩ := st
    exact wpAny_pyIter_enum he h
def iEnum (K : PySem.W.Frag) (ta : TA) : TI := fun σ H R => ta σ H fun vs H1 => ∃ a xs, vs = [.ref a] ∧ SqL K H1 a xs ∧ R (Ite K a) H1
theorem pi_enum {X : Cx} {es : List Expr} {kk : Nat} {tp : Pos} {a : Expr} {ta : TA} {p pos : Pos} (hg : Gl X "enumerate") (hm : X.mg "enumerate" = none) (ha : PA X [a] ta) (hs : starEach [a] X.env = [(false, eval a X.env)] := by rfl) : PI X (.Tuple es kk tp) (.Call (.Name "enumerate" p) [a] [] pos) (iEnum X.K ta) := by
  intro pins s σ H R I h
  refine Call_ (ld_blt I hg hm boot_enumerate (PyProof.Rows.callWith_type1 (thn (ha pos pins s σ H _ I h) fun us s1 ⟨vs, H1, I1, r1, q1⟩ => ?_) hs rfl))
  obtain ⟨l, xs, e, hq, q⟩ := q1
  subst e
  cases r1 with
  | cons r rr =>
    cases rr
    cases r
    obtain ⟨its, rv, pl, hz⟩ := I1.list hq
    refine call_enumerate_list pl.isList fun h' he hit hsz k => ?_
    have I2 : Inv X pins σ H1 { s1 with heap := h' } := I1.kept (t' := s1.toks) k
    refine wpAny_pyIter_enum (s := { s1 with heap := h' }) he ?_
    refine ⟨s1.heap.objs.size + 1, [s1.heap.objs.size + 1, s1.heap.objs.size], _, _, H1, rfl, I2, turn_enum l _ _ (by show s1.heap.objs.size + 1 ≠ s1.heap.objs.size; omega), ⟨⟨.none, he⟩, hit⟩, fun b hb => ?_, q⟩
    simp only [List.mem_cons, List.not_mem_nil, or_false] at hb
    have fr : ∀ c, s1.heap.objs.size ≤ c → FpOk X pins H1 c := fun c hc => I1.fpOk hc (I1.hok.fresh hc)
    rcases hb with rfl | rfl
    · exact fr _ (Nat.le_succ _)
    · exact fr _ (Nat.le_refl _)
theorem for_enum {K : PySem.W.Frag} {a : Addr} {xs : List V} {g : TG} {tb : TS} {D : Ends} {σ : St} {H : Hp} (Pv : Nat → St → Hp → Prop) (h0 : Pv 0 σ H) (hl : ∀ i σ H, i ≤ xs.length → Pv i σ H → SqL K H a xs)
    (hs : ∀ i x p σ H, xs[i]? = some x → H p = none → Pv i σ H → g (.ref p) σ (upd H p (.tup [.int (i : Nat), x])) fun σ2 H2 => tb { D with nx := Pv (i + 1), ct := Pv (i + 1), bk := D.nx } σ2 H2) (hd : ∀ σ H, Pv xs.length σ H → D.nx σ H) :
    ∃ W : Nat → Nat → St → Hp → Prop, (∃ m, W 0 m σ H) ∧ ∀ i m σ H, W i m σ H →
      ((Ite K a).stop i H ∧ D.nx σ H) ∨ ((Ite K a).go i H ∧ ∃ N : St → Hp → Prop, (∀ σ' H', N σ' H' → ∃ m', m' < m ∧ W (i + 1) m' σ' H') ∧ ∀ x H', (Ite K a).yld i H x H' → g x σ H' fun σ2 H2 => tb { D with nx := N, ct := N, bk := D.nx } σ2 H2) := by
  refine ⟨fun i m σ H => m = xs.length - i ∧ i ≤ xs.length ∧ Pv i σ H, ⟨xs.length, by simp, Nat.zero_le _, h0⟩, ?_⟩
  rintro i m σ H ⟨rfl, hi, p⟩
  have q := hl i σ H hi p
  by_cases hlt : i < xs.length
  · refine .inr ⟨⟨xs, xs[i], q, List.getElem?_eq_getElem hlt⟩, Pv (i + 1), fun σ' H' p' => ⟨xs.length - (i + 1), by omega, rfl, hlt, p'⟩, fun y H' ⟨pp, x, e1, e2, e3, e4⟩ => ?_⟩
    subst e1 e4
    exact hs i x pp σ _ (e3 xs q) e2 p
  · have e : i = xs.length := by omega
    subst e
    exact .inl ⟨⟨xs, q, Nat.le_refl _⟩, hd σ H p⟩
section
variable {X : Cx}
theorem mt_lstripC : MtR X "str.lstrip" (fun x vs H Q => ∃ z y, x = .str z ∧ vs = [.str y] ∧ z.length ≤ sizeLine ∧ Q (.str (Txt.lstripChars z y)) H) := by
  intro pins s σ H x vs v us Q I rx rv h
  obtain ⟨z, y, rfl, rfl, hz, q⟩ := h
  obtain ⟨t, rfl⟩ := rx
  obtain ⟨u, rfl, t', rfl⟩ := vals1 rv
  exact SC.lstripChars (fun t' k => ⟨.str _, H, I.tok _, ⟨_, rfl⟩, q⟩) hz
theorem mt_rstripC : MtR X "str.rstrip" (fun x vs H Q => ∃ z y, x = .str z ∧ vs = [.str y] ∧ z.length ≤ sizeLine ∧ Q (.str (Txt.rstripChars z y)) H) := by
  intro pins s σ H x vs v us Q I rx rv h
  obtain ⟨z, y, rfl, rfl, hz, q⟩ := h
  obtain ⟨t, rfl⟩ := rx
  obtain ⟨u, rfl, t', rfl⟩ := vals1 rv
  exact SC.rstripChars (fun t' k => ⟨.str _, H, I.tok _, ⟨_, rfl⟩, q⟩) hz
theorem mt_starts : MtR X "str.startswith" (fun x vs H Q => ∃ z y, x = .str z ∧ vs = [.str y] ∧ Q (.bl (Txt.startswith z y)) H) := by
  intro pins s σ H x vs v us Q I rx rv h
  obtain ⟨z, y, rfl, rfl, q⟩ := h
  obtain ⟨t, rfl⟩ := rx
  obtain ⟨u, rfl, t', rfl⟩ := vals1 rv
  exact SC.startswith ⟨.bl _, H, I, rfl, q⟩
theorem vals_strs : ∀ (l : List (Str × Tok)), Vals (l.map fun p => V.str p.1) (strValues l)
  | [] => .nil
  | (y, t) :: r => .cons ⟨t, rfl⟩ (vals_strs r)
theorem mt_split : MtR X "str.split" (fun x vs H Q => ∃ z y, x = .str z ∧ vs = [.str y] ∧ y.length ≠ 0 ∧ z.length ≤ sizeLine ∧ (Txt.split z y).length ≤ sizeLine ∧ ∀ l, H l = none → Q (.ref l) (upd H l (.lst ((Txt.split z y).map V.str)))) := by
  intro pins s σ H x vs v us Q I rx rv h
  obtain ⟨z, y, rfl, rfl, hy0, hz, hz2, q⟩ := h
  obtain ⟨t, rfl⟩ := rx
  obtain ⟨u, rfl, t', rfl⟩ := vals1 rv
  have hy : (y.length == 0) = false := by simpa using hy0
  have fin : ∀ (l : List (Str × Tok)) (k : Nat), l.map (·.1) = Txt.split z y → EP X pins σ Q (.ref s.heap.objs.size) { s with heap := s.heap.push { cls := .type "list", data := .seq (strValues l).toArray }, toks := k } := fun l k e => by
    have ev : (Txt.split z y).map V.str = l.map fun p => V.str p.1 := by rw [← e, List.map_map]; rfl
    refine ⟨.ref _, _, I.lnew (t' := k) (ys := (Txt.split z y).map V.str) (by rw [ev]; exact vals_strs l) (by rw [List.length_map]; exact hz2), rfl, q _ I.fresh⟩
  cases h1 : (decide (z.length < y.length) || decide (Builtin.Str.strKind z < Builtin.Str.strKind y))
  · cases hf : (Builtin.Str.occurrences z y 0 z.length (z.length + 1)).isEmpty
    · have es : Txt.split z y = Builtin.Str.partsBetween z (Builtin.Str.occurrences z y 0 z.length (z.length + 1)) y.length := (if_neg (ne_true_of_eq_false h1)).trans (if_neg (ne_true_of_eq_false hf))
      refine call_meets F.slot_str_split (typeIs_str _ _ _) F.entry_str_split (F.args_str_split_2 _ _) (meets_str_split_sep z y t t' h1 hy hf hz (by rw [← es]; exact hz2)) ?_
      rw [strsFrom_eq]
      exact fin (numbered s.toks (Builtin.Str.partsBetween z (Builtin.Str.occurrences z y 0 z.length (z.length + 1)) y.length)) _ ((numbered_texts _ _).trans es.symm)
    · exact call_meets F.slot_str_split (typeIs_str _ _ _) F.entry_str_split (F.args_str_split_2 _ _) (meets_str_split_not_found z y t t' h1 hy hf) (fin [(z, t)] s.toks ((if_neg (ne_true_of_eq_false h1)).trans (if_pos hf)).symm)
  · exact call_meets F.slot_str_split (typeIs_str _ _ _) F.entry_str_split (F.args_str_split_2 _ _) (meets_str_split_cannot_occur z y t t' h1) (fin [(z, t)] s.toks (if_pos h1).symm)
end
section
variable {P : Program} {w : World} {K : PySem.W.Frag} {mg : Str → Option Value} {base : Heap} {C : Addr}
end
end L2
namespace L2
open PySem PySem.Spec PyProof.Rows
theorem sl_str {X : Cx} : SlR X (fun x lo hi H Q => ∃ z, x = .str z ∧ z.length ≤ sizeLine ∧ Q (.str (Txt.slice z lo hi)) H) := by
  intro pins s σ H x v vl vu lo hi sl Q I rx hs pl pu h
  obtain ⟨z, rfl, hz, q⟩ := h
  obtain ⟨t, rfl⟩ := rx
  refine ⟨"str", _, F.slot_str_getitem.lookup, typeIs_str _ _ _, ?_⟩
  have fin : ∀ t' k, EP X pins σ Q (.str (Txt.slice z lo hi) t') { s with toks := k } := fun t' k => ⟨.str _, H, I.tok _, ⟨_, rfl⟩, q⟩
  cases pl with
  | none =>
    cases pu with
    | none => exact wpAny_getItem_str_slice (l := none) (u := none) (st := none) hs rfl (post_val_or_str ⟨Nat.le_trans (Txt.slice_le z none none) hz, fin⟩)
    | int j uj => exact wpAny_getItem_str_slice (l := none) (u := some (j, uj)) (st := none) hs rfl (post_val_or_str ⟨Nat.le_trans (Txt.slice_le z none (some j)) hz, fin⟩)
  | int i ui =>
    cases pu with
    | none => exact wpAny_getItem_str_slice (l := some (i, ui)) (u := none) (st := none) hs rfl (post_val_or_str ⟨Nat.le_trans (Txt.slice_le z (some i) none) hz, fin⟩)
    | int j uj => exact wpAny_getItem_str_slice (l := some (i, ui)) (u := some (j, uj)) (st := none) hs rfl (post_val_or_str ⟨Nat.le_trans (Txt.slice_le z (some i) (some j)) hz, fin⟩)
theorem joinS {ta tb : TS} {D : Ends} {σ : St} {H : Hp} (R : St → Hp → Prop) (hm : ∀ D' : Ends, (∀ σ' H', R σ' H' → D'.nx σ' H') → ta D' σ H) (hq : ∀ σ' H', R σ' H' → tb D σ' H') : tSeq ta tb D σ H := hm _ hq
theorem comp_listT {K : PySem.W.Frag} {a : Addr} {xs : List V} {js : List Nat} {tt : TT} {te : TE} {σ : St} {H : Hp} {R : Addr → Hp → Prop} (Pv : Addr → Nat → List V → Hp → Prop) (h0 : ∀ D, H D = none → Pv D 0 [] (upd H D (.lst []))) (hl : ∀ D i ys H', H D = none → Pv D i ys H' → SqL K H' a xs)
    (hs : ∀ D (i : Nat) x ys H' (Qe : VK) (Qn : Hp → Prop), H D = none → xs[i]? = some x → Pv D i ys H' → (∀ y H3, H3 D = some (.lst ys) → ys.length < sizeLine → Pv D (i + 1) (ys ++ [y]) (upd H3 D (.lst (ys ++ [y]))) → Qe y H3) → (∀ H2, Pv D (i + 1) ys H2 → Qn H2) →
      tt (some x :: capt js σ) H' fun b H2 => if b = true then te (some x :: capt js σ) H2 Qe else Qn H2)
    (hd : ∀ D ys H', H D = none → Pv D xs.length ys H' → R D H') :
    ∀ D, H D = none → ∃ W : Nat → Nat → List V → Hp → Prop, (∃ m, W 0 m [] (upd H D (.lst []))) ∧ ∀ i m ys H, W i m ys H →
      ((Itl K a).stop i H ∧ R D H) ∨ ((Itl K a).go i H ∧ ∀ x H', (Itl K a).yld i H x H' → tt (some x :: capt js σ) H' fun b H2 => if b = true then te (some x :: capt js σ) H2 fun y H3 => H3 D = some (.lst ys) ∧ ys.length < sizeLine ∧ ∃ m', m' < m ∧ W (i + 1) m' (ys ++ [y]) (upd H3 D (.lst (ys ++ [y])))
        else ∃ m', m' < m ∧ W (i + 1) m' ys H2) := by
  intro D hD
  refine ⟨fun i m ys H' => m = xs.length - i ∧ i ≤ xs.length ∧ Pv D i ys H', ⟨xs.length, by simp, by omega, h0 D hD⟩, ?_⟩
  rintro i m ys H' ⟨rfl, hi, hp⟩
  have hq := hl D i ys H' hD hp
  by_cases hlt : i < xs.length
  · refine .inr ⟨⟨_, xs[i], hq, List.getElem?_eq_getElem hlt⟩, fun x H2 ⟨e2, hx⟩ => ?_⟩
    subst e2
    have ex := hx _ hq
    exact hs D i x ys _ _ _ hD ex hp (fun y H3 a b c => ⟨a, b, xs.length - (i + 1), by omega, rfl, by omega, c⟩) fun H2 c => ⟨xs.length - (i + 1), by omega, rfl, by omega, c⟩
  · have e : i = xs.length := by omega
    subst e
    exact .inl ⟨⟨_, hq, Nat.le_refl _⟩, hd D ys H' hD hp⟩
end L2
namespace L2
open PySem PySem.Spec PyProof.Rows
section
variable {X : Cx}
theorem Inv.tnew {pins : List (Addr × Obj)} {σ : St} {H : Hp} {s : Shared} {ys : List V} {its : List Value} {t' : Nat} (I : Inv X pins σ H s) (hv : Vals ys its) (hz : ys.length ≤ sizeLine) :
    Inv X pins σ (upd H s.heap.objs.size (.tup ys)) { s with heap := s.heap.push { cls := .type "tuple", data := .seq its.toArray }, toks := t' } :=
  I.laid (fun _ _ q => Heap.get?_push_of_some _ q) (Nat.le_refl _) ⟨hz, its, hv, ⟨_, Heap.get?_push_size _ rfl, rfl, _, rfl⟩⟩
theorem mt_partition : MtR X "str.partition" (fun x vs H Q => ∃ z y, x = .str z ∧ vs = [.str y] ∧ y.length ≠ 0 ∧ z.length ≤ sizeLine ∧ ∀ p, H p = none → Q (.ref p) (upd H p (.tup [.str (Txt.partition z y).1, .str (Txt.partition z y).2.1, .str (Txt.partition z y).2.2]))) := by
  intro pins s σ H x vs v us Q I rx rv h
  obtain ⟨z, y, rfl, rfl, hy0, hz, q⟩ := h
  obtain ⟨t, rfl⟩ := rx
  obtain ⟨u, rfl, t', rfl⟩ := vals1 rv
  have hy : (y.length == 0) = false := by simpa using hy0
  refine call_meets F.slot_str_partition (typeIs_str _ _ _) F.entry_str_partition (F.args_str_partition_2 _ _) (meets_str_partition z y t t' hy hz) ?_
  have q' := q
  unfold Txt.partition at q'
  revert q'
  cases Builtin.Str.occurrences z y 0 z.length 1 with
  | nil => intro q'; exact ⟨.ref _, _, I.tnew (ys := [.str _, .str _, .str _]) (.cons ⟨_, rfl⟩ (.cons ⟨_, rfl⟩ (.cons ⟨_, rfl⟩ .nil))) (by show 3 ≤ sizeLine; decide), rfl, q' _ I.fresh⟩
  | cons i r => intro q'; exact ⟨.ref _, _, I.tnew (ys := [.str _, .str _, .str _]) (.cons ⟨_, rfl⟩ (.cons ⟨_, rfl⟩ (.cons ⟨_, rfl⟩ .nil))) (by show 3 ≤ sizeLine; decide), rfl, q' _ I.fresh⟩
theorem mt_zfill : MtR X "str.zfill" (fun x vs H Q => ∃ z i, x = .str z ∧ vs = [.int i] ∧ PadOk i = true ∧ Q (.str (Txt.zfill z i)) H) := by
  intro pins s σ H x vs v us Q I rx rv h
  obtain ⟨z, i, rfl, rfl, hp, q⟩ := h
  obtain ⟨t, rfl⟩ := rx
  obtain ⟨u, rfl, t', rfl⟩ := vals1 rv
  obtain ⟨h1, h2⟩ := PadOk.parts hp
  refine call_gives F.slot_str_zfill (typeIs_str _ _ _) F.entry_str_zfill (F.args_str_zfill_2 _ _) (gives_str_zfill z i t t' h1 h2) ?_
  have fin : ∀ t' k, EP X pins σ Q (.str (Txt.zfill z i) t') { s with toks := k } := fun t' k => ⟨.str _, H, I.tok _, ⟨_, rfl⟩, q⟩
  unfold Txt.zfill at fin
  by_cases c : i ≤ (z.length : Int)
  · rw [if_pos c] at fin ⊢
    exact fin _ _
  · rw [if_neg c] at fin ⊢
    exact ⟨fits_zfilled h2 c, fin _ _⟩
theorem op_inS : OpR X (compareOp .In) (fun x y H Q => ∃ a b, x = .str a ∧ y = .str b ∧ Q (.bl (Txt.contains b a)) H) := by
  intro pins s σ H x y v u Q I rx ry h
  obtain ⟨a, b, rfl, rfl, q⟩ := h
  obtain ⟨t, rfl⟩ := rx
  obtain ⟨t', rfl⟩ := ry
  exact PySem.P.in_str ⟨.bl _, H, I, rfl, q⟩
theorem call_int_text : CallR X (.type "int") (fun xs H Q => ∃ z n, xs = [.str z] ∧ PySem.intText? z = some n ∧ z.length ≤ 640 ∧ Q (.int n) H) := by
  intro pins s σ H xs us Q I r h
  obtain ⟨z, n, rfl, hn, hl, q⟩ := h
  obtain ⟨u, rfl, t', rfl⟩ := vals1 r
  exact PySem.W.KIN.call_text hn hl ⟨.int _, H, I.tok _, ⟨_, rfl⟩, q⟩
def Its (z : Str) : It := ⟨fun i _ => i < z.cps.size, fun i H x H' => H' = H ∧ ∃ c, z.cps[i]? = some c ∧ x = .str ⟨#[c]⟩, fun i _ => z.cps.size ≤ i⟩
theorem turn_strA {P : Program} {w : World} {K : PySem.W.Frag} {tg : Expr} (z : Str) (t : Tok) (it : Addr) : Turn P w K tg (Its z) [it] it (fun i h => h.IsStrIter it "str_ascii_iterator" z t (min i z.cps.size)) where
  mem := by simp
  obj := fun i h st b hb => by
    have e : b = it := by simpa using hb
    subst e
    obtain ⟨o, e, c, d⟩ := st
    exact ⟨o, e, fun v z => by rw [d] at z; cases z⟩
  keep := fun i h h' st k => by
    obtain ⟨o, e, r⟩ := st
    exact ⟨o, k it (by simp) o e, r⟩
  item := by
    intro X hP hw hK hc i pins s σ H E I hf st hg
    subst hP hw hK
    obtain ⟨f0, f1, f2, f3, f4, f5⟩ := hf it (by simp)
    have hg : i < z.cps.size := hg
    rw [Nat.min_eq_left (Nat.le_of_lt hg)] at st
    have W := Walks.strAscii (prog := X.prog) (w := X.w) (I.ok.hd hc) it z t
    refine W.item i s _ _ hg st fun v h' tk hv st' kk => ?_
    obtain ⟨c, u, ec, rfl⟩ := hv
    have I1 : Inv X pins σ H { s with heap := h', toks := tk } := I.turned (fun b o hb e => kk b o (by simpa using hb) e) f0 f1 f3 f4 f5
    obtain ⟨o, e, cl, d⟩ := id st'
    refine ⟨_, rfl, go_of (s := { s with heap := h', toks := tk }) e cl d (by decide) ⟨.str ⟨#[c]⟩, H, I1, ⟨u, rfl⟩, ⟨rfl, c, ec, rfl⟩, ?_, fun b hb => (hf b hb).1⟩⟩
    rw [Nat.min_eq_left hg]
    exact st'
  done := by
    intro X hP hw hK hc i pins s σ H E I hf st hg
    subst hP hw hK
    obtain ⟨f0, f1, f2, f3, f4, f5⟩ := hf it (by simp)
    have hg : z.cps.size ≤ i := hg
    rw [Nat.min_eq_right hg] at st
    have W := Walks.strAscii (prog := X.prog) (w := X.w) (I.ok.hd hc) it z t
    exact W.done s _ _ st fun h' tk kk => ⟨rfl, I.turned (fun b o hb e => kk b o (by simpa using hb) e) f0 f1 f3 f4 f5⟩
  self := fun _ _ _ _ _ st h => wpAny_pyIter_striter_ascii st h
def iStr (tl : TE) : TI := fun σ H R => tl σ H fun x H1 => ∃ z, x = .str z ∧ z.cps.all (· < 128) = true ∧ R (Its z) H1
theorem pi_str {tg l : Expr} {tl : TE} (hl : PE X l tl) : PI X tg l (iStr tl) := by
  intro pins s σ H R I h
  refine thn (hl pins s σ H _ I h) fun v s1 ⟨x, H1, I1, r1, q1⟩ => ?_
  obtain ⟨z, rfl, ha, q⟩ := q1
  obtain ⟨t, rfl⟩ := r1
  refine wpAny_pyIter_ascii ha ?_
  refine ⟨s1.heap.objs.size, [s1.heap.objs.size], _, _, H1, rfl, I1.kept (t' := s1.toks) fun b o e => Heap.get?_push_of_some _ e, turn_strA z t _, ?_, fun b hb => ?_, q⟩
  · dsimp only
    rw [Nat.zero_min]
    exact ⟨_, Heap.get?_push_size _ rfl, rfl, rfl⟩
  · have e : b = s1.heap.objs.size := by simpa using hb
    subst e
    exact I1.fpOk (Nat.le_refl _) (I1.hok.fresh (Nat.le_refl _))
theorem comp_str {z : Str} {js : List Nat} {te : TE} {σ : St} {H : Hp} {R : Addr → Hp → Prop} (Pv : Addr → Nat → List V → Hp → Prop) (h0 : ∀ D, H D = none → Pv D 0 [] (upd H D (.lst [])))
    (hs : ∀ D (i : Nat) c ys H' Qb, H D = none → z.cps[i]? = some c → Pv D i ys H' → (∀ y H3, H3 D = some (.lst ys) → ys.length < sizeLine → Pv D (i + 1) (ys ++ [y]) (upd H3 D (.lst (ys ++ [y]))) → Qb y H3) → te (some (.str ⟨#[c]⟩) :: capt js σ) H' Qb)
    (hd : ∀ D ys H', H D = none → Pv D z.cps.size ys H' → R D H') :
    ∀ D, H D = none → ∃ W : Nat → Nat → List V → Hp → Prop, (∃ m, W 0 m [] (upd H D (.lst []))) ∧ ∀ i m ys H, W i m ys H →
      ((Its z).stop i H ∧ R D H) ∨ ((Its z).go i H ∧ ∀ x H', (Its z).yld i H x H' → if true = true then te (some x :: capt js σ) H' fun y H3 => H3 D = some (.lst ys) ∧ ys.length < sizeLine ∧ ∃ m', m' < m ∧ W (i + 1) m' (ys ++ [y]) (upd H3 D (.lst (ys ++ [y])))
        else ∃ m', m' < m ∧ W (i + 1) m' ys H') := by
  intro D hD
  refine ⟨fun i m ys H' => m = z.cps.size - i ∧ i ≤ z.cps.size ∧ Pv D i ys H', ⟨z.cps.size, by simp, by omega, h0 D hD⟩, ?_⟩
  rintro i m ys H' ⟨rfl, hi, hp⟩
  by_cases hlt : i < z.cps.size
  · refine .inr ⟨hlt, fun x H2 ⟨e2, c, ec, ex⟩ => ?_⟩
    subst e2 ex
    refine iteT ?_
    exact hs D i c ys _ _ hD ec hp fun y H3 a b c => ⟨a, b, z.cps.size - (i + 1), by omega, rfl, by omega, c⟩
  · have e : i = z.cps.size := by omega
    subst e
    exact .inl ⟨Nat.le_refl _, hd D ys H' hD hp⟩
end
end L2
namespace Tx
open PySem PySem.Builtin.Str
abbrev sg (z : Str) : List Nat := z.cps.toList
abbrev bl : Str := " "
theorem bl_eq : (bl : Str) = ⟨#[32]⟩ := by decide +kernel
theorem sg_inj {a b : Str} (h : sg a = sg b) : a = b := by
  cases a; cases b
  exact congrArg Str.mk (Array.toList_inj.mp h)
theorem sg_app (a b : Str) : sg (a ++ b) = sg a ++ sg b := by
  show (a.cps ++ b.cps).toList = _
  rw [Array.toList_append]
theorem sg_len (z : Str) : z.length = (sg z).length := by simp [Str.length]
theorem sub_sg (z : Str) (i j : Nat) : sg (strSub z i j) = ((sg z).drop i).take (j - i) := StrLaws.strSub_toList z i j
theorem tw_dw {p : Nat → Bool} : ∀ l : List Nat, l.drop (l.takeWhile p).length = l.dropWhile p
  | [] => rfl
  | a :: l => by
    by_cases h : p a = true
    · rw [List.takeWhile_cons_of_pos h, List.dropWhile_cons_of_pos h]; exact tw_dw l
    · rw [List.takeWhile_cons_of_neg h, List.dropWhile_cons_of_neg h]; rfl
theorem goes32 : (bl : Str).cps.contains = (fun c : Nat => c == 32) := by
  funext c
  rw [bl_eq, Bool.eq_iff_iff]
  simp
theorem lstrip_sg (z : Str) : sg (Txt.lstripChars z bl) = (sg z).dropWhile (· == 32) := by
  rw [Txt.lstripChars, PySem.W.stripBy_eq]
  unfold W.stripped
  simp only [if_true, Bool.false_eq_true, if_false]
  rw [sub_sg, goes32, tw_dw]
  exact List.take_of_length_le (by rw [← tw_dw, List.length_drop, sg_len]; exact Nat.le_refl _)
theorem rev_dw {p : Nat → Bool} (l : List Nat) : l.take (l.length - (l.reverse.takeWhile p).length) = (l.reverse.dropWhile p).reverse := by
  rw [← tw_dw, List.drop_reverse, List.reverse_reverse]
theorem rstrip_sg (z : Str) : sg (Txt.rstripChars z bl) = ((sg z).reverse.dropWhile (· == 32)).reverse := by
  rw [Txt.rstripChars, PySem.W.stripBy_eq]
  unfold W.stripped
  simp only [if_true, Bool.false_eq_true, if_false]
  rw [sub_sg, goes32, List.drop_zero, Nat.sub_zero, sg_len]
  exact rev_dw _
theorem starts_sg (z y : Str) : Txt.startswith z y = (sg y).isPrefixOf (sg z) := by
  unfold Txt.startswith
  rw [StrLaws.subAt_eq, List.drop_zero, sg_len, sg_len]
  rw [Bool.eq_iff_iff, List.isPrefixOf_iff_prefix, Bool.and_eq_true, decide_eq_true_eq, beq_iff_eq, List.prefix_iff_eq_take]
  constructor
  · exact fun h => h.2.symm
  · intro h
    refine ⟨?_, h.symm⟩
    have := congrArg List.length h
    rw [List.length_take] at this
    omega
theorem part_no {z : Str} (h : 32 ∉ sg z) : Txt.partition z bl = (z, Str.empty, Str.empty) := by
  unfold Txt.partition
  rcases StrLaws.occ_head z bl 1 (Nat.le_refl 1) with ⟨h0, _⟩ | ⟨i, r, h0, hi, hn⟩
  · rw [h0]
  · rw [bl_eq] at hi
    exact absurd (List.mem_of_getElem? ((StrLaws.subAt_one z 32 i).mp hi)) h
theorem part_at {z : Str} {a b : List Nat} (h : sg z = a ++ 32 :: b) (ha : 32 ∉ a) : sg (Txt.partition z bl).1 = a ∧ (Txt.partition z bl).2.1 = bl ∧ sg (Txt.partition z bl).2.2 = b := by
  unfold Txt.partition
  have at_a : (sg z)[a.length]? = some 32 := by rw [h]; simp
  rcases StrLaws.occ_head z bl 1 (Nat.le_refl 1) with ⟨h0, hn⟩ | ⟨i, r, h0, hi, hn⟩
  · rw [bl_eq] at hn
    exact absurd ((StrLaws.subAt_one z 32 _).mpr at_a) (hn _)
  · rw [h0]
    rw [bl_eq] at hi hn
    have e1 := (StrLaws.subAt_one z 32 i).mp hi
    have e2 : ¬ a.length < i := fun c => hn _ c ((StrLaws.subAt_one z 32 _).mpr at_a)
    have e3 : ¬ i < a.length := fun c => by
      have e1 : (sg z)[i]? = some 32 := e1
      rw [h, List.getElem?_append_left c] at e1
      exact ha (List.mem_of_getElem? e1)
    have e : i = a.length := by omega
    subst e
    refine ⟨?_, rfl, ?_⟩
    · rw [sub_sg, h]; simp
    · rw [sub_sg, sg_len, sg_len, h, bl_eq]; simp
      exact List.take_of_length_le (by omega)
theorem fig (c : Nat) : Txt.contains "0123456789" ⟨#[c]⟩ = decide (48 ≤ c ∧ c ≤ 57) := by
  unfold Txt.contains
  have hs : sg "0123456789" = [48, 49, 50, 51, 52, 53, 54, 55, 56, 57] := by decide +kernel
  rw [Bool.eq_iff_iff, decide_eq_true_eq]
  rcases StrLaws.occ_head "0123456789" ⟨#[c]⟩ 1 (Nat.le_refl 1) with ⟨h0, hn⟩ | ⟨i, r, h0, hi, hn⟩
  · rw [h0]
    constructor
    · intro z; cases z
    · intro z
      have hm : c ∈ sg "0123456789" := by rw [hs]; simp; omega
      obtain ⟨j, hj⟩ := List.getElem?_of_mem hm
      exact absurd ((StrLaws.subAt_one _ c j).mpr hj) (hn j)
  · rw [h0]
    constructor
    · intro _
      have hm := List.mem_of_getElem? ((StrLaws.subAt_one _ c i).mp hi)
      have hm : c ∈ sg "0123456789" := hm
      rw [hs] at hm
      simp at hm
      omega
    · intro _; rfl
end Tx
namespace L2
open PySem PySem.Spec PyProof.Rows
def KpR (o o' : Obj) : Prop := o'.cls = o.cls ∧ o'.dict = o.dict ∧ o'.isFreed = o.isFreed ∧ ∀ vs, o.data = .fields vs → ∃ vs', o'.data = .fields vs' ∧ vs'.size = vs.size ∧ ∀ i : Nat, i ≠ 1 → i ≠ 3 → vs'[i]? = vs[i]?
theorem KpR.refl (o : Obj) : KpR o o := ⟨rfl, rfl, rfl, fun vs e => ⟨vs, e, rfl, fun _ _ _ => rfl⟩⟩
theorem KpR.trans {a b c : Obj} (x : KpR a b) (y : KpR b c) : KpR a c := by
  obtain ⟨x1, x2, x3, x4⟩ := x
  obtain ⟨y1, y2, y3, y4⟩ := y
  refine ⟨y1.trans x1, y2.trans x2, y3.trans x3, fun vs e => ?_⟩
  obtain ⟨v1, e1, s1, k1⟩ := x4 vs e
  obtain ⟨v2, e2, s2, k2⟩ := y4 v1 e1
  exact ⟨v2, e2, s2.trans s1, fun i h1 h3 => (k2 i h1 h3).trans (k1 i h1 h3)⟩
theorem kpR_slots {o : Obj} {sl : Array (Option Value)} : KpR o { o with slots := sl } := ⟨rfl, rfl, by obtain ⟨c, d, dt, z⟩ := o; cases dt <;> rfl, fun vs e => ⟨vs, e, rfl, fun _ _ _ => rfl⟩⟩
theorem kpR_field {o : Obj} {n : Nat} {v : Value} (hn : n = 1 ∨ n = 3) : KpR o (Obj.mapFields (·.setIfInBounds n v) o) := by
  refine ⟨Obj.cls_mapFields _ _, ?_, ?_, fun vs e => ⟨_, Obj.data_mapFields e _, by simp, fun i h1 h3 => ?_⟩⟩
  · obtain ⟨c, d, dt, z⟩ := o; cases dt <;> rfl
  · obtain ⟨c, d, dt, z⟩ := o; cases dt <;> rfl
  · rw [Array.getElem?_setIfInBounds_ne (by omega)]
def KpH (h h' : Heap) : Prop := ∀ b o, h.get? b = some o → ∃ o', h'.get? b = some o' ∧ KpR o o'
theorem KpH.refl (h : Heap) : KpH h h := fun b o e => ⟨o, e, .refl o⟩
theorem KpH.trans {a b c : Heap} (x : KpH a b) (y : KpH b c) : KpH a c := fun p o e => by
  obtain ⟨o1, e1, k1⟩ := x p o e
  obtain ⟨o2, e2, k2⟩ := y p o1 e1
  exact ⟨o2, e2, k1.trans k2⟩
theorem kpH_push (h : Heap) (o : Obj) : KpH h (h.push o) := fun b u e => ⟨u, Heap.get?_push_of_some _ e, .refl u⟩
theorem kpH_update (h : Heap) (a : Addr) (f : Obj → Obj) (hf : ∀ o, KpR o (f o)) : KpH h (h.update a f) := fun b u e => by
  by_cases c : a = b
  · subst c
    refine ⟨f u, Heap.get?_update_self f e ?_, hf u⟩
    rw [(hf u).2.2.1]
    exact (Heap.get?_some_iff.mp e).2
  · exact ⟨u, (Heap.get?_update_other h f c).trans e, .refl u⟩
inductive DS {α : Type} : Sem α → Prop
  | pure (a : α) : DS (.pure a)
  | raise (e : Value) : DS (.raise e)
  | unsup (z : String) : DS (.unsupported z)
  | rule {t : String} {k : Unit → Sem α} (h : DS (k ())) : DS (.rule t k)
  | pos {t : Pos} {k : Unit → Sem α} (h : DS (k ())) : DS (.at t k)
  | load {a : Addr} {b : Option Value} {k : Obj → Sem α} (h : ∀ o, DS (k o)) : DS (.load a b k)
  | update {a : Addr} {b : Option Value} {f : Obj → Obj} {k : Unit → Sem α} (hf : ∀ o, KpR o (f o)) (h : DS (k ())) : DS (.update a b f k)
  | alloc {o : Obj} {k : Addr → Sem α} (h : ∀ a, DS (k a)) : DS (.alloc o k)
  | alive {a : Addr} {k : Option Obj → Sem α} (h : ∀ o, DS (k o)) : DS (.loadIfAlive a k)
  | point {l : List Value} {k : Unit → Sem α} (h : DS (k ())) : DS (.point l k)
  | reg {a : Addr} {k : Unit → Sem α} : DS (.register a k)
  | fresh {k : Tok → Sem α} (h : ∀ t, DS (k t)) : DS (.fresh k)
  | ask {k : Setting → Sem α} (h : ∀ t, DS (k t)) : DS (.ask k)
  | hand {b : Bool} {k : Option Value → Sem α} (h : ∀ t, DS (k t)) : DS (.handled b k)
  | stack {k : List (Code × Pos) → Sem α} (h : ∀ t, DS (k t)) : DS (.stack k)
theorem DS.bnd {α β : Type} {f : α → Sem β} (hf : ∀ a, DS (f a)) {t : Sem α} (h : DS t) : DS (t >>= f) := by
  show DS (Sem.bind t f)
  induction h with
  | pure a => exact hf a
  | raise e => exact .raise e
  | unsup z => exact .unsup z
  | rule _ ih => exact .rule ih
  | pos _ ih => exact .pos ih
  | load _ ih => exact .load ih
  | update hf _ ih => exact .update hf ih
  | alloc _ ih => exact .alloc ih
  | alive _ ih => exact .alive ih
  | point _ ih => exact .point ih
  | reg => exact .reg
  | fresh _ ih => exact .fresh ih
  | ask _ ih => exact .ask ih
  | hand _ ih => exact .hand ih
  | stack _ ih => exact .stack ih
theorem wp_keep {α : Type} {M : Model} {Γ : PySem.Ctx} {Q : α → Pos → Shared → Prop} {E : Value → Pos → Shared → Prop} {h0 : Heap} {t : Sem α} (d : DS t) : ∀ (p : Pos) (s : Shared), KpH h0 s.heap → Sem.wp M Γ t Q E p s → Sem.wp M Γ t (fun a p s' => Q a p s' ∧ KpH h0 s'.heap) (fun e p s' => E e p s' ∧ KpH h0 s'.heap) p s := by
  induction d with
  | pure a => intro p s k h; rw [Sem.wp] at h ⊢; exact ⟨h, k⟩
  | raise e => intro p s k h; rw [Sem.wp] at h ⊢; exact ⟨h, k⟩
  | unsup z => intro p s k h; rw [Sem.wp] at h; exact h.elim
  | rule _ ih => intro p s k h; rw [Sem.wp] at h ⊢; exact ih p s k h
  | pos _ ih => intro p s k h; rw [Sem.wp] at h ⊢; exact ih _ s k h
  | load _ ih => intro p s k h; rw [Sem.wp] at h ⊢; obtain ⟨o, e, h⟩ := h; exact ⟨o, e, ih o p s k h⟩
  | update hf _ ih => intro p s k h; rw [Sem.wp] at h ⊢; exact ⟨h.1, ih p _ (k.trans (kpH_update _ _ _ hf)) h.2⟩
  | alloc _ ih => intro p s k h; rw [Sem.wp] at h ⊢; exact ih _ p _ (k.trans (kpH_push _ _)) h
  | alive _ ih => intro p s k h; rw [Sem.wp] at h ⊢; exact ih _ p s k h
  | point _ ih => intro p s k h; rw [Sem.wp] at h ⊢; exact ih p s k h
  | reg => intro p s k h; rw [Sem.wp] at h; exact h.elim
  | fresh _ ih => intro p s k h; rw [Sem.wp] at h ⊢; exact ih _ p _ k h
  | ask _ ih => intro p s k h; rw [Sem.wp] at h ⊢; exact ih _ p s k h
  | hand _ ih => intro p s k h; rw [Sem.wp] at h ⊢; exact ih _ p s k h
  | stack _ ih => intro p s k h; rw [Sem.wp] at h ⊢; exact ih _ p s k h
theorem wpAny_keep {α : Type} {M : Model} {A : Around} {Q : α → Shared → Prop} {E : Value → Shared → Prop} {t : Sem α} {s : Shared} (d : DS t) (h : wpAny M A t Q E s) : wpAny M A t (fun a s' => Q a s' ∧ KpH s.heap s'.heap) (fun e s' => E e s' ∧ KpH s.heap s'.heap) s := fun Γ p i =>
  wp_keep d p s (.refl _) (h Γ p i)
theorem ds_fieldsOf (v : Value) : DS (fieldsOf v) := by
  unfold fieldsOf
  cases v <;> first | exact .unsup _ | skip
  refine .bnd (fun o => ?_) (.load fun o => .pure o)
  split <;> first | exact .pure _ | exact .unsup _
theorem ds_field (v : Value) (i : Nat) : DS (field v i) := by
  unfold field
  refine .bnd (fun o => ?_) (ds_fieldsOf v)
  split <;> first | exact .pure _ | exact .unsup _
theorem ds_setField (v : Value) (n : Nat) (x : Value) (hn : n = 1 ∨ n = 3) : DS (setField v n x) := by
  unfold setField
  cases v <;> first | exact .unsup _ | skip
  dsimp only
  unfold updateField
  refine .bnd (fun o => ?_) (.load fun o => .pure o)
  split
  · split
    · exact .update (fun o => kpR_field hn) (.pure _)
    · exact .unsup _
  · exact .unsup _
theorem ds_setFlight (v : Value) (f : Option Addr) : DS (setFlight v f) := by
  unfold setFlight
  refine .bnd (fun tb => ?_) (ds_field v 1)
  split
  · exact ds_setField _ _ _ (.inr rfl)
  · exact .pure _
theorem ds_stack : DS stack := .stack fun l => .pure l
theorem ds_frameEnvs : DS frameEnvs := by
  unfold frameEnvs
  exact .bnd (fun l => .pure _) ds_stack
theorem ds_behind (e : Env) (l : List Env) : DS (behindIsImport e l) := by
  unfold behindIsImport
  repeat (first | exact .pure _ | exact .unsup _ | exact ds_stack | exact ds_field _ _ | (refine .bnd (fun _ => ?_) ?_) | split)
theorem ds_kept (e : Env) (b : Bool) (l : List Env) : DS (keptBack e b l) := by
  unfold keptBack
  repeat (first | exact .pure _ | exact .unsup _ | exact ds_stack | (refine .bnd (fun _ => ?_) ?_) | split | unfold underTheClaimsCaller)
theorem ds_ready : ∀ l : List Env, DS (readyFrames l)
  | [] => by unfold readyFrames; exact .pure _
  | e :: l => by
    unfold readyFrames
    split
    · refine .bnd (fun o => ?_) (.load fun o => .pure o)
      split
      · exact .pure _
      · refine .bnd (fun i => ?_) (ds_behind _ _)
        refine .bnd (fun b => ?_) (ds_kept _ _ _)
        refine .bnd (fun _ => ds_ready l) (.update (fun o => kpR_slots) (.pure _))
    · exact .unsup _
theorem ds_frameOf (e : Env) : DS (PySem.frameOf e) := by
  unfold PySem.frameOf
  refine .bnd (fun l => ?_) ds_frameEnvs
  refine .bnd (fun o => ?_) ?_
  · split <;> first | exact .pure _ | exact .unsup _
  · unfold frameObject
    split
    · exact .pure _
    · exact .bnd (fun _ => .pure _) (ds_ready _)
theorem ds_place (f : Addr) (b : Bool) : DS (entryPlaceOf f b) := by
  unfold entryPlaceOf
  refine .bnd (fun l => ?_) ds_stack
  split <;> exact .pure _
theorem ds_newFields (ty : String) (vs : List Value) : DS (newFields ty vs) := by
  have as : DS (newObjAsIs (.type ty) (.fields vs.toArray)) := by
    unfold newObjAsIs
    refine .bnd (fun a => ?_) (.alloc fun a => .pure a)
    exact .pure _
  unfold newFields newObj
  dsimp only
  split
  · exact .bnd (fun _ => as) (.unsup _)
  · exact as
theorem ds_tail (v hd fl : Value) (e : Env) (f : Addr) (b : Bool) : DS (do let x ← PySem.frameOf e; let y ← entryPlaceOf f b; let z ← EntryCells.newEntry hd x .none fl .none y; setField v 1 z) := by
  refine .bnd (fun x => ?_) (ds_frameOf e)
  refine .bnd (fun y => ?_) (ds_place _ _)
  refine .bnd (fun z => ds_setField _ _ _ (.inl rfl)) ?_
  unfold EntryCells.newEntry
  exact ds_newFields _ _
theorem ds_note (v : Value) (e : Env) : DS (noteFrame v e) := by
  unfold noteFrame
  split
  · refine .bnd (fun hd => ?_) (ds_field v 1)
    split
    · refine .bnd (fun x => ?_) (ds_field _ 3)
      split
      · exact .pure _
      · exact .bnd (fun _ => ds_tail v hd _ e _ _) (ds_setField _ _ _ (.inr rfl))
    · exact ds_tail v hd _ e _ _
  · exact .unsup _
theorem ds_leaving (v : Value) (e : Env) : DS (leaving e v) := by
  unfold leaving
  exact .bnd (fun _ => ds_setFlight v none) (ds_note v e)
end L2
namespace Tx
open PySem PySem.Builtin.Str PySem.NumText
theorem slice_sg (z : Str) (k : Nat) : sg (Txt.slice z (some (k : Int)) none) = (sg z).drop k := by
  by_cases h : (k : Int) ≤ z.length
  · rw [PyProof.Rows.slice_from_eq (b := z.length) (by omega) h rfl]
    show ((sg z).drop ((k : Int)).toNat).take _ = _
    rw [show ((k : Int)).toNat = k from rfl]
    exact List.take_of_length_le (by rw [List.length_drop, ← sg_len]; omega)
  · rw [PyProof.Rows.slice_beyond (by omega)]
    rw [List.drop_eq_nil_of_le (by rw [← sg_len]; omega)]
    rfl
def dg (w : List Nat) : Bool := w.all fun c => decide (48 ≤ c ∧ c ≤ 57)
theorem dg_iff {w : List Nat} : dg w = true ↔ AllDigits w := by
  unfold dg AllDigits
  rw [List.all_eq_true]
  exact ⟨fun h c hc => of_decide_eq_true (h c hc), fun h c hc => decide_eq_true (h c hc)⟩
def keyR (w : List Nat) (D : Nat) : Option Nat := if 0 < w.length ∧ w.length ≤ 9 ∧ dg w = true ∧ digitsVal w < 2 ^ D then some (digitsVal w) else none
inductive Stp where
  | put (k : Nat) (v : Str)
  | cut (k : Nat)
def putL : List Nat := [112, 117, 116, 32]
def cutL : List Nat := [99, 117, 116, 32]
theorem put_sg : sg "put " = putL := by decide +kernel
theorem cut_sg : sg "cut " = cutL := by decide +kernel
def readB (b : List Nat) (D : Nat) : Option (Option Stp) :=
  if b = [] ∨ [35].isPrefixOf b = true then some none
  else if putL.isPrefixOf b = true then
    (if 32 ∈ b.drop 4 then (keyR ((b.drop 4).takeWhile (· != 32)) D).map fun k => some (.put k ⟨(((b.drop 4).dropWhile (· != 32)).drop 1).toArray⟩) else none)
  else if cutL.isPrefixOf b = true then (keyR ((b.drop 4).reverse.dropWhile (· == 32)).reverse D).map fun k => some (.cut k)
  else none
def readR (z : Str) (D : Nat) : Option (Option Stp) := readB ((sg z).dropWhile (· == 32)) D
theorem dw_rep {n c : Nat} {l : List Nat} (hc : c ≠ 32) : (List.replicate n 32 ++ c :: l).dropWhile (· == 32) = c :: l := by
  induction n with
  | zero => rw [List.replicate_zero, List.nil_append, List.dropWhile_cons_of_neg (by simpa using hc)]
  | succ n ih => rw [List.replicate_succ, List.cons_append, List.dropWhile_cons_of_pos (by simp)]; exact ih
theorem dw_rep0 {n : Nat} : (List.replicate n 32).dropWhile (· == 32) = [] := by
  induction n with
  | zero => rfl
  | succ n ih => rw [List.replicate_succ, List.dropWhile_cons_of_pos (by simp)]; exact ih
theorem tw_no {a b : List Nat} (h : 32 ∉ a) : (a ++ 32 :: b).takeWhile (· != 32) = a ∧ (a ++ 32 :: b).dropWhile (· != 32) = 32 :: b := by
  induction a with
  | nil => exact ⟨by rw [List.nil_append, List.takeWhile_cons_of_neg (by simp)], by rw [List.nil_append, List.dropWhile_cons_of_neg (by simp)]⟩
  | cons c a ih =>
    have hc : c ≠ 32 := fun e => h (e ▸ List.mem_cons_self)
    obtain ⟨i1, i2⟩ := ih fun e => h (List.mem_cons_of_mem _ e)
    exact ⟨by rw [List.cons_append, List.takeWhile_cons_of_pos (by simpa using hc), i1], by rw [List.cons_append, List.dropWhile_cons_of_pos (by simpa using hc), i2]⟩
theorem dig_no32 {w : List Nat} (h : AllDigits w) : 32 ∉ w := fun m => by have := h 32 m; omega
theorem read_empty {n D : Nat} {z : Str} (h : sg z = List.replicate n 32) : readR z D = some none := by
  unfold readR; rw [h, dw_rep0]; rfl
theorem read_remark {n D : Nat} {z : Str} {l : List Nat} (h : sg z = List.replicate n 32 ++ 35 :: l) : readR z D = some none := by
  unfold readR; rw [h, dw_rep (by decide)]; unfold readB; rw [if_pos (Or.inr (by simp [List.isPrefixOf]))]
theorem read_put {n D : Nat} {z v : Str} {w : List Nat} (hw : AllDigits w) (h : sg z = List.replicate n 32 ++ (putL ++ (w ++ 32 :: sg v))) : readR z D = (keyR w D).map fun k => some (.put k v) := by
  unfold readR; rw [h]
  show readB ((List.replicate n 32 ++ 112 :: (117 :: 116 :: 32 :: (w ++ 32 :: sg v))).dropWhile (· == 32)) D = _
  rw [dw_rep (by decide)]
  obtain ⟨t1, t2⟩ := tw_no (a := w) (b := sg v) (dig_no32 hw)
  unfold readB
  rw [if_neg (by simp [List.isPrefixOf]), if_pos (by simp [List.isPrefixOf, putL])]
  show (if 32 ∈ (w ++ 32 :: sg v) then _ else _) = _
  rw [if_pos (by simp)]
  show (keyR ((w ++ 32 :: sg v).takeWhile (· != 32)) D).map (fun k => some (Stp.put k ⟨(((w ++ 32 :: sg v).dropWhile (· != 32)).drop 1).toArray⟩)) = _
  rw [t1, t2]
  have e : (⟨((32 :: sg v).drop 1).toArray⟩ : Str) = v := sg_inj (by simp)
  rw [e]
theorem rs_dig {w : List Nat} {m : Nat} (hw : AllDigits w) : ((w ++ List.replicate m 32).reverse.dropWhile (· == 32)).reverse = w := by
  rw [List.reverse_append, List.reverse_replicate]
  cases hr : w.reverse with
  | nil =>
    have : w = [] := List.reverse_eq_nil_iff.mp hr
    rw [List.append_nil, dw_rep0, this]; rfl
  | cons c l =>
    have hc : c ∈ w := by rw [← List.mem_reverse, hr]; exact List.mem_cons_self
    have := hw c hc
    rw [dw_rep (by omega), ← hr, List.reverse_reverse]
theorem read_cut {n m D : Nat} {z : Str} {w : List Nat} (hw : AllDigits w) (h : sg z = List.replicate n 32 ++ (cutL ++ (w ++ List.replicate m 32))) : readR z D = (keyR w D).map fun k => some (.cut k) := by
  unfold readR; rw [h]
  show readB ((List.replicate n 32 ++ 99 :: (117 :: 116 :: 32 :: (w ++ List.replicate m 32))).dropWhile (· == 32)) D = _
  rw [dw_rep (by decide)]
  unfold readB
  rw [if_neg (by simp [List.isPrefixOf]), if_neg (by simp [List.isPrefixOf, putL]), if_pos (by simp [List.isPrefixOf, cutL])]
  show (keyR ((w ++ List.replicate m 32).reverse.dropWhile (· == 32)).reverse D).map _ = _
  rw [rs_dig hw]
theorem num_sg (m : Nat) : sg (Str.ofString (toString ((m : Nat) : Int))) = (Nat.toDigits 10 m).map Char.toNat := PySem.W.KIN.signs_num m
theorem num_dig (m : Nat) : AllDigits ((Nat.toDigits 10 m).map Char.toNat) := fun c hc => by
  obtain ⟨ch, hch, e⟩ := List.mem_map.mp hc
  have r := PyProof.Rows.digit_range (Nat.isDigit_of_mem_toDigits (by decide) (by decide) hch)
  rw [← e]; exact r
theorem val_zeros (k : Nat) (l : List Nat) : digitsVal (List.replicate k 48 ++ l) = digitsVal l := by
  induction k with
  | zero => rfl
  | succ k ih =>
    rw [List.replicate_succ, List.cons_append]
    show List.foldl _ (0 * 10 + (48 - 48)) _ = _
    exact ih
theorem zeros_dig {k : Nat} {l : List Nat} (h : AllDigits l) : AllDigits (List.replicate k 48 ++ l) := fun c hc => by
  rcases List.mem_append.mp hc with z | z
  · rw [(List.mem_replicate.mp z).2]; omega
  · exact h c z
theorem key_num {k m D : Nat} (hl : k + ((Nat.toDigits 10 m).map Char.toNat).length ≤ 9) : keyR (List.replicate k 48 ++ (Nat.toDigits 10 m).map Char.toNat) D = if m < 2 ^ D then some m else none := by
  unfold keyR
  have hv : digitsVal (List.replicate k 48 ++ (Nat.toDigits 10 m).map Char.toNat) = m := by rw [val_zeros, PySem.W.KIN.val_back]
  have hp : 0 < (List.replicate k 48 ++ (Nat.toDigits 10 m).map Char.toNat).length := by
    have := PySem.toDigits_len_ge 10 m
    simp; omega
  rw [hv]
  by_cases c : m < 2 ^ D
  · rw [if_pos ⟨hp, by simpa using hl, dg_iff.mpr (zeros_dig (num_dig m)), c⟩, if_pos c]
  · rw [if_neg (fun z => c z.2.2.2), if_neg c]
end Tx
namespace Tx
open PySem PySem.Builtin.Str PySem.NumText
def badL (w : List Nat) : List (List Nat) :=
  [[112, 117, 116], putL, [99, 117, 116], cutL ++ (w ++ [32, 49]), putL ++ (32 :: (w ++ [32, 97])), [99, 117, 116, 116, 32] ++ w, putL ++ (45 :: (w ++ [32, 97])),
   putL ++ w, [80, 117, 116, 32] ++ (w ++ [32, 97]), putL ++ (w ++ [120, 32, 98]), cutL ++ (List.replicate 9 48 ++ w), [112, 117, 32, 116],
   cutL ++ (32 :: w), putL ++ (43 :: (w ++ [32, 97])), cutL ++ (49 :: 95 :: w)]
theorem key_no {w : List Nat} {D c : Nat} (hc : c ∈ w) (h : ¬ (48 ≤ c ∧ c ≤ 57)) : keyR w D = none := by
  unfold keyR
  exact if_neg fun z => h (dg_iff.mp z.2.2.1 c hc)
theorem b_none {b : List Nat} {D : Nat} (h0 : ¬ (b = [] ∨ [35].isPrefixOf b = true)) (h1 : putL.isPrefixOf b = false) (h2 : cutL.isPrefixOf b = false) : readB b D = none := by
  unfold readB
  rw [if_neg h0, if_neg (by rw [h1]; simp), if_neg (by rw [h2]; simp)]
theorem b_put {l : List Nat} {D : Nat} (h : 32 ∈ l → keyR (l.takeWhile (· != 32)) D = none) : readB (putL ++ l) D = none := by
  unfold readB
  rw [if_neg (by simp [putL, List.isPrefixOf]), if_pos (by simp [putL, List.isPrefixOf])]
  show (if 32 ∈ l then (keyR (l.takeWhile (· != 32)) D).map _ else none) = none
  by_cases c : 32 ∈ l
  · rw [if_pos c, h c]; rfl
  · rw [if_neg c]
theorem b_cut {l : List Nat} {D : Nat} (h : keyR (l.reverse.dropWhile (· == 32)).reverse D = none) : readB (cutL ++ l) D = none := by
  unfold readB
  rw [if_neg (by simp [cutL, List.isPrefixOf]), if_neg (by simp [cutL, putL, List.isPrefixOf]), if_pos (by simp [cutL, List.isPrefixOf])]
  show (keyR (l.reverse.dropWhile (· == 32)).reverse D).map _ = none
  rw [h]; rfl
theorem rs_end {l : List Nat} {c : Nat} (hc : c ≠ 32) : ((l ++ [c]).reverse.dropWhile (· == 32)).reverse = l ++ [c] := by
  rw [List.reverse_append]
  show ((c :: l.reverse).dropWhile (· == 32)).reverse = _
  rw [List.dropWhile_cons_of_neg (by simpa using hc)]
  simp
theorem rs_w {l w : List Nat} (hw : AllDigits w) (hn : w ≠ []) : ((l ++ w).reverse.dropWhile (· == 32)).reverse = l ++ w := by
  obtain ⟨a, c, rfl⟩ : ∃ a c, w = a ++ [c] := ⟨w.dropLast, w.getLast hn, (List.dropLast_concat_getLast hn).symm⟩
  have hc := hw c (by simp)
  rw [← List.append_assoc, rs_end (by omega)]
theorem bad_B {w l : List Nat} {D : Nat} (hw : AllDigits w) (hn : w ≠ []) (h : l ∈ badL w) : readB l D = none := by
  have n32 := dig_no32 hw
  simp only [badL, List.mem_cons, List.not_mem_nil, or_false] at h
  rcases h with rfl | rfl | rfl | rfl | rfl | rfl | rfl | rfl | rfl | rfl | rfl | rfl | rfl | rfl | rfl
  · exact b_none (by decide) (by decide) (by decide)
  · exact b_put (l := []) (fun h => by simp at h)
  · exact b_none (by decide) (by decide) (by decide)
  · refine b_cut ?_
    rw [show w ++ [32, 49] = (w ++ [32]) ++ [49] by simp, rs_end (by decide)]
    exact key_no (c := 32) (by simp) (by omega)
  · refine b_put fun _ => ?_
    rw [List.takeWhile_cons_of_neg (by simp)]
    unfold keyR; exact if_neg (fun z => by simp at z)
  · exact b_none (by simp [List.isPrefixOf]) (by simp [putL, List.isPrefixOf]) (by simp [cutL, List.isPrefixOf])
  · refine b_put fun _ => ?_
    rw [List.takeWhile_cons_of_pos (by simp)]
    exact key_no (c := 45) (by simp) (by omega)
  · exact b_put fun h => absurd h n32
  · exact b_none (by simp [List.isPrefixOf]) (by simp [putL, List.isPrefixOf]) (by simp [cutL, List.isPrefixOf])
  · refine b_put fun _ => ?_
    rw [show w ++ [120, 32, 98] = (w ++ [120]) ++ 32 :: [98] by simp, (tw_no (by simp; exact n32)).1]
    exact key_no (c := 120) (by simp) (by omega)
  · refine b_cut ?_
    rw [rs_w hw hn]
    unfold keyR
    refine if_neg (fun z => ?_)
    have z2 := z.2.1
    rw [List.length_append, List.length_replicate] at z2
    have : 0 < w.length := List.length_pos_iff.mpr hn
    omega
  · exact b_none (by decide) (by decide) (by decide)
  · refine b_cut ?_
    rw [show 32 :: w = [32] ++ w from rfl, rs_w hw hn]
    exact key_no (c := 32) (by simp) (by omega)
  · refine b_put fun _ => ?_
    rw [List.takeWhile_cons_of_pos (by simp)]
    exact key_no (c := 43) (by simp) (by omega)
  · refine b_cut ?_
    rw [show 49 :: 95 :: w = [49, 95] ++ w from rfl, rs_w hw hn]
    exact key_no (c := 95) (by simp) (by omega)
theorem bad_hd {w l : List Nat} (h : l ∈ badL w) : ∃ c r, l = c :: r ∧ c ≠ 32 := by
  simp only [badL, List.mem_cons, List.not_mem_nil, or_false] at h
  rcases h with rfl | rfl | rfl | rfl | rfl | rfl | rfl | rfl | rfl | rfl | rfl | rfl | rfl | rfl | rfl <;> exact ⟨_, _, rfl, by decide⟩
theorem read_bad {n D : Nat} {z : Str} {w l : List Nat} (hw : AllDigits w) (hn : w ≠ []) (h : l ∈ badL w) (hz : sg z = List.replicate n 32 ++ l) : readR z D = none := by
  unfold readR
  obtain ⟨c, r, rfl, hc⟩ := bad_hd h
  rw [hz, dw_rep hc]
  exact bad_B hw hn h
theorem zfill_sg {z : Str} {k : Nat} (hd : AllDigits (sg z)) (hl : (sg z).length ≤ k) : sg (Txt.zfill z (k : Int)) = List.replicate (k - (sg z).length) 48 ++ sg z := by
  unfold Txt.zfill
  by_cases c : (k : Int) ≤ z.length
  · rw [if_pos c]
    rw [sg_len] at c
    rw [show k - (sg z).length = 0 by omega]
    rfl
  · rw [if_neg c]
    unfold zfilled
    have e : sg (padded z (((k : Int)).toNat - z.length) 0 48) = List.replicate (k - (sg z).length) 48 ++ sg z := by
      unfold padded sg
      simp [sg_len]
    split
    · next h =>
      have := hd 43 (by obtain ⟨h1, h2⟩ := Array.getElem?_eq_some_iff.mp h; rw [← h2]; simp)
      omega
    · next h =>
      have := hd 45 (by obtain ⟨h1, h2⟩ := Array.getElem?_eq_some_iff.mp h; rw [← h2]; simp)
      omega
    · exact e
abbrev nl : Str := ⟨#[10]⟩
theorem join_cons (a b : Str) (l : List Str) : sg (Str.join nl (a :: b :: l)) = sg a ++ 10 :: sg (Str.join nl (b :: l)) := by
  show sg (a ++ nl ++ Str.join nl (b :: l)) = _
  rw [sg_app, sg_app, List.append_assoc]
  rfl
theorem tw10 {a b : List Nat} (h : 10 ∉ a) : (a ++ 10 :: b).takeWhile (· != 10) = a ∧ (a ++ 10 :: b).dropWhile (· != 10) = 10 :: b := by
  induction a with
  | nil => exact ⟨by rw [List.nil_append, List.takeWhile_cons_of_neg (by simp)], by rw [List.nil_append, List.dropWhile_cons_of_neg (by simp)]⟩
  | cons c a ih =>
    have hc : c ≠ 10 := fun e => h (e ▸ List.mem_cons_self)
    obtain ⟨i1, i2⟩ := ih fun e => h (List.mem_cons_of_mem _ e)
    exact ⟨by rw [List.cons_append, List.takeWhile_cons_of_pos (by simpa using hc), i1], by rw [List.cons_append, List.dropWhile_cons_of_pos (by simpa using hc), i2]⟩
theorem join_inj : ∀ (l l' : List Str), l ≠ [] → l' ≠ [] → (∀ z ∈ l, 10 ∉ sg z) → (∀ z ∈ l', 10 ∉ sg z) → Str.join nl l = Str.join nl l' → l = l'
  | [], _, h, _, _, _, _ => absurd rfl h
  | _, [], _, h, _, _, _ => absurd rfl h
  | [a], [b], _, _, _, _, h => by rw [show a = b from h]
  | [a], b :: c :: r, _, _, ha, hb, h => by
    have e := congrArg sg h
    rw [join_cons] at e
    have e : sg a = sg b ++ 10 :: sg (Str.join nl (c :: r)) := e
    exact absurd (by rw [e]; simp) (ha a List.mem_cons_self)
  | a :: c :: r, [b], _, _, ha, hb, h => by
    have e := congrArg sg h
    rw [join_cons] at e
    have e : sg a ++ 10 :: sg (Str.join nl (c :: r)) = sg b := e
    exact absurd (by rw [← e]; simp) (hb b List.mem_cons_self)
  | a :: c :: r, b :: d :: t, _, _, ha, hb, h => by
    have e := congrArg sg h
    rw [join_cons, join_cons] at e
    have x1 := tw10 (b := sg (Str.join nl (c :: r))) (ha a List.mem_cons_self)
    have x2 := tw10 (b := sg (Str.join nl (d :: t))) (hb b List.mem_cons_self)
    rw [e] at x1
    have ab : a = b := sg_inj (x1.1.symm.trans x2.1)
    have rest := x1.2.symm.trans x2.2
    injection rest with _ rest
    rw [ab, join_inj (c :: r) (d :: t) (by simp) (by simp) (fun z hz => ha z (List.mem_cons_of_mem _ hz)) (fun z hz => hb z (List.mem_cons_of_mem _ hz)) (sg_inj rest)]
theorem split_join {l : List Str} (hn : l ≠ []) (hf : ∀ z ∈ l, 10 ∉ sg z) : Txt.split (Str.join nl l) nl = l := by
  have hj := StrLaws.join_split (Str.join nl l) nl
  refine join_inj _ _ (fun e => ?_) hn (fun z hz => StrLaws.split_free _ 10 z hz) hf hj
  have hy : (nl.length == 0) = false := rfl
  unfold Txt.split at e
  split at e
  · cases e
  · split at e
    · cases e
    · obtain ⟨p, r, h⟩ := StrLaws.partsFrom_ne (Str.join nl l) nl.length 0 (occurrences (Str.join nl l) nl 0 (Str.join nl l).length ((Str.join nl l).length + 1))
      rw [StrLaws.partsBetween_eq, h] at e
      cases e
end Tx
namespace L2
open PySem PySem.Spec PyProof.Rows
theorem range_all : ∀ (bs : List Bool), (List.range bs.length).all (fun i => bs.getD i false) = bs.all id := fun bs => by
  rw [Bool.eq_iff_iff, List.all_eq_true, List.all_eq_true]
  constructor
  · intro h b hb
    obtain ⟨i, hi⟩ := List.getElem?_of_mem hb
    have hl := (List.getElem?_eq_some_iff.mp hi).1
    have := h i (List.mem_range.mpr hl)
    rw [List.getD_eq_getElem?_getD, hi] at this
    exact this
  · intro h i hi
    have hl := List.mem_range.mp hi
    rw [List.getD_eq_getElem?_getD, List.getElem?_eq_getElem hl]
    exact h _ (List.getElem_mem hl)
theorem call_all {X : Cx} (hc : X.calm = true) : CallR X (.builtin "all") (fun xs H Q => ∃ (p : Addr) (bs : List Bool), xs = [.ref p] ∧ SqL X.K H p (bs.map V.bl) ∧ Q (.bl (bs.all id)) H) := by
  intro pins s σ H xs us Q I r h
  obtain ⟨p, bs, rfl, hq, q⟩ := h
  obtain ⟨u, rfl, ru⟩ := vals1 r
  obtain rfl : u = Value.ref p := ru
  obtain ⟨its, rv, pl, hz⟩ := I.list hq
  have hl : its.length = bs.length := by have := rv.length; rw [List.length_map] at this; exact this.symm
  have hp : p < s.heap.objs.size := by obtain ⟨o, e, _⟩ := pl.isList; exact Heap.lt_size e
  obtain ⟨f0, f1, f2, f3, f4, f5⟩ := I.fpOk (Nat.le_refl _) (I.hok.fresh (Nat.le_refl _))
  refine call_all_walk (wpAny_pyIter_list pl.isList ?_)
  refine ⟨s.heap.objs.size, _, _, _, _, _, fun i => bs.getD i false, rfl, Walks.list (A := X.A.in1) (I.ok.hd hc) s.heap.objs.size p (Nat.ne_of_lt hp) its.toArray, ⟨⟨_, Heap.get?_push_size _ rfl, rfl, rfl⟩, pl.isList.at fun o e => Heap.get?_push_of_some _ e⟩, ?_, ?_⟩
  · intro i v s1 Q1 E1 hv hQ
    have hv' : its[i]? = some v := by simpa using hv
    have hi : i < bs.length := by rw [← hl]; exact (List.getElem?_eq_some_iff.mp hv').1
    obtain ⟨u, hu, ru⟩ := rv.get (i := i) (x := .bl bs[i]) (by rw [List.getElem?_map, List.getElem?_eq_getElem hi]; rfl)
    rw [hv'] at hu
    cases hu
    obtain rfl : v = Value.bool bs[i] := ru
    have e : bs.getD i false = bs[i] := by rw [List.getD_eq_getElem?_getD, List.getElem?_eq_getElem hi]; rfl
    dsimp only at hQ
    rw [e] at hQ
    exact wpAny_truthy_bool hQ
  · intro h' tk k
    have I2 : Inv X pins σ H { s with heap := h', toks := tk } := I.turned (it := s.heap.objs.size) (fun b o hb e => k b o (by simpa using hb) (Heap.get?_push_of_some _ e)) f0 f1 f3 f4 f5
    refine ⟨.bl _, H, I2, rfl, ?_⟩
    rw [List.size_toArray, hl, range_all]
    exact q
end L2
namespace L2
open PySem PySem.Spec PyProof.Rows
abbrev excO (C t : Addr) : Obj := { cls := .ref C, data := .fields #[.ref t, .none, .none, .none, .bool false, .none] }
abbrev tupO (vs : List Value) : Obj := { cls := .type "tuple", data := .seq vs.toArray }
abbrev newH (h : Heap) (C : Addr) (vs : List Value) : Heap := (h.push (tupO vs)).push (excO C h.objs.size)
section
variable {prog : Program} {w : World} {A : Around} {E : Value → Shared → Prop} {h : Heap} {g : Array GenState} {d : Drawn} {t : Nat} {os : OsState}
variable {nm q : Str} {C N fi : Addr} {bs bm bmB : List Value} {hdct : Bool} {sn : List Str} {sub : List Value} {ab : Bool} {col : Option Bool} {dd : Option Addr} {k0 k1 k2 k3 k5 : Option Value} {B Bn newId nid initId inN : String} {bmN : List Value} {fo : Obj}
theorem type_call_own (Fn : ExcBaseFacts Bn newId inN bmN) (hBn : bmB.contains (.type Bn) = true) (F : ExcBaseFacts B nid initId bmB) (T : OwnTail h bmB bm) {mN : Str → Option Value} {vs : List Value} {Q : Fin → Shared → Prop}
    (hC : h.get? C = some (excClassObj nm q C N bs bm hdct sn sub ab col dd k0 k1 k2 k3 k5 newId)) (hn : h.Ns N mN) (hi : mN "__init__" = some (.ref fi)) (hf : h.get? fi = some fo) (hfc : fo.cls = .type "function") (hvs : vs.length ≤ sizeLine)
    (hq : wpAny (model prog w) A (call (.ref fi) (.ref (h.objs.size + 1) :: vs)) (fun v s' => v = .none ∧ Q (.done (.ret (.ref (h.objs.size + 1)))) s') E ⟨newH h C vs, g, d, t, os⟩) :
    wpAny (model prog w) A (Builtin.«type.__call__» ⟨.ref C :: vs, []⟩) Q E ⟨h, g, d, t, os⟩ := by
  repeat first | (with_reducible refine wpAny_loadPart_at hC ?_) | (with_reducible refine wpAny_madeBy_exc hC ?_) | wp_step
  refine codeAny_call_builtin_code (Code.quiet_builtin _ Fn.quiet) ?_
  refine wpAny_check_new_subU Fn hBn T hC ?_
  refine codeAny_exc_new_subU Fn hBn F T hC ?_ hvs
  show wpAny (model prog w) _ _ _ _ _
  have keep : ∀ b o, h.get? b = some o → (newH h C vs).get? b = some o := fun b o e => Heap.get?_push_of_some _ (Heap.get?_push_of_some _ e)
  have hC1 := keep _ _ hC
  have hn1 : (newH h C vs).Ns N mN := by
    obtain ⟨o, es, ep, e, r⟩ := hn
    exact ⟨o, es, ep, keep _ _ e, r⟩
  have he : (newH h C vs).get? (h.objs.size + 1) = some (excO C h.objs.size) := by
    have := Heap.get?_push_size (h.push (tupO vs)) (o := excO C h.objs.size) rfl
    rwa [Heap.size_push] at this
  have hcC : (Value.ref C :: bm).contains (.ref C) = true := by simp
  have T1 := T.keeps (h' := newH h C vs) keep
  unfold isInstance
  repeat first | (with_reducible refine wpAny_loadPart_at he ?_) | ((with_reducible refine wpAny_isSubtype_exc hC1 ?_); rw [hcC]) | wp_step
  show wpAny (model prog w) _ (typeLookup (.ref C) _) _ _ _
  refine wpAny_typeLookup_tail hC1 hn1 T1 F.mroIs F.init.lookup ?_
  rw [hi]
  refine wpAny_holding (wpAny_bind (wpAny_bindSpecial_def (s := ⟨newH h C vs, g, d, t, os⟩) (keep _ _ hf) hfc ?_))
  refine wpAny_bind (wpAny_mono hq (fun v s' z => ?_) fun _ _ z => z)
  obtain ⟨rfl, z⟩ := z
  obtain ⟨h2, g2, d2, t2, os2⟩ := s'
  wp_walk
  exact z
theorem call_exc_own (Fn : ExcBaseFacts Bn newId inN bmN) (hBn : bmB.contains (.type Bn) = true) (F : ExcBaseFacts B nid initId bmB) (T : OwnTail h bmB bm) {mN : Str → Option Value} {vs : List Value} {Q : Value → Shared → Prop}
    (hC : h.get? C = some (excClassObj nm q C N bs bm hdct sn sub ab col dd k0 k1 k2 k3 k5 newId)) (hn : h.Ns N mN) (hi : mN "__init__" = some (.ref fi)) (hf : h.get? fi = some fo) (hfc : fo.cls = .type "function") (hvs : vs.length ≤ sizeLine)
    (hq : wpAny (model prog w) (A.under (.builtin "type.__call__" ⟨.ref C :: vs, []⟩)) (call (.ref fi) (.ref (h.objs.size + 1) :: vs)) (fun v s' => v = .none ∧ Q (.ref (h.objs.size + 1)) s') E ⟨newH h C vs, g, d, t, os⟩) :
    wpAny (model prog w) A (call (.ref C) vs) Q E ⟨h, g, d, t, os⟩ := by
  have f1 := tc_lookup
  have f2 := tc_bind (.ref C)
  have hT : (⟨h, g, d, t, os⟩ : Shared).TypeIs (.ref C) "type" := ⟨_, hC, rfl⟩
  refine wpAny_call (codeAny_of_tree (?_ : wpAny (model prog w) _ (callAny (.ref C) _) _ _ _))
  repeat any_goals first | assumption | (with_reducible refine wpAny_loadPart_at hC ?_) | wp_step
  refine ⟨rfl, ?_⟩
  refine codeAny_call_builtin_at (Code.quiet_builtin _ (by decide +kernel)) entry_typeCall (wpAny_check_type_call_sub hC ?_)
  refine type_call_own Fn hBn F T hC hn hi hf hfc hvs ?_
  exact hq
end
end L2
namespace L2
open PySem PySem.Spec PyProof.Rows
section
variable {prog : Program} {w : World} {A : Around} {E : Value → Shared → Prop} {s : Shared} {K : PySem.W.Frag} {x C : Addr} {cd : ClassData} {vs : Array Value} {name : Str} {v : Value}
theorem set_exc {Q : Unit → Shared → Prop} (X : K.In s.heap) (hx : s.heap.get? x = some ⟨.ref C, none, .fields vs, #[]⟩) (hc : PySem.W.clsIn K C = some cd) (hh : cd.hasDict = true)
    (mo : PySem.W.mroIn K C (.type "object") = some true) (hl : refuseLoop (.ref x) "__setattr__" cd.mro = pure ()) (hs : PySem.W.findIn K (.ref C) "__setattr__" = some (some (.builtin "object.__setattr__"))) (ht : PySem.W.findIn K (.ref C) name = some none)
    (h : ∀ h' d t', h'.get? x = some ⟨.ref C, some d, .fields vs, #[]⟩ → h'.Ns1 d (fun y => if y = name then some v else none) → s.heap.objs.size ≤ d → (∀ b o, b ≠ x → s.heap.get? b = some o → h'.get? b = some o) → Q () { s with heap := h', toks := t' }) :
    wpAny (model prog w) A (setAttr (.ref x) name v) Q E s := by
  have I : PySem.W.InstAt s.heap x ⟨.ref C, none, .fields vs, #[]⟩ C none := ⟨hx, rfl, rfl, trivial⟩
  have SO := PySem.F.store_object
  refine PySem.W.set_plain X I hs ?_
  have isO : PySem.W.Looks (model prog w) s.heap (isInstance (.ref x) (.type "object")) true := I.type.andThen (PySem.W.looks_mroIn X mo)
  have mro : PySem.W.Looks (model prog w) s.heap (mroOf (.ref C)) cd.mro := (PySem.W.looks_clsIn X hc).andThen .now
  have ag : argsOk "object.__setattr__" ⟨[.ref x, .str name s.toks, v], []⟩ := SO.args (.ref x) (.str name s.toks) v
  refine codeAny_call_builtin SO.slot.plain SO.entry (PySem.W.check_slot (i := "object.__setattr__") (owner := "object") (n := "__setattr__") (self := .ref x)
    (rest := [.str name s.toks, v]) (kw := []) (s := { s with toks := s.toks + 1 }) SO.kind SO.split isO ag ?_)
  rw [PySem.W.osa_eq, refuse_eq]
  refine wpAny_bind (wpAny_bind (I.type _ _ _ _ (fun _ _ e => e) (wpAny_bind (mro _ _ _ _ (fun _ _ e => e) ?_))))
  rw [hl]
  refine wpAny_pure (wpAny_bind (I.type _ _ _ _ (fun _ _ e => e) (wpAny_bind (PySem.W.looks_findIn X ht _ _ _ _ (fun _ _ e => e) ?_))))
  refine wpAny_bind (wpAny_pure ?_)
  refine wpAny_bind (wpAny_pure (wpAny_bind (wpAny_bind (wpAny_loadPart (s := { s with toks := s.toks + 1 }) hx ?_))))
  refine wpAny_bind (PySem.W.looks_clsIn X hc _ _ _ _ (fun _ _ e => e) ?_)
  rw [hh]
  show wpAny (model prog w) A.in1 (alloc { cls := .type "dict", data := .dict #[] } >>= fun d => update x (fun o => { o with dict := some d }) >>= fun _ => dictMade (.ref C) x d) _ _ _
  have lt := Heap.lt_size hx
  have nx : x ≠ s.heap.objs.size := Nat.ne_of_lt lt
  refine wpAny_bind (wpAny_alloc ?_)
  have hx1 : (s.heap.push { cls := .type "dict", data := .dict #[] }).get? x = some ⟨.ref C, none, .fields vs, #[]⟩ := Heap.get?_push_of_some _ hx
  refine wpAny_bind (wpAny_update hx1 (wpAny_pure ?_))
  have hd : ((s.heap.push { cls := .type "dict", data := .dict #[] }).update x fun o => { o with dict := some s.heap.objs.size }).get? s.heap.objs.size = some { cls := .type "dict", data := .dict #[] } :=
    (Heap.get?_update_other _ _ nx).trans (Heap.get?_push_size _ rfl)
  have hn : ((s.heap.push { cls := .type "dict", data := .dict #[] }).update x fun o => { o with dict := some s.heap.objs.size }).Ns s.heap.objs.size (fun _ => none) :=
    ⟨_, #[], _, hd, rfl, fun e he => absurd he (by simp), fun _ => rfl⟩
  show wpAny (model prog w) A.in1 (Builtin.ObjectAttr.storeInDict s.heap.objs.size (.str name s.toks) name v) _ _ _
  unfold Builtin.ObjectAttr.storeInDict Builtin.ObjectAttr.newKeyGuard
  refine wpAny_bind (wpAny_pure (wpAny_bind (wpAny_nsSet1 (.of_empty hn) fun h2 n2 s2 => ?_)))
  obtain ⟨oD, es, ep, ho, hd2, hk⟩ := n2.count (Within.cons name v Within.nil)
  have fits : oD.data.pastItsLine = none := by
    rw [hd2]
    exact pastItsLine_dict (Nat.le_trans hk (by show 1 ≤ sizeLine + 1; decide))
  refine wpAny_bind (wpAny_lookBehind ho fits ?_)
  wp_walk
  refine h h2 s.heap.objs.size _ ?_ n2 (Nat.le_refl _) fun b o hb e => ?_
  · exact (s2.2 x nx).trans (Heap.get?_update_self _ hx1 rfl)
  · exact (s2.2 b (Nat.ne_of_lt (Heap.lt_size e))).trans ((Heap.get?_update_other _ _ (Ne.symm hb)).trans (Heap.get?_push_of_some _ e))
end
end L2
namespace L2
open PySem PySem.Spec PyProof.Rows
section
variable {X : Cx}
theorem pe_fstr {a b : Str} {ja jb : Nat} {pa pb pv' pos : Pos} {e : Expr} {te : TE} (he : PE X e te) (hab : a.length + b.length ≤ 1000) : PE X (.JoinedStr [.Constant (.str a) ja pa, .FormattedValue e (-1) none pv', .Constant (.str b) jb pb] pos)
    (fun σ H Q => te σ H fun x H1 => ∃ i : Int, x = .int i ∧ i.natAbs.log2 < 1920 ∧ ∀ z, z.length ≤ sizeLine → Q (.str z) H1) := by
  intro pins s σ H Q I h
  refine wpAny_JoinedStr ?_
  have hz : sizeLine = 16777216 := sizeLine_eq
  have l0 : (Str.empty : Str).length = 0 := rfl
  show wpAny (model X.prog X.w) X.A (eval (.Constant (.str a) ja pa) X.env) _ X.xe s
  refine Calls.Constant_str ⟨a, _, rfl, by rw [strLen_append, l0, hz]; omega, ?_⟩
  show wpAny (model X.prog X.w) X.A (eval (.FormattedValue e (-1) none pv') X.env) _ X.xe _
  refine wpAny_FormattedValue_plain (thn (he pins _ σ H _ (I.tok _) h) fun v s1 ⟨x, H1, I1, r1, i, ex, hi, q⟩ => ?_)
  subst ex
  obtain ⟨t, rfl⟩ := r1
  have li := int_text_len_1921 hi
  refine wpAny_formatField_int hi ⟨_, _, rfl, by rw [strLen_append, strLen_append, l0, hz]; omega, ?_⟩
  show wpAny (model X.prog X.w) X.A (eval (.Constant (.str b) jb pb) X.env) _ X.xe _
  have lz : ((Str.empty ++ a ++ Str.ofString (toString i)) ++ b).length ≤ sizeLine := by
    rw [strLen_append, strLen_append, strLen_append, l0, hz]; omega
  refine Calls.Constant_str ⟨b, _, rfl, lz, lz, ?_⟩
  exact ⟨.str _, H1, I1.tok _, ⟨_, rfl⟩, q _ lz⟩
def Ex0 (C e : Addr) : Heap → Prop := fun h => ∃ t, h.get? e = some (excO C t)
def Ex1 (C e d : Addr) : Heap → Prop := fun h => ∃ t, h.get? e = some { excO C t with dict := some d }
def RowO (name : Str) (v : V) (od : Obj) : Prop := ∀ (h : Heap) (d : Addr), h.get? d = some od → ∃ m u, h.Ns1 d m ∧ m name = some u ∧ RelV v u
structure XSet (K : PySem.W.Frag) (C : Addr) (name : Str) : Prop where
  ex : ∃ cd, PySem.W.clsIn K C = some cd ∧ cd.hasDict = true ∧ ∀ x, refuseLoop (.ref x) "__setattr__" cd.mro = pure ()
  mo : PySem.W.mroIn K C (.type "object") = some true
  sa : PySem.W.findIn K (.ref C) "__setattr__" = some (some (.builtin "object.__setattr__"))
  no : PySem.W.findIn K (.ref C) name = some none
def sXrow (C : Addr) (name : Str) (ta tv : TE) : TS := fun D σ H => tv σ H fun v H1 => ta σ H1 fun x H2 => ∃ e, x = .ref e ∧ H2 e = some (.ext (Ex0 C e)) ∧
  ∀ d od, H2 d = none → RowO name v od → D.nx σ (upd (upd H2 e (.ext (Ex1 C e d))) d (.frz od (.own 0)))
theorem ps_xrow {C : Addr} {o value : Expr} {f : Str} {ta tv : TE} {pos pos' : Pos} (T : XSet X.K C f) (ha : PE X o ta) (hv : PE X value tv) (hs : swapsWith value (some (.Attribute o f pos')) pos.line X.env = pure false) :
    PS X (.Assign [.Attribute o f pos'] value pos) (sXrow C f ta tv) := by
  intro pins s σ H D I h
  refine plainObj_wpAny_Assign_Attribute (thn (hv pins s σ H _ I h) fun u s1 ⟨y, H1, I1, ry, q⟩ => thn (ha pins s1 σ H1 _ I1 q) fun ov s2 ⟨x, H2, I2, rx, e, ex, he, q2⟩ => ?_) hs
  subst ex
  obtain rfl : ov = Value.ref e := rx
  obtain ⟨⟨t, ht⟩, _, _⟩ := I2.hok _ _ he
  obtain ⟨cd, hc, hh, hl⟩ := T.ex
  refine set_exc I2.kIn ht hc hh T.mo (hl e) T.sa T.no fun h' d t' hx n nsz k => ?_
  have nd : s2.heap.get? d = none := Heap.get?_none_of_le nsz
  have I3 : Inv X pins σ (upd H2 e (.ext (Ex1 C e d))) { s2 with heap := h', toks := t' } := by
    refine I2.write (x := e) (e := e) (by rw [he]; trivial) (.inl rfl) (fun b w hb z => k b w hb z) ⟨_, hx⟩ ⟨⟨t, hx⟩, ⟨_, hx⟩, fun h1 h2 ⟨t1, z⟩ kk => ⟨t1, kk _ z⟩⟩
  obtain ⟨od, es, ep, e1, e2, e3, e4, e5⟩ := id n
  have ned : d ≠ e := by rintro rfl; rw [ht] at nd; cases nd
  have h0 : H2 d = none := by
    cases z : H2 d with
    | none => rfl
    | some w' => obtain ⟨ob, zb⟩ := (I2.hok _ _ z).there; rw [nd] at zb; cases zb
  have I4 := I3.track' (a := d) (o := od) e1 (by rw [upd_ne ned]; exact h0) ?_ ?_ ?_ ?_
  · refine ⟨σ, _, I4, q2 d od h0 fun h3 d3 z3 => ⟨_, u, ⟨od, es, ep, z3, e2, e3, e4, e5⟩, by simp, ry⟩⟩
  · rintro rfl
    obtain ⟨m, ⟨o, _, _, z, _⟩, _⟩ := I2.loc
    rw [nd] at z; cases z
  · rintro y c z rfl
    obtain ⟨_, o, z2, _⟩ := I2.cell y _ z
    rw [nd] at z2; cases z2
  · rintro p hp rfl
    have z := (I2.pin p hp).1
    rw [nd] at z; cases z
  · exact Heap.get?_none_of_le (Nat.le_trans I2.sz nsz)
end
end L2
namespace L2
open PySem PySem.Spec PyProof.Rows
abbrev bmVal : List Value := [.type "ValueError", .type "Exception", .type "BaseException", .type "object"]
structure XOwn (K : PySem.W.Frag) (C : Addr) : Prop where
  ex : ∃ (nm q : Str) (N : Addr) (bs bm : List Value) (hdct : Bool) (sn : List Str) (sub : List Value) (ab : Bool) (col : Option Bool) (dd : Option Addr) (k0 k1 k2 k3 k5 : Option Value),
    K.lookup C = some (excClassObj nm q C N bs bm hdct sn sub ab col dd k0 k1 k2 k3 k5 "ValueError.__new__") ∧ tailQ K bmVal bm = true ∧ bm.contains (Value.type "BaseException") = true
theorem upd_id {H : Hp} {a : Addr} {o : HO} (h : H a = some o) : upd H a o = H := by
  funext b
  unfold upd
  split
  · next e => rw [e, h]
  · rfl
section
variable {X : Cx} {C : Addr}
theorem call_xinit (T : XOwn X.K C) : CallR X (.builtin "ValueError.__init__") (fun xs H Q => ∃ e z, xs = [.ref e, .str z] ∧ H e = some (.ext (Ex0 C e)) ∧ Q .non H) := by
  intro pins s σ H xs us Q I r h
  obtain ⟨e, z, rfl, he, q⟩ := h
  obtain ⟨u, w', rfl, ru, rz⟩ := vals2 r
  obtain rfl : u = Value.ref e := ru
  obtain ⟨tz, rfl⟩ := rz
  obtain ⟨⟨t, ht⟩, _, _⟩ := I.hok _ _ he
  obtain ⟨nm, q', N, bs, bm, hdct, sn, sub, ab, col, dd, k0, k1, k2, k3, k5, lk, tl, has⟩ := T.ex
  have XK := I.kIn
  have hC := XK _ _ lk
  have tail := (tailQ.ok XK tl).tail
  have F := F.excBase_ValueError
  have done : ∀ h' tk', (∀ b o, b ≠ e → s.heap.get? b = some o → h'.get? b = some o) → (∃ t', h'.get? e = some (excO C t')) → EP X pins σ Q .none { s with heap := h', toks := tk' } := fun h' tk' k ⟨t', z'⟩ => by
    have I' : Inv X pins σ (upd H e (.ext (Ex0 C e))) { s with heap := h', toks := tk' } :=
      I.write (x := e) (e := e) (by rw [he]; trivial) (.inl rfl) (fun b w hb y => k b w hb y) ⟨_, z'⟩ ⟨⟨t', z'⟩, ⟨_, z'⟩, fun h1 h2 ⟨t1, y⟩ kk => ⟨t1, kk _ y⟩⟩
    rw [upd_id he] at I'
    exact ⟨.non, H, I', rfl, q⟩
  obtain ⟨hp, g, d, tk, os⟩ := s
  refine wpAny_call (codeAny_call_builtin F.init.plain F.initEntry (wpAny_check_init_subU F tail hC ht rfl ?_))
  wp_walk
  refine done _ _ (fun b o hb y => ?_) ⟨hp.objs.size, ?_⟩
  · rw [Heap.get?_update_other _ _ (Ne.symm hb)]
    exact Heap.get?_push_of_some _ y
  · rw [Heap.get?_update_self _ (Heap.get?_push_of_some _ ht) rfl]
    rfl
structure ClsRd (K : PySem.W.Frag) (B : Addr) : Prop where
  sp : PySem.W.specialIn K (.ref B) "__getattribute__" = some (some (.builtin "type.__getattribute__"))
  rd : PySem.W.readsIn K B (.type "type") = true
  fc : PySem.W.findCls K (.ref B) (.type "type") "__init__" = some (.val (.builtin "ValueError.__init__"))
theorem pe_xinit {pl : Sem Bool} {x : Str} {B : Addr} {e : Expr} {es : List Expr} {t : TA} {np apos pos : Pos} (T : XOwn X.K C) (R : ClsRd X.K B) (hg : Gl X x) (hm : X.mg x = some (.ref B)) (ha : PA X (e :: es) t) (hdb : (x == ("__debug__" : Str)) = false := by decide)
    (he : starEach (e :: es) X.env = (false, eval e X.env) :: starEach es X.env := by rfl) (hpl : (backTo pos (starEach es X.env)).any (·.1) = false := by rfl)
    (ht : eval (.Call (.Attribute (.Name x np) "__init__" apos) (e :: es) [] pos) X.env = (do
      let ov ← eval (.Name x np) X.env
      standAt apos.atName
      let (f, first) ← holding [ov] (getMethod ov "__init__" pl)
      callWith pos f first (backTo pos (starEach (e :: es) X.env)) (backToKw pos (keywordEach [] X.env))) := by rfl) :
    PE X (.Call (.Attribute (.Name x np) "__init__" apos) (e :: es) [] pos) (tCB (fun xs H Q => ∃ e z, xs = [.ref e, .str z] ∧ H e = some (.ext (Ex0 C e)) ∧ Q .non H) t) := by
  intro pins s σ H Q I h
  refine PySem.W.methodCall_KW (pl := pl) (ld_glob I hg hm ?_ hdb) ht
  refine PySem.W.method_cls I.kIn R.sp (PySem.W.cls_value I.kIn R.rd R.fc rfl ?_)
  exact PyProof.Rows.callWith_builtin1 (thn (ha pos pins _ σ H _ (I.tok _) h) fun us s1 ⟨vs, H1, I1, r1, q1⟩ => call_xinit T pins s1 σ H1 vs us Q I1 r1 q1) he hpl
end
end L2
namespace L2
open PySem PySem.Spec PyProof.Rows
theorem ns_some {K : PySem.W.Frag} {h : Heap} {N : Addr} {m : Str → Option Value} {x : Str} {v : Value} (hk : K.In h) (hm : h.Ns N m) (hv : PySem.W.nsIn K N x = some (some v)) : m x = some v := by
  obtain ⟨ob, es, ep, ho, hd, _, look⟩ := hm
  unfold PySem.W.nsIn at hv
  split at hv
  · next lk =>
    have there := hk _ _ lk
    rw [ho] at there
    cases there
    cases hd
    split at hv
    · next en he =>
      rw [← look x]
      unfold nsFind findBy
      rw [← Array.find?_toList, he]
      simpa using hv
    · split at hv <;> cases hv
  · cases hv
structure XInit (K : PySem.W.Frag) (C fi : Addr) : Prop where
  ex : ∃ (nm q : Str) (N : Addr) (bs bm : List Value) (hdct : Bool) (sn : List Str) (sub : List Value) (ab : Bool) (col : Option Bool) (dd : Option Addr) (k0 k1 k2 k3 k5 : Option Value),
    K.lookup C = some (excClassObj nm q C N bs bm hdct sn sub ab col dd k0 k1 k2 k3 k5 "ValueError.__new__") ∧ tailQ K bmVal bm = true ∧ bm.contains (Value.type "BaseException") = true ∧
    PySem.W.nsOkIn K N = true ∧ PySem.W.nsIn K N "__init__" = some (some (.ref fi))
  fn : ∃ fo, K.lookup fi = some fo ∧ fo.cls = .type "function"
  kp : PySem.W.keepIn K (.ref C) = true
section
variable {X : Cx} {C fi : Addr} {k : Nat} {fd : FuncData} {ps : List Str} {sp : Sp}
theorem run_makeX {pins : List (Addr × Obj)} {σ : St} {H : Hp} {s : Shared} {Q : VK} {us : List Value} {vs : List V} (T : XInit X.K C fi) (F : FnOk X.prog X.w X.K X.mg X.base CX0 k fi fd ps sp) (hr : Room (k + 1) X.A) (hb : Binds X.K fd ps [])
    (I : Inv X pins σ H s) (r : Vals vs us) (hl : us.length ≤ sizeLine) (h : ∀ e, H e = none → X.s₀.heap.get? e = none → sp (.ref e :: vs) (upd H e (.ext (Ex0 C e))) (fun v H2 => v = .non ∧ Q (.ref e) H2) E0) :
    wpAny (model X.prog X.w) X.A (call (.ref C) us) (EP X pins σ Q) X.xe s := by
  obtain ⟨nm, q', N, bs, bm, hdct, sn, sub, ab, col, dd, k0, k1, k2, k3, k5, lk, tl, has, no, ni⟩ := T.ex
  obtain ⟨fo, lf, fc⟩ := T.fn
  have XK := I.kIn
  have tail := (tailQ.ok XK tl).tail
  have FB := PySem.F.excBase_ValueError
  have hn := Heap.Ns.of_isNs (PySem.W.isNs_of_in XK no)
  have hi : s.heap.nsMap N "__init__" = some (.ref fi) := ns_some XK hn ni
  have he : (newH s.heap C us).get? (s.heap.objs.size + 1) = some (excO C s.heap.objs.size) := by
    have := Heap.get?_push_size (s.heap.push (tupO us)) (o := excO C s.heap.objs.size) rfl
    rwa [Heap.size_push] at this
  have I2 : Inv X pins σ (upd H (s.heap.objs.size + 1) (.ext (Ex0 C (s.heap.objs.size + 1)))) { s with heap := newH s.heap C us } :=
    I.laid (t' := s.toks) (fun b o e => Heap.get?_push_of_some _ (Heap.get?_push_of_some _ e)) (Nat.le_succ _) ⟨⟨_, he⟩, ⟨_, he⟩, fun h1 h2 ⟨t1, y⟩ kk => ⟨t1, kk _ y⟩⟩
  have hq := h (s.heap.objs.size + 1) (I.hok.fresh (Nat.le_succ _)) (Heap.get?_none_of_le (Nat.le_trans I.sz (Nat.le_succ _)))
  have r2 : Vals (V.ref (s.heap.objs.size + 1) :: vs) (Value.ref (s.heap.objs.size + 1) :: us) := .cons rfl r
  have hlen : (Value.ref (s.heap.objs.size + 1) :: us ++ []).length = ps.length := by
    have e := r2.length
    rw [F.len _ _ _ _ hq] at e
    rw [List.append_nil]; exact e.symm
  have bd := hb { s with heap := newH s.heap C us } (Value.ref (s.heap.objs.size + 1) :: us) I2.kIn hlen
  rw [List.append_nil] at bd
  obtain ⟨hp, g, d, t, os⟩ := s
  refine call_exc_own FB (by decide) FB tail (XK _ _ lk) hn hi (XK _ _ lf) fc hl ?_
  refine wpAny_call (codeAny_mono (F.run _ X.stack _ _ ⟨Value.ref (hp.objs.size + 1) :: us, []⟩ _ _ _ E0 (hr.make C us []) (I2.env0.make C us []) bd r2 hq) fun r s' hq' => ?_)
  cases r with
  | error e => exact pass0 pins σ _ _ e s' I2 hq'
  | ok fl =>
    cases fl with
    | ret u =>
      obtain ⟨v, H', I3, rv, ev, q3⟩ := I2.after hq'
      subst ev
      exact ⟨rv, V.ref (hp.objs.size + 1), H', I3, rfl, q3⟩
    | next => exact False.elim hq'
    | brk => exact False.elim hq'
    | cont => exact False.elim hq'
end
end L2
namespace L2
open PySem PySem.Spec PyProof.Rows
section
variable {X : Cx} {C fi : Addr} {k : Nat} {fd : FuncData} {ps : List Str} {sp : Sp}
def tMakeX (h0 : Heap) (C : Addr) (sp : Sp) (t : TA) : TE := fun σ H Q => t σ H fun vs H1 => vs.length ≤ 1000 ∧ ∀ e, H1 e = none → h0.get? e = none → sp (.ref e :: vs) (upd H1 e (.ext (Ex0 C e))) (fun v H2 => v = .non ∧ Q (.ref e) H2) E0
theorem pe_makeX {x : Str} {e : Expr} {es : List Expr} {t : TA} {p pos : Pos} (T : XInit X.K C fi) (F : FnOk X.prog X.w X.K X.mg X.base CX0 k fi fd ps sp) (hr : Room (k + 1) X.A) (hb : Binds X.K fd ps []) (hg : Gl X x) (hm : X.mg x = some (.ref C)) (ha : PA X (e :: es) t)
    (hdb : (x == ("__debug__" : Str)) = false := by decide) (he : starEach (e :: es) X.env = (false, eval e X.env) :: starEach es X.env := by rfl) (hpl : (backTo pos (starEach es X.env)).any (·.1) = false := by rfl) :
    PE X (.Call (.Name x p) (e :: es) [] pos) (tMakeX X.s₀.heap C sp t) := by
  intro pins s σ H Q I h
  refine wpAny_Call_Name_kw (ld_glob I hg hm ?_ hdb)
  refine PySem.W.callWith_K (h₀ := X.base) I.ok.mod.kin T.kp (thn (ha pos pins s σ H _ I h) fun us s1 ⟨vs, H1, I1, r, hl, q⟩ => ⟨I1.kIn, ?_⟩) he hpl
  exact run_makeX T F hr hb I1 r (by show us.length ≤ _; rw [← r.length, sizeLine_eq]; omega) q
end
section
variable {M : Model} {A : Around} {E : Value → Shared → Prop} {env : Env} {s : Shared}
variable {nm q : Str} {C N : Addr} {bs bm : List Value} {hdct : Bool} {sn : List Str} {sub : List Value} {ab : Bool} {col : Option Bool} {dd : Option Addr} {k0 k1 k2 k3 k5 : Option Value} {newId : String}
theorem raise_made {x : Sem Value} {Q : Flow → Shared → Prop} (hbase : bm.contains (.type "BaseException") = true) (hh : A.handled = none)
    (h : wpAny M A x (fun v s1 => ∃ e t d, v = .ref e ∧ s1.heap.get? C = some (excClassObj nm q C N bs bm hdct sn sub ab col dd k0 k1 k2 k3 k5 newId) ∧ s1.heap.get? e = some { excO C t with dict := some d } ∧ E (.ref e) s1) E s) :
    wpAny M A (raiseStmt env (some x) none) Q E s := by
  have isB : (Value.ref C :: bm).contains (.type "BaseException") = true := by rw [List.contains_cons, hbase, Bool.or_true]
  unfold raiseStmt
  refine wpAny_bind (wpAny_mono h (fun v s1 z => ?_) fun _ _ z => z)
  obtain ⟨e, t, d, rfl, hC, he, hE⟩ := z
  obtain ⟨hp, g, dr, tk, os⟩ := s1
  repeat first | (with_reducible refine wpAny_loadPart_at he ?_) | (with_reducible refine wpAny_loadPart_at hC ?_) | ((with_reducible refine wpAny_isSubtype_exc hC ?_); rw [isB]) | wp_step
  exact wpAny_raiseNew_none hh hE
end
section
variable {X : Cx}
def drp (H : Hp) (a : Addr) : Hp := fun b => if b = a then none else H b
theorem drp_ne {H : Hp} {a b : Addr} (h : b ≠ a) : drp H a b = H b := if_neg h
theorem drp_same {H : Hp} {a : Addr} : drp H a a = none := if_pos rfl
theorem Inv.drop {pins : List (Addr × Obj)} {σ : St} {H : Hp} {s : Shared} {a : Addr} {φ : Heap → Prop} (I : Inv X pins σ H s) (h : H a = some (.ext φ)) : Inv X pins σ (drp H a) s := by
  have ne : ∀ {b : Addr} {o : HO}, H b = some o → (∀ ψ, o ≠ .ext ψ) → b ≠ a := fun z n e => by subst e; rw [h] at z; cases z; exact n _ rfl
  have no : ∀ b, H b = none → drp H a b = none := fun b z => by
    by_cases e : b = a
    · rw [e]; exact drp_same
    · rw [drp_ne e]; exact z
  refine ⟨I.ok, I.os, I.bare, ⟨I.base.keep, I.base.slot, fun b o e n x => no b (I.base.free b o e n x), I.base.there, fun b xs e => ?_, fun b o u e => ?_, fun b ps e => ?_⟩, I.loc, I.cell, no _ I.free, fun x c e => ?_, fun p hp => ?_, fun b o z => ?_, I.len⟩
  · have q := I.base.tups b xs e
    rw [drp_ne (ne q fun _ z => nomatch z)]; exact q
  · have q := I.base.frzs b o u e
    rw [drp_ne (ne q fun _ z => nomatch z)]; exact q
  · obtain ⟨more, q⟩ := I.base.tbls b ps e
    exact ⟨more, by rw [drp_ne (ne q fun _ z => nomatch z)]; exact q⟩
  · rcases I.freeC x c e with z | ⟨z1, o, z⟩
    · exact .inl (no c z)
    · exact .inr ⟨z1, o, by rw [drp_ne (ne z fun _ y => nomatch y)]; exact z⟩
  · obtain ⟨e, n, r⟩ := I.pin p hp
    exact ⟨e, no _ n, r⟩
  · have hb : b ≠ a := fun e => by rw [e, drp_same] at z; cases z
    rw [drp_ne hb] at z
    exact (I.hok b o z).stay (fun c v _ y => y) (fun c y => by rw [drp_ne (ne y fun _ q => nomatch q)]; exact y) fun c xs y => by rw [drp_ne (ne y fun _ q => nomatch q)]; exact y
end
end L2
namespace L2
open PySem PySem.Spec PyProof.Rows
def DictAt (h : Heap) (e d : Addr) : Prop := ∃ oe, h.get? e = some oe ∧ oe.dict = some d
theorem DictAt.kp {h h' : Heap} {e d : Addr} (x : DictAt h e d) (k : KpH h h') : DictAt h' e d := by
  obtain ⟨oe, e1, e2⟩ := x
  obtain ⟨o', e3, kr⟩ := k e oe e1
  exact ⟨o', e3, kr.2.1.trans e2⟩
def CXR (P : Program) (w : World) : CXT := fun outer H s E e s' => ∃ ea t C B H' d, e = .ref ea ∧ Fly P w outer H H' s C ea t B s' ∧ DictAt s'.heap ea d ∧ E (.ref C) (some d) H'
def RaisesR (X : Cx) (E : XK) : Prop := ∀ (pins : List (Addr × Obj)) (σ : St) (H : Hp) (s : Shared) (e C t d : Addr), Inv X pins σ H s → s.heap.get? e = some { excO C t with dict := some d } → H e = none → X.s₀.heap.get? e = none → E (.ref C) (some d) H → X.xe (.ref e) s
theorem raisesR_cx {P : Program} {w : World} {K : PySem.W.Frag} {mg : Str → Option Value} {base : Heap} {N : List Str} {qual : Str} {scope : Scope} {f : Addr} {cd : Value} {A : Around} {outer : List Env} {s : Shared} {H : Hp} {E : XK} :
    RaisesR (cxOf (CXR P w) P w K mg base N qual scope f cd A outer s H E) E := by
  intro pins σ H1 s1 e C t d I he hne h0 q
  have h0 : s.heap.get? e = none := h0
  have hfr : ∀ b ∈ frs (envOfC qual scope s.heap.objs.size f cd :: outer), H1 b = none := I.stkFree
  have hsub : ∀ b ∈ frs outer, b ∈ frs (envOfC qual scope s.heap.objs.size f cd :: outer) := fun b hb => List.mem_cons_of_mem _ hb
  have noex : ∀ b : Addr, b ∉ (cxOf (CXR P w) P w K mg base N qual scope f cd A outer s H E).ex := fun b z => absurd (show b ∈ ([] : List Addr) from z) (by simp)
  have hB : ∀ {b o}, s1.heap.get? b = some o → b ≠ e → b ∉ frs (envOfC qual scope s.heap.objs.size f cd :: outer) → (PySem.W.hideAll s1.heap (e :: frs (envOfC qual scope s.heap.objs.size f cd :: outer))).get? b = some o := fun z n1 n2 => PySem.W.hideAll_get _ z (fun y => (List.mem_cons.mp y).elim n1 n2)
  have hnew : ∀ b o, s.heap.get? b = some o → b ∉ frs outer → b ∉ frs (envOfC qual scope s.heap.objs.size f cd :: outer) := fun b o z n y => by
    rcases List.mem_cons.mp (show b ∈ s.heap.objs.size :: frs outer from y) with y | y
    · exact absurd (Heap.lt_size z) (by rw [y]; exact Nat.lt_irrefl _)
    · exact n y
  have nee : ∀ b o, s.heap.get? b = some o → b ≠ e := fun b o z y => by rw [y, h0] at z; cases z
  have hBe : (PySem.W.hideAll s1.heap (e :: frs (envOfC qual scope s.heap.objs.size f cd :: outer))).get? e = none := PySem.W.hideAll_none _ List.mem_cons_self
  have stays : (PySem.W.hideAll s1.heap (e :: frs (envOfC qual scope s.heap.objs.size f cd :: outer))).StaysIn s1.heap := fun b o z => PySem.W.of_hideAll _ z
  have funs := funFrames_base (b2 := PySem.W.hideAll s1.heap (e :: frs (envOfC qual scope s.heap.objs.size f cd :: outer))) I.stack fun a ha => PySem.W.hideAll_none _ (List.mem_cons_of_mem _ ha)
  have trkne : ∀ b u, H1 b = some u → b ≠ e := fun b u z y => by rw [y, hne] at z; cases z
  have keepT : ∀ b u, H1 b = some u → b ∉ frs (envOfC qual scope s.heap.objs.size f cd :: outer) := fun b u z y => by rw [hfr b y] at z; cases z
  have step := wpAny_leaving_firstW (M := model P w) (E := fun _ _ => False) (a0 := .ref t) (Q := fun _ s' => ∃ h', s' = { s1 with heap := h' } ∧ Heap.LeftW (PySem.W.hideAll s1.heap (e :: frs (envOfC qual scope s.heap.objs.size f cd :: outer))) (envOfC qual scope s.heap.objs.size f cd :: outer) e (.ref C) (.ref t) s1.heap h')
    I.ok.frames funs rfl he stays hBe rfl rfl rfl fun h' hL => ⟨h', rfl, hL⟩
  refine wpAny_mono (wpAny_keep (ds_leaving _ _) step) (fun _ s' z => ?_) fun _ _ z => z.1.elim
  obtain ⟨⟨h2, rfl, k1, ⟨_, _, k2⟩, k3, up⟩, kh⟩ := z
  have old : ∀ b o, s.heap.get? b = some o → H b = none → b ∉ frs outer → (PySem.W.hideAll s1.heap (e :: frs (envOfC qual scope s.heap.objs.size f cd :: outer))).get? b = some o := fun b o z n nf =>
    hB (I.base.keep b o z n nf (noex b)) (nee b o z) (hnew b o z nf)
  have slot : ∀ b o, s.heap.get? b = some o → b ∈ frs outer → ∃ sl, h2.get? b = some { o with slots := sl } := fun b o z hb => by
    obtain ⟨sl, e1⟩ := I.base.slot b o z (I.ok.frf b hb) hb (noex b)
    obtain ⟨_, o2, e2, d2⟩ := I.ok.funs.mem hb
    have e2' : s.heap.get? b = some o2 := e2
    rw [z] at e2'; cases e2'
    obtain ⟨sl2, e3⟩ := up b _ e1 d2
    exact ⟨sl2, e3⟩
  have all : ∀ b o, s.heap.get? b = some o → b ∈ frs outer ∨ ∃ o', (PySem.W.hideAll s1.heap (e :: frs (envOfC qual scope s.heap.objs.size f cd :: outer))).get? b = some o' := fun b o z => by
    by_cases hb : b ∈ frs outer
    · exact .inl hb
    · obtain ⟨o', e1⟩ := I.base.there b o z (noex b)
      exact .inr ⟨o', hB e1 (nee b o z) (hnew b o z hb)⟩
  refine ⟨e, t, C, _, H1, d, rfl, ⟨I.os, I.bare, ⟨k1, hBe, k2, k3⟩, ⟨fun b o z n nf _ => k1 _ _ (old b o z n nf), fun b o z n hb _ => slot b o z hb, I.base.free, fun b o z _ => ?_, I.base.tups, I.base.frzs, I.base.tbls⟩, fun a u z => ?_, old, fun b u z => ⟨fun y => keepT b u z (hsub b y), fun o zo => ?_⟩, all⟩, DictAt.kp ⟨_, he, rfl⟩ kh, q⟩
  · rcases all b o z with hb | ⟨o', y⟩
    · obtain ⟨sl, y⟩ := slot b o z hb
      exact ⟨_, y⟩
    · exact ⟨o', k1 _ _ y⟩
  · refine (I.hok a u z).stay (fun b v hb hv => k1 _ _ ?_) (fun _ y => y) fun _ _ y => y
    rcases hb with rfl | hb
    · exact hB hv (trkne _ _ z) (keepT _ _ z)
    · exact hB hv (trkne _ _ hb) (keepT _ _ hb)
  · obtain ⟨o', e1⟩ := (I.hok b u z).there
    have e2 := hB e1 (trkne b u z) (keepT b u z)
    have e3 := k1 _ _ e2
    rw [zo] at e3; cases e3
    exact e2
section
variable {X : Cx} {C fi : Addr} {k : Nat} {fd : FuncData} {ps : List Str} {sp : Sp}
def tRaiseR (h0 : Heap) (C : Addr) (sp : Sp) (E : XK) (t : TA) : TS := fun _ σ H => tMakeX h0 C sp t σ H fun v H2 => ∃ e d, v = .ref e ∧ h0.get? e = none ∧ H2 e = some (.ext (Ex1 C e d)) ∧ E (.ref C) (some d) (drp H2 e)
theorem ps_raiseR {x : Str} {E : XK} {e : Expr} {es : List Expr} {t : TA} {np cpos pos : Pos} (hx : RaisesR X E) (hh : X.A.handled = none) (T : XInit X.K C fi) (F : FnOk X.prog X.w X.K X.mg X.base CX0 k fi fd ps sp) (hr : Room (k + 1) X.A) (hb : Binds X.K fd ps []) (hg : Gl X x) (hm : X.mg x = some (.ref C)) (ha : PA X (e :: es) t)
    (hdb : (x == ("__debug__" : Str)) = false := by decide) (he : starEach (e :: es) X.env = (false, eval e X.env) :: starEach es X.env := by rfl) (hpl : (backTo cpos (starEach es X.env)).any (·.1) = false := by rfl) :
    PS X (.Raise (some (.Call (.Name x np) (e :: es) [] cpos)) none pos) (tRaiseR X.s₀.heap C sp E t) := by
  intro pins s σ H D I h
  obtain ⟨nm, q', N, bs, bm, hdct, sn, sub, ab, col, dd, k0, k1, k2, k3, k5, lk, tl, has, no, ni⟩ := T.ex
  have mk := pe_makeX (p := np) (pos := cpos) T F hr hb hg hm ha hdb he hpl pins s σ H _ I h
  rw [arm_exec_Raise]
  refine wpAny_bind (wpAny_standAt (raise_made (C := C) (nm := nm) (q := q') (N := N) (bs := bs) (bm := bm) (hdct := hdct) (sn := sn) (sub := sub) (ab := ab) (col := col) (dd := dd) (k0 := k0) (k1 := k1) (k2 := k2) (k3 := k3) (k5 := k5) (newId := "ValueError.__new__") has hh ?_))
  refine wpAny_bind (wpAny_mono mk (fun v s1 z => wpAny_bind (wpAny_standAt (wpAny_pure ?_))) fun _ _ z => z)
  obtain ⟨x', H2, I2, rx, a, d, rfl, n0, h2, q⟩ := z
  obtain rfl : v = Value.ref a := rx
  obtain ⟨⟨t', ht⟩, _, _⟩ := I2.hok _ _ h2
  exact ⟨a, t', d, rfl, I2.kIn _ _ lk, ht, hx pins σ _ s1 a C t' d (I2.drop h2) ht drp_same n0 q⟩
end
end L2
namespace L2
open PySem PySem.Spec PyProof.Rows
theorem passesR_cx {P : Program} {w : World} {K : PySem.W.Frag} {mg : Str → Option Value} {base : Heap} {N : List Str} {qual : Str} {scope : Scope} {f : Addr} {cd : Value} {A : Around} {outer : List Env} {s : Shared} {H : Hp} {E : XK} :
    Passes (CXR P w) (cxOf (CXR P w) P w K mg base N qual scope f cd A outer s H E) E := by
  intro pins σ H1 s1 ev s2 I hq
  obtain ⟨ea, t, C, B, H2, d, rfl, F, da, q⟩ := hq
  have F : Fly P w (envOfC qual scope s.heap.objs.size f cd :: outer) H1 H2 s1 C ea t B s2 := F
  have hsub : ∀ b ∈ frs outer, b ∈ frs (envOfC qual scope s.heap.objs.size f cd :: outer) := fun b hb => List.mem_cons_of_mem _ hb
  have hnew : ∀ b o, s.heap.get? b = some o → b ∉ frs outer → b ∉ frs (envOfC qual scope s.heap.objs.size f cd :: outer) := fun b o e n z => by
    rcases List.mem_cons.mp (show b ∈ s.heap.objs.size :: frs outer from z) with z | z
    · exact absurd (Heap.lt_size e) (by rw [z]; exact Nat.lt_irrefl _)
    · exact n z
  have noex : ∀ b : Addr, b ∉ (cxOf (CXR P w) P w K mg base N qual scope f cd A outer s H E).ex := fun b z => absurd (show b ∈ ([] : List Addr) from z) (by simp)
  have step := wpAny_leaves_onW (M := model P w) (E := fun _ _ => False) (s := s2) (base := B) (env := envOfC qual scope s.heap.objs.size f cd) (outer := outer) (L := s.heap.objs.size) (Q := fun _ s' => ∃ h', s' = { s2 with heap := h' } ∧ B.FlyingW outer ea (.ref C) (.ref t) h' ∧ s2.heap.UpToSlots h') I.ok.frames rfl F.fly fun h' fly up => ⟨h', rfl, fly, up⟩
  refine wpAny_mono (wpAny_keep (ds_leaving _ _) step) (fun _ s' z => ?_) fun _ _ z => z.1.elim
  obtain ⟨⟨h2, rfl, fly, up⟩, kh⟩ := z
  have old : ∀ b o, s.heap.get? b = some o → H b = none → b ∉ frs outer → B.get? b = some o := fun b o e n nf =>
    F.old b o (I.base.keep b o e n nf (noex b)) (I.base.free b o e n (noex b)) (hnew b o e nf)
  have slot : ∀ b o, s.heap.get? b = some o → H b = none → b ∈ frs outer → ∃ sl, h2.get? b = some { o with slots := sl } := fun b o e hn hb => by
    obtain ⟨sl, e1⟩ := I.base.slot b o e hn hb (noex b)
    obtain ⟨sl2, e2⟩ := F.un.slot b _ e1 (I.base.free b o e hn (noex b)) (hsub b hb) (by simp)
    obtain ⟨_, o2, e3, d3⟩ := I.ok.funs.mem hb
    have e3' : s.heap.get? b = some o2 := e3
    rw [e] at e3'; cases e3'
    obtain ⟨sl3, e4⟩ := up b _ e2 d3
    exact ⟨sl3, e4⟩
  have all : ∀ b o, s.heap.get? b = some o → b ∈ frs outer ∨ ∃ o', B.get? b = some o' := fun b o e => by
    obtain ⟨o', e1⟩ := I.base.there b o e (noex b)
    rcases F.all b o' e1 with z | z
    · by_cases hb : b ∈ frs outer
      · exact .inl hb
      · exact absurd z (hnew b o e hb)
    · exact .inr z
  have stay : ∀ b u, H2 b = some u → ∀ o, s2.heap.get? b = some o → h2.get? b = some o := fun b u z o zo => fly.1 _ _ ((F.trk b u z).2 o zo)
  refine ⟨ea, t, C, B, H2, d, rfl, ⟨F.os.trans I.os, F.bare, fly, ⟨fun b o e n nf _ => fly.1 _ _ (old b o e n nf), fun b o e n hb _ => slot b o e n hb, fun b o e n _ => ?_, fun b o e _ => ?_, fun b xs e => F.un.tups b xs (I.base.tups b xs e), fun b o u e => F.un.frzs b o u (I.base.frzs b o u e), fun b ps e => ?_⟩, fun a u z => ?_, old, fun b u z => ⟨fun y => (F.trk b u z).1 (hsub b y), fun o zo => ?_⟩, all⟩, da.kp kh, q⟩
  · obtain ⟨o', e1⟩ := I.base.there b o e (noex b)
    exact F.un.free b o' e1 (I.base.free b o e n (noex b)) (by simp)
  · rcases all b o e with hb | ⟨o', z⟩
    · obtain ⟨sl, z⟩ := slot b o e (I.ok.frf b hb) hb
      exact ⟨_, z⟩
    · exact ⟨o', fly.1 _ _ z⟩
  · obtain ⟨m1, e1⟩ := I.base.tbls b ps e
    obtain ⟨m2, e2⟩ := F.un.tbls b _ e1
    exact ⟨m1 ++ m2, by rw [← Array.append_assoc]; exact e2⟩
  · refine (F.hok a u z).stay (fun b v hb hv => ?_) (fun _ y => y) fun _ _ y => y
    rcases hb with rfl | hb
    · exact stay _ _ z _ hv
    · exact stay _ _ hb _ hv
  · obtain ⟨o', e1⟩ := (F.hok b u z).there
    have e2 := (F.trk b u z).2 _ e1
    have e3 := fly.1 _ _ e2
    rw [zo] at e3; cases e3
    exact e2
def FnR (P : Program) (w : World) (K : PySem.W.Frag) (mg : Str → Option Value) (base : Heap) (k : Nat) (x : Str) (ps : List Str) (sp : Sp) : Prop :=
  ∃ f fd, mg x = some (.ref f) ∧ PySem.W.keepIn K (.ref f) = true ∧ Binds K fd ps [] ∧ FnOk P w K mg base (CXR P w) k f fd ps sp
theorem FunAt.okR {P : Program} {w : World} {K : PySem.W.Frag} {mg : Str → Option Value} {base : Heap} {x : Str} {st : Stmt} {N ps : List Str} {k : Nat} {sp : Sp} (F : FunAt K mg x st) (S : FnScope N ps (defScope st))
    (hb : ∀ (kV doc pm : Value) (an : Option Addr) (cdv ct : Value) (us : List Value), us.length = ps.length → bindArgs (PySem.W.fnOf x x (defArgs st) (defBody st) (defScope st) .none kV doc pm an cdv ct) ⟨us, []⟩ = pure (ps.zip us))
    (len : ∀ vs H Q E, sp vs H Q E → vs.length = ps.length)
    (hbody : ∀ (f : Addr) (cdv : Value) (A : Around) (outer : List Env) (s : Shared) (H : Hp) (vs : List V) (Q : VK) (E : XK), Room k (A.deeper (envOfC x (defScope st) s.heap.objs.size f cdv)) → sp vs H Q E →
      ∃ t, PSs (cxOf (CXR P w) P w K mg base N x (defScope st) f cdv A outer s H E) (defBody st) t ∧ t { nx := fun _ H' => Q .non H', rt := Q } (start N vs) H) : FnR P w K mg base (k + 1) x ps sp := by
  obtain ⟨f, fd, h1, F⟩ := F
  refine ⟨f, fd, h1, F.kp, F.binds hb, ?_⟩
  obtain ⟨oc, od, kV, doc, pm, an, cdv, ct, osl, rfl, lk, hcd⟩ := F.ex
  exact fn_of lk hcd S len fun A outer s H vs Q E hr hsp => hbody f cdv A outer s H vs Q E hr hsp
section
variable {X : Cx}
theorem pe_callR {E : XK} {k : Nat} {x : Str} {ps : List Str} {sp : Sp} {e : Expr} {es : List Expr} {t : TA} {p pos : Pos} (hx : Passes (CXR X.prog X.w) X E) (F : FnR X.prog X.w X.K X.mg X.base k x ps sp) (hr : Room k X.A) (hg : Gl X x) (ha : PA X (e :: es) t)
    (hdb : (x == ("__debug__" : Str)) = false := by decide) (he : starEach (e :: es) X.env = (false, eval e X.env) :: starEach es X.env := by rfl) (hpl : (backTo pos (starEach es X.env)).any (·.1) = false := by rfl) : PE X (.Call (.Name x p) (e :: es) [] pos) (tCall sp [] E t) := by
  obtain ⟨f, fd, h1, h2, h3, h4⟩ := F
  exact pe_call h4 hr hg h1 h2 h3 .nil hx ha hdb he hpl
end
end L2
namespace L2
open PySem PySem.Spec PyProof.Rows
structure IsR (C d : Addr) (oe : Obj) : Prop where
  cls : oe.cls = .ref C
  dict : oe.dict = some d
  fld : ∃ vs, oe.data = .fields vs
section
variable {X : Cx}
theorem land_okR {pins : List (Addr × Obj)} {σ0 : St} {H0 H' : Hp} {s0 s1 : Shared} {C ea t d : Addr} {B : Heap} {x : Str} {np hpos : Pos} {rest : List ExceptHandler} {name : Option Str} {suite : List Stmt} {Q : Flow → Shared → Prop}
    (hex : X.ex = []) (hst : X.stack = X.env :: X.outer ∧ X.env.frame = some X.env.locals) (xc : XOwn X.K C) (hg : Gl X x) (hm : X.mg x = some (.ref C)) (hdb : (x == ("__debug__" : Str)) = false)
    (I0 : Inv X pins σ0 H0 s0) (F : Fly X.prog X.w X.stack H0 H' s0 C ea t B s1) (da : DictAt s1.heap ea d)
    (h : ∀ (s3 : Shared), (∀ {Q' : Unit → Shared → Prop} {E' : Value → Shared → Prop}, (∀ s4 oe, Inv X pins σ0 H' s4 → Inv X pins σ0 (upd H' ea (.frz oe (.own 0))) s4 → H' ea = none → IsR C d oe → Q' () s4) → wpAny (model X.prog X.w) (X.A.mark (some (.ref ea))) (setFlight (.ref ea) none) Q' E' s3) →
      codeAny (model X.prog X.w) (X.A.mark (some (.ref ea))) (.handlers (.ref ea) [.ExceptHandler none name suite hpos] X.env) (fun r s₂ => match r with
        | .ok f => match name with
          | none => Q f s₂
          | some n => wpAny (model X.prog X.w) X.A (do bindName X.env n Value.none; unbindBehindTheSuite X.env n hpos) (fun _ s₃ => Q f s₃) X.xe s₂
        | .error x => cameBackBy (model X.prog X.w) X.A X.env X.xe x s₂) s3) :
    wpAny (model X.prog X.w) X.A (noteFrame (.ref ea) X.env) (fun _ s₂ => wpAny (model X.prog X.w) X.A (setFlight (.ref ea) none) (fun _ s₃ => wpAny (model X.prog X.w) X.A (handleBy (.ref ea) X.env (.ExceptHandler (some (.Name x np)) name suite hpos :: rest)) Q X.xe s₃) X.xe s₂) X.xe s1 := by
  have hfl : B.FlyingW (X.env :: X.outer) ea (.ref C) (.ref t) s1.heap := by rw [← hst.1]; exact F.fly
  have st1 := wpAny_looks_onW (M := model X.prog X.w) (E := fun _ _ => False) (s := s1) (base := B) (env := X.env) (outer := X.outer) (Q := fun _ s' => ∃ h2, s' = { s1 with heap := h2 } ∧ B.HeldW (X.env :: X.outer) ea (.ref C) (.ref t) X.env.locals h2 ∧ s1.heap.UpToSlots h2) (by rw [I0.ok.frames, hst.1]) hst.2 hfl fun h2 held up => ⟨h2, rfl, held, up⟩
  refine wpAny_mono (wpAny_keep (ds_note _ _) st1) (fun _ s' z => ?_) fun _ _ z => z.1.elim
  obtain ⟨⟨h2, rfl, held, up⟩, kh2⟩ := z
  have st2 := wpAny_landsW (M := model X.prog X.w) (A := X.A) (E := fun _ _ => False) (s := { s1 with heap := h2 }) (Q := fun _ s' => ∃ h3, s' = { s1 with heap := h3 } ∧ B.FlyingW (X.env :: X.outer) ea (.ref C) (.ref t) h3 ∧ h2.UpToSlots h3) held fun h3 fly3 up3 => ⟨h3, rfl, fly3, up3⟩
  refine wpAny_mono (wpAny_keep (ds_setFlight _ _) st2) (fun _ s' z => ?_) fun _ _ z => z.1.elim
  obtain ⟨⟨h3, rfl, fly3, up3⟩, kh3⟩ := z
  have up13 : s1.heap.UpToSlots h3 := UpToSlots.trans up up3
  have I3 : Inv X pins σ0 H' { s1 with heap := h3 } := I0.fly F fly3.1 up13
  obtain ⟨st3, hne, ff3, tr3⟩ := id fly3
  obtain ⟨oe, vs, T, oT, ts, he, ⟨hc, h0⟩, hd, _⟩ := id tr3
  obtain ⟨nm, q, N, bs, bm, hdct, sn, sub, ab, col, dd, k0, k1, k2, k3, k5, lk, tl, has⟩ := xc.ex
  refine wpAny_handleBy_cons (codeAny_handlers_test ?_) (by nofun)
  refine ld_glob (X := X.hand ea) (I3.hand ea) hg hm ?_ hdb
  refine wpAny_excMatches_sub_self (I3.kIn _ _ lk) he hc has ?_
  refine h { s1 with heap := h3 } fun {Q' E'} k => ?_
  have st5 := wpAny_setFlight_noneW (M := model X.prog X.w) (A := X.A.mark (some (.ref ea))) (E := fun _ _ => False) (s := { s1 with heap := h3 }) (base := B) (l := X.env :: X.outer) (fl := .none) (Q := fun _ s' => ∃ h4, s' = { s1 with heap := h4 } ∧ B.StaysIn h4 ∧ h4.FunFrames B (X.env :: X.outer) ∧ h4.TracedW B ea (.ref C) (.ref t) ∧ ∀ b o, h3.get? b = some o → (∀ vs, o.data ≠ .fields vs) → h4.get? b = some o) st3 ff3 tr3 fun h4 st4 ff4 tr4 k4 => ⟨h4, rfl, st4, ff4, tr4, k4⟩
  refine wpAny_mono (wpAny_keep (ds_setFlight _ _) st5) (fun _ s' z => ?_) fun _ _ z => z.1.elim
  obtain ⟨⟨h4, rfl, st4, ff4, tr4, k4⟩, kh4⟩ := z
  have up34 : h3.UpToSlots h4 := fun b o e d => ⟨o.slots, k4 b o e d⟩
  have I4 : Inv X pins σ0 H' { s1 with heap := h4 } := I0.fly F st4 (UpToSlots.trans up13 up34)
  obtain ⟨oe4, vs4, T4, oT4, ts4, he4, ⟨hc4, h04⟩, hd4, _⟩ := id tr4
  have n0 : H' ea = none := by
    cases z : H' ea with
    | none => rfl
    | some u =>
      obtain ⟨_, y⟩ := F.trk ea u z
      obtain ⟨_, _, _, tr⟩ := F.fly
      obtain ⟨o1, _, _, _, _, e1, _⟩ := tr
      have := y _ e1
      rw [F.fly.2.1] at this; cases this
  have nst : ea ∉ frs X.stack := fun z => by
    obtain ⟨_, o, e, d⟩ := I4.stack.mem z
    have e' : h4.get? ea = some o := e
    rw [he4] at e'; cases e'
    exact d _ hd4
  have nall : s0.heap.get? ea = none := by
    cases z : s0.heap.get? ea with
    | none => rfl
    | some o =>
      rcases F.all ea o z with y | ⟨o', y⟩
      · exact absurd y nst
      · rw [F.fly.2.1] at y; cases y
  refine k _ oe4 I4 (I4.track' he4 n0 (fun z => ?_) (fun y c e z => ?_) (fun p hp z => ?_) ?_) n0 ⟨hc4, by
    obtain ⟨oz, ez, dz⟩ := da.kp (kh2.trans (kh3.trans kh4))
    have ez : h4.get? ea = some oz := ez
    rw [he4] at ez; cases ez; exact dz, _, hd4⟩
  · obtain ⟨m, ⟨o, es, ep, e, d, _⟩, _⟩ := I4.loc
    have e' : h4.get? X.env.locals = some o := e
    rw [← z, he4] at e'; cases e'
    rw [hd4] at d; cases d
  · obtain ⟨v, o, e', d⟩ := I4.cell y c e
    have e' : h4.get? c = some o := e'
    rw [z, he4] at e'; cases e'
    rw [hd4] at d; cases d
  · obtain ⟨e, _⟩ := I0.pin p hp
    rw [z, nall] at e; cases e
  · cases z : X.s₀.heap.get? ea with
    | none => rfl
    | some o =>
      obtain ⟨o', e⟩ := I0.base.there ea o z (by rw [hex]; simp)
      rw [nall] at e; cases e
end
end L2
namespace L2
open PySem PySem.Spec PyProof.Rows
structure XGet (K : PySem.W.Frag) (C : Addr) : Prop where
  own : XOwn K C
  hd : ∃ cd, PySem.W.clsIn K C = some cd ∧ cd.hasDict = true
  ga : PySem.W.findIn K (.ref C) "__getattribute__" = some (some (.builtin "BaseException.__getattribute__"))
  gn : PySem.W.findIn K (.ref C) "__getattr__" = some none
  fo : PySem.W.findIn K (.ref C) "__class__" = some (some (.builtin "object.__class__"))
  sp : PySem.W.specialIn K (.builtin "object.__class__") "__get__" = some (some (.builtin "getset_descriptor.__get__"))
  tk : PySem.W.takesIn K (.builtin "object.__class__") = some true
  mo : PySem.W.mroIn K C (.type "object") = some true
section
variable {K : PySem.W.Frag} {C e : Addr} {oe : Obj} {prog : Program} {w : World} {A : Around} {E : Value → Shared → Prop} {s : Shared}
theorem excR_get {name : Str} {fill ex : Bool} {tk : Tok} {u : Value} {Q : Value → Shared → Prop} (x : XGet K C) (X : K.In s.heap) (he : s.heap.get? e = some oe) (hc : oe.cls = .ref C) (hu : handedOut u = pure u)
    (h : ∀ {A' : Around} {E' : Value → Shared → Prop}, wpAny (model prog w) A' (Builtin.«object.__getattribute__» ⟨[.ref e, .str name tk], []⟩) (fun f s' => f = .done (.ret u) ∧ Q u s') E' s) :
    wpAny (model prog w) A (getAttrBy (.ref e) (.str name tk) fill ex) Q E s := by
  have ty : ∀ {A : Around} {Q : Value → Shared → Prop} {E : Value → Shared → Prop}, Q (.ref C) s → wpAny (model prog w) A (typeOf (.ref e)) Q E s := fun q => wpAny_typeOf_ref he (by rw [hc]; exact q)
  obtain ⟨nm, q, N, bs, bm, hdct, sn, sub, ab, col, dd, k0, k1, k2, k3, k5, lk, tl, has⟩ := x.own.ex
  have TQ := tailQ.ok X tl
  have hC := X _ _ lk
  have F4 := F.attrBase_ValueError
  unfold getAttrBy
  refine wpAny_holding (wpAny_bind (ty ?_))
  refine wpAny_bind (PySem.W.looks_findIn X x.ga A _ _ s (fun _ _ z => z) ?_)
  show wpAny _ _ (getAttrByItsOwn _ _ _ _ _ _) _ _ _
  unfold getAttrByItsOwn
  refine wpAny_bind (PySem.W.looks_hook X (r := none) (by show PySem.W.findIn K (.ref C) _ = _; exact x.gn) A _ _ s (fun _ _ z => z) ?_)
  refine wpAny_bind (wpAny_attempt (wpAny_holding ?_))
  have hg : callGetattribute (.ref e) (.str name tk) (.builtin "BaseException.__getattribute__") ex = boundAndCalled (.builtin "BaseException.__getattribute__") (.ref e) (.str name tk) := by cases ex <;> rfl
  rw [hg]
  unfold boundAndCalled
  rw [F4.ga.bind]
  refine wpAny_bind (wpAny_pure ?_)
  refine wpAny_call (codeAny_call_builtin F4.ga.plain F.entry_bexc_ga ?_)
  refine wpAny_check_ga_own F4 hC TQ he hc ?_
  refine wpAny_mono h (fun f s' z => ?_) fun _ _ z => z
  obtain ⟨rfl, z⟩ := z
  show wpAny _ _ (handedOut u) _ _ _
  rw [hu]
  exact wpAny_pure z
theorem excR_cls {Q : Option Value → Shared → Prop} (x : XGet K C) (X : K.In s.heap) (he : s.heap.get? e = some oe) (hc : oe.cls = .ref C) (h : Q (some (.ref C)) { s with toks := s.toks + 1 }) : wpAny (model prog w) A (getAttr? (.ref e) "__class__") Q E s := by
  unfold getAttr?
  refine wpAny_bind (wpAny_mkText ?_)
  unfold getAttrBy?
  refine wpAny_bind (wpAny_attempt ?_)
  refine excR_get (u := .ref C) (s := { s with toks := s.toks + 1 }) x X he hc rfl fun {A' E'} => ?_
  unfold Builtin.«object.__getattribute__»
  refine wpAny_bind (wpAny_pure ?_)
  refine wpAny_bind (wpAny_pure ?_)
  refine wpAny_bind (wpAny_typeOf_ref he ?_)
  rw [hc]
  refine wpAny_bind ?_
  unfold Builtin.ObjectAttr.find
  refine wpAny_bind (PySem.W.looks_findIn X x.fo _ _ _ { s with toks := s.toks + 1 } (fun _ _ z => z) ?_)
  refine wpAny_bind (PySem.W.looks_specialIn X x.sp _ _ _ { s with toks := s.toks + 1 } (fun _ _ z => z) ?_)
  refine wpAny_bind ?_
  unfold Builtin.ObjectAttr.dataDescriptor?
  refine wpAny_bind (PySem.W.looks_takesIn X x.tk _ _ _ { s with toks := s.toks + 1 } (fun _ _ z => z) ?_)
  refine wpAny_pure ?_
  refine wpAny_bind (wpAny_rule ?_)
  refine wpAny_pure ?_
  show wpAny _ _ (Builtin.ObjectAttr.bindTo _ _ _ _) _ _ _
  refine wpAny_bind (wpAny_holding (wpAny_call (exc_class_get (s := { s with toks := s.toks + 1 }) X he hc x.mo ?_ rfl)))
  exact wpAny_pure ⟨rfl, wpAny_pure h⟩
theorem excR_dict {name : Str} {d : Addr} {m : Str → Option Value} {u : Value} {ex : Bool} {Q : Value → Shared → Prop} (x : XGet K C) (X : K.In s.heap) (he : s.heap.get? e = some oe) (ho : IsR C d oe) (no : PySem.W.findIn K (.ref C) name = some none)
    (hn : s.heap.Ns d m) (hm : m name = some u) (hu : handedOut u = pure u) (h : Q u { s with toks := s.toks + 1 }) : wpAny (model prog w) A (getAttr (.ref e) name ex) Q E s := by
  obtain ⟨cd, hcd, hh⟩ := x.hd
  obtain ⟨vs, hf⟩ := ho.fld
  unfold getAttr
  refine wpAny_bind (wpAny_mkText ?_)
  refine excR_get (u := u) (s := { s with toks := s.toks + 1 }) x X he ho.cls hu fun {A' E'} => ?_
  unfold Builtin.«object.__getattribute__»
  refine wpAny_bind (wpAny_pure ?_)
  refine wpAny_bind (wpAny_pure ?_)
  refine wpAny_bind (wpAny_typeOf_ref he ?_)
  rw [ho.cls]
  refine wpAny_bind ?_
  unfold Builtin.ObjectAttr.find
  refine wpAny_bind (PySem.W.looks_findIn X no _ _ _ { s with toks := s.toks + 1 } (fun _ _ z => z) ?_)
  refine wpAny_bind (wpAny_pure ?_)
  refine wpAny_bind (wpAny_pure ?_)
  show wpAny _ _ (Builtin.ObjectAttr.ownThenClass _ _ _ _) _ _ _
  unfold Builtin.ObjectAttr.ownThenClass
  refine wpAny_bind ?_
  show wpAny _ _ (Builtin.ObjectAttr.ownDict e >>= fun d => Builtin.ObjectAttr.inDict name d) _ _ _
  refine wpAny_bind ?_
  unfold Builtin.ObjectAttr.ownDict
  refine wpAny_bind (wpAny_loadPart (s := { s with toks := s.toks + 1 }) he ?_)
  rw [hf]
  show wpAny _ _ (instanceDict e false) _ _ _
  unfold instanceDict
  refine wpAny_bind (wpAny_loadPart (s := { s with toks := s.toks + 1 }) he ?_)
  rw [ho.cls, ho.dict]
  refine wpAny_bind (PySem.W.looks_clsIn X hcd _ _ _ { s with toks := s.toks + 1 } (fun _ _ z => z) ?_)
  rw [hh]
  refine wpAny_pure ?_
  refine wpAny_nsGet (s := { s with toks := s.toks + 1 }) hn ?_
  rw [hm]
  refine wpAny_bind (wpAny_rule (wpAny_pure ?_))
  exact wpAny_pure ⟨rfl, h⟩
end
theorem kitx_excR {K : PySem.W.Frag} {C e : Addr} {oe : Obj} (x : XGet K C) (hc : oe.cls = .ref C) : PySem.W.KitX K (.ref e) (.ref C) fun h => h.get? e = some oe where
  ty := fun M h X he => fun A Q E s k q => wpAny_typeOf_ref (k _ _ he) (by rw [hc]; exact q)
  it := fun M h X he => by
    obtain ⟨nm, q, N, bs, bm, hdct, sn, sub, ab, col, dd, k0, k1, k2, k3, k5, lk, _⟩ := x.own.ex
    intro A Q E s k q
    exact ks_wpAny_isType_cls (k _ _ (X _ _ lk)) rfl q
  ne := fun h tp dd its n sl X ht => by
    obtain ⟨nm, q, N, bs, bm, hdct, sn, sub, ab, col, dd, k0, k1, k2, k3, k5, lk, _⟩ := x.own.ex
    have e := X _ _ lk
    rw [beq_eq_false_iff_ne]
    intro z
    cases z
    rw [ht] at e
    have e2 := congrArg Obj.data (Option.some.inj e)
    cases e2
  ca := fun X he q => excR_cls x X he hc q
theorem call_isinstR {X : Cx} {K : PySem.W.Frag} (hK : X.K = K := by rfl) : CallR X (.builtin "isinstance") (fun xs H Q => ∃ ea C d oe c cv b, xs = [.ref ea, c] ∧ RelV c cv ∧ (∀ u, RelV c u → u = cv) ∧ H ea = some (.frz oe (.own 0)) ∧ IsR C d oe ∧ XGet K C ∧ PySem.W.kitOne K (.ref C) cv = some b ∧ Q (.bl b) H) := by
  subst hK
  intro pins s σ H xs us Q I r h
  obtain ⟨ea, C, d, oe, c, cv, b, rfl, rc, uq, ha, ix, xg, e, q⟩ := h
  obtain ⟨u, w', rfl, rx, rc'⟩ := vals2 r
  obtain rfl : u = Value.ref ea := rx
  obtain rfl := uq _ rc'
  exact PySem.W.kia_one (kitx_excR xg ix.cls) I.kIn (I.hok _ _ ha).1 e (fun z => nomatch z) fun tk => ⟨.bl b, H, I.tok tk, rfl, q⟩
def tRow (K : PySem.W.Frag) (ta : TE) (f : Str) : TE := fun σ H Q => ta σ H fun x H1 => ∃ a C d oe od i, x = .ref a ∧ H1 a = some (.frz oe (.own 0)) ∧ IsR C d oe ∧ XGet K C ∧ PySem.W.findIn K (.ref C) f = some none ∧ H1 d = some (.frz od (.own 0)) ∧ RowO f (.int i) od ∧ Q (.int i) H1
theorem pe_row {X : Cx} {e : Expr} {f : Str} {ta : TE} {pos : Pos} (he : PE X e ta) (hb : attributeBase e f X.env (eval e X.env) = eval e X.env) : PE X (.Attribute e f pos) (tRow X.K ta f) := by
  intro pins s σ H Q I h
  refine attr_of hb (thn (he pins s σ H _ I h) fun u s1 ⟨x, H1, I1, rx, a, C, d, oe, od, i, ex, ea, ix, xg, no, ed, ro, q⟩ => ?_)
  subst ex
  obtain rfl : u = Value.ref a := rx
  obtain ⟨m, uv, hn, hm, ru⟩ := ro _ _ (I1.hok _ _ ed).1
  obtain ⟨t, rfl⟩ := id ru
  exact excR_dict xg I1.kIn (I1.hok _ _ ea).1 ix no hn.ns hm rfl ⟨.int i, H1, I1.tok _, ru, q⟩
abbrev XRr := St → Addr → Addr → Hp → Prop
def XQR (X : Cx) (pins : List (Addr × Obj)) (R : XRr) (e : Value) (s' : Shared) : Prop :=
  ∃ ea t C B H H' σ s d, e = .ref ea ∧ Inv X pins σ H s ∧ Fly X.prog X.w X.stack H H' s C ea t B s' ∧ DictAt s'.heap ea d ∧ R σ C d H'
abbrev TSr := Ends → XRr → St → Hp → Prop
def PSsr (X : Cx) (st : List Stmt) (t : TSr) : Prop :=
  ∀ (pins : List (Addr × Obj)) (s : Shared) (σ : St) (H : Hp) (D : Ends) (R : XRr), Inv X pins σ H s → t D R σ H → wpAny (model X.prog X.w) X.A (execs st X.env) (SP X pins D) (XQR X pins R) s
section
variable {X : Cx} {e : Expr} {es : List Expr} {pos : Pos}
theorem run_fnR {pins : List (Addr × Obj)} {σ : St} {H : Hp} {s : Shared} {Q : VK} {R : XRr} {us : List Value} {vs : List V} {k : Nat} {f : Addr} {fd : FuncData} {ps : List Str} {sp : Sp} (F : FnOk X.prog X.w X.K X.mg X.base (CXR X.prog X.w) k f fd ps sp) (hr : Room k X.A) (hb : Binds X.K fd ps [])
    (I : Inv X pins σ H s) (r : Vals vs us) (h : sp vs H Q (fun c d H2 => ∃ C d', c = .ref C ∧ d = some d' ∧ R σ C d' H2)) : wpAny (model X.prog X.w) X.A (call (.ref f) us) (EP X pins σ Q) (XQR X pins R) s := by
  have hl : us.length = ps.length := by rw [← r.length]; exact F.len _ _ _ _ h
  have hb' : BindsTo s fd ⟨us, []⟩ (ps.zip us) := by
    have z := hb s us I.kIn (by simpa using hl)
    rwa [List.append_nil] at z
  refine wpAny_call (codeAny_mono (F.run X.A X.stack s H ⟨us, []⟩ us vs Q _ hr I.env0 hb' r h) fun r s' hq => ?_)
  cases r with
  | error e =>
    obtain ⟨ea, t, C, B, H', d, e1, F, da, C', d', e2, e3, q⟩ := hq
    cases e2; cases e3
    exact ⟨ea, t, C, B, H, H', σ, s, d, e1, I, F, da, q⟩
  | ok fl =>
    cases fl with
    | ret u => exact I.after hq
    | next => exact False.elim hq
    | brk => exact False.elim hq
    | cont => exact False.elim hq
def trSet (i : Nat) (sp : Sp) (t : TA) : TSr := fun D R σ H => t σ H fun vs H1 => sp vs H1 (fun v H2 => D.nx (σ.set i (some v)) H2) (fun c d H2 => ∃ C d', c = .ref C ∧ d = some d' ∧ R σ C d' H2)
theorem pssr_set {k i : Nat} {x y : Str} {ps : List Str} {sp : Sp} {t : TA} {p p2 apos : Pos} (hN : X.N.Nodup) (hi : X.N[i]? = some y) (hy : Loc X.env.scope y) (F : FnR X.prog X.w X.K X.mg X.base k x ps sp) (hr : Room k X.A) (hg : Gl X x) (ha : PA X.nox (e :: es) t)
    (hs : swapsWith (.Call (.Name x p) (e :: es) [] pos) (some (.Name y p2)) apos.line X.env = pure false := by rfl) (hf : X.fn y = true ∨ X.env.scope.names.lookup y = some .local := by first | exact .inl rfl | exact .inr rfl | assumption) (hdb : (x == ("__debug__" : Str)) = false := by decide)
    (he : starEach (e :: es) X.env = (false, eval e X.env) :: starEach es X.env := by rfl) (hpl : (backTo pos (starEach es X.env)).any (·.1) = false := by rfl) : PSsr X [.Assign [.Name y p2] (.Call (.Name x p) (e :: es) [] pos) apos] (trSet i sp t) := by
  obtain ⟨f, fd, h1, h2, h3, h4⟩ := F
  intro pins s σ H D R I h
  refine wpAny_execs_cons (wpAny_Assign_Name (wpAny_Call_Name_kw (ld_glob I hg h1 ?_ hdb)) hs)
  refine PySem.W.callWith_K (h₀ := X.base) I.ok.mod.kin h2 (wpAny_mono (ha pos pins s σ H _ (I.wish _) h) (fun us s1 ⟨vs, H1, I1, r, q⟩ => ⟨I1.unwish.kIn, ?_⟩) fun _ _ z => False.elim z) he hpl
  refine wpAny_mono (run_fnR h4 hr h3 I1.unwish r q) (fun u s2 ⟨v, H2, I2, rv, q2⟩ => ?_) fun _ _ z => z
  exact store_ok I2 hN hi hy rv (fun s3 I3 => wpAny_execs_nil ⟨_, H2, I3, q2⟩) hf
def tTryR (C : Addr) (i : Nat) (tb : TSr) (te th : TS) : TS := fun D σ H => tb { D with nx := te D } (fun σ' C' d H' => C' = C ∧ ∀ ea oe, H' ea = none → IsR C d oe → th (handEnds i D) (σ'.set i (some (.ref ea))) (upd H' ea (.frz oe (.own 0)))) σ H
theorem ps_tryR {x n : Str} {C : Addr} {i : Nat} {body suite orelse : List Stmt} {b₀ : Stmt} {tb : TSr} {te th : TS} {np hpos pos : Pos} (hex : X.ex = []) (hst : X.stack = X.env :: X.outer ∧ X.env.frame = some X.env.locals) (hN : X.N.Nodup) (hi : X.N[i]? = some n) (hk : X.env.scope.names.lookup n = some .local)
    (xc : XOwn X.K C) (hg : Gl X x) (hm : X.mg x = some (.ref C)) (hb : PSsr X body tb) (ho : PSs X orelse te) (hh : ∀ e, PSs (X.hand e).nox (b₀ :: suite) th) (hdb : (x == ("__debug__" : Str)) = false := by decide) :
    PS X (.Try body [.ExceptHandler (some (.Name x np)) (some n) (b₀ :: suite) hpos] orelse [] pos) (tTryR C i tb te th) := by
  intro pins s σ H D I h
  refine wpAny_Try_except (wpAny_mono (hb pins s σ H { D with nx := te D } _ I h) (fun f s1 q => ?_) fun e s1 q => ?_)
  · cases f with
    | next => obtain ⟨σ1, H1, I1, q⟩ := q; exact ho pins s1 σ1 H1 D I1 q
    | brk => exact q
    | cont => exact q
    | ret u => exact q
  · obtain ⟨ea, t, C', B, H0, H', σ', s0, d, rfl, I0, F, da, rfl, q⟩ := q
    refine land_okR hex hst xc hg hm hdb I0 F da fun s3 k => codeAny_handlers_suite_as (k fun s4 oe I4 I5 n0 ix => ?_)
    refine store_ok (X := X.hand ea) (I5.hand ea) hN hi (.inl hk) (v := .ref ea) rfl (fun s6 I6 => ?_) (.inr hk)
    refine wpAny_mono (hh ea pins s6 _ _ (handEnds i D) (I6.wish _) (q ea oe n0 ix)) (fun f s7 q7 => ?_) fun _ _ z => z.elim
    cases f with
    | next => obtain ⟨σ7, H7, I7, q⟩ := q7; exact unbind_ok (I7.unwish.unhand I0.ok) hN hi hk fun s8 I8 => ⟨_, _, I8, q⟩
    | brk => obtain ⟨σ7, H7, I7, q⟩ := q7; exact unbind_ok (I7.unwish.unhand I0.ok) hN hi hk fun s8 I8 => ⟨_, _, I8, q⟩
    | cont => obtain ⟨σ7, H7, I7, q⟩ := q7; exact unbind_ok (I7.unwish.unhand I0.ok) hN hi hk fun s8 I8 => ⟨_, _, I8, q⟩
    | ret u => obtain ⟨v, σ7, H7, I7, r, q⟩ := q7; exact unbind_ok (I7.unwish.unhand I0.ok) hN hi hk fun s8 I8 => ⟨v, _, _, I8, r, q⟩
end
end L2
namespace L2
open PySem PySem.Spec PyProof.Rows
theorem comp_rangeT {lo : Int} {n : Nat} {js : List Nat} {tt : TT} {te : TE} {σ : St} {H : Hp} {R : Addr → Hp → Prop} (Pv : Addr → Nat → List V → Hp → Prop) (h0 : ∀ D, H D = none → Pv D 0 [] (upd H D (.lst [])))
    (hs : ∀ D (i : Nat) ys H' (Qe : VK) (Qn : Hp → Prop), H D = none → i < n → Pv D i ys H' → (∀ y H3, H3 D = some (.lst ys) → ys.length < sizeLine → Pv D (i + 1) (ys ++ [y]) (upd H3 D (.lst (ys ++ [y]))) → Qe y H3) → (∀ H2, Pv D (i + 1) ys H2 → Qn H2) →
      tt (some (.int (lo + (i : Nat))) :: capt js σ) H' fun b H2 => if b = true then te (some (.int (lo + (i : Nat))) :: capt js σ) H2 Qe else Qn H2)
    (hd : ∀ D ys H', H D = none → Pv D n ys H' → R D H') :
    ∀ D, H D = none → ∃ W : Nat → Nat → List V → Hp → Prop, (∃ m, W 0 m [] (upd H D (.lst []))) ∧ ∀ i m ys H, W i m ys H →
      ((Itr lo n).stop i H ∧ R D H) ∨ ((Itr lo n).go i H ∧ ∀ x H', (Itr lo n).yld i H x H' → tt (some x :: capt js σ) H' fun b H2 => if b = true then te (some x :: capt js σ) H2 fun y H3 => H3 D = some (.lst ys) ∧ ys.length < sizeLine ∧ ∃ m', m' < m ∧ W (i + 1) m' (ys ++ [y]) (upd H3 D (.lst (ys ++ [y])))
        else ∃ m', m' < m ∧ W (i + 1) m' ys H2) := by
  intro D hD
  refine ⟨fun i m ys H' => m = n - i ∧ i ≤ n ∧ Pv D i ys H', ⟨n, by simp, by omega, h0 D hD⟩, ?_⟩
  rintro i m ys H' ⟨rfl, hi, hp⟩
  by_cases hlt : i < n
  · refine .inr ⟨hlt, fun x H2 ⟨e2, ex⟩ => ?_⟩
    subst e2 ex
    exact hs D i ys _ _ _ hD hlt hp (fun y H3 a b c => ⟨a, b, n - (i + 1), by omega, rfl, by omega, c⟩) fun H2 c => ⟨n - (i + 1), by omega, rfl, by omega, c⟩
  · have e : i = n := by omega
    subst e
    exact .inl ⟨Nat.le_refl _, hd D ys H' hD hp⟩
theorem eqB_tupS {H : Hp} {a c : Addr} {xs : List V} (ha : H a = some (.tup xs)) (hc : H c = some (.tup xs)) (hf : ∀ x ∈ xs, flatV x = true) : EqB H 1 (.ref a) (.ref c) true := by
  refine .inr (.inl ⟨a, c, xs, xs, fun _ => true, rfl, rfl, ha, hc, fun i u v h1 h2 => ?_, ?_⟩)
  · rw [h1] at h2; cases h2
    have f := hf u (List.mem_of_getElem? h1)
    exact .inl ⟨f, f, (eqV_self f).symm⟩
  · rw [all_true]; simp
theorem eqB_lstS {H : Hp} {n : Nat} {a c : Addr} {xs ys : List V} (ha : H a = some (.lst xs)) (hc : H c = some (.lst ys)) (hl : xs.length = ys.length) (hf : ∀ (i : Nat) u v, xs[i]? = some u → ys[i]? = some v → EqB H n u v true) : EqB H (n + 1) (.ref a) (.ref c) true := by
  refine .inr (.inr ⟨a, c, xs, ys, fun _ => true, rfl, rfl, ha, hc, hf, ?_⟩)
  rw [all_true, hl]; simp
theorem op_neBU {X : Cx} (u : Nat) (hu : X.A.units = u) : OpR X (compareOp .NotEq) (fun x y H Q => ∃ n b, EqB H n x y b ∧ u + n + 1 < cLine ∧ Q (.bl !b) H) := by subst hu; exact op_neB
theorem op_eqBU {X : Cx} (u : Nat) (hu : X.A.units = u) : OpR X (compareOp .Eq) (fun x y H Q => ∃ n b, EqB H n x y b ∧ u + n + 1 < cLine ∧ Q (.bl b) H) := by subst hu; exact op_eqB
theorem op_catTK {X : Cx} (K : PySem.W.Frag) (h : X.K = K) : OpR X (binaryOp .Add) (rCatT K) := by subst h; exact op_catT
theorem pe_rowK {X : Cx} (K : PySem.W.Frag) (hK : X.K = K) {e : Expr} {f : Str} {ta : TE} {pos : Pos} (he : PE X e ta) (hb : attributeBase e f X.env (eval e X.env) = eval e X.env) : PE X (.Attribute e f pos) (tRow K ta f) := by subst hK; exact pe_row he hb
end L2
namespace My
open PySem L2
def top (i : Nat) : Stmt := PySem.Challenge.pw_growbook_k09_rows_read.main.body.getD i (.Pass ⟨0, 0, 0, 0⟩)
abbrev sCell : Stmt := top 16
abbrev sLaw : Stmt := top 22
abbrev sInD : Stmt := top 6
abbrev sDraw : Stmt := top 17
abbrev sIsKey : Stmt := top 10
abbrev sReadKey : Stmt := top 11
abbrev sReadRow : Stmt := top 13
abbrev sReadRows : Stmt := top 14
abbrev sLtext : Stmt := top 18
abbrev sLbad : Stmt := top 19
abbrev sLrow : Stmt := top 20
abbrev sLalone : Stmt := top 21
abbrev sReadAt : Stmt := top 12
abbrev mBRInit : Stmt := inClass (top 3) 0
section
variable {P : Program} {w : World} {K : PySem.W.Frag} {mg : Str → Option Value} {base : Heap} {C : Addr}
def spDraw : Sp := fun vs H Q _ => ∃ c k m : Int, vs = [.int c, .int k, .int m] ∧ 0 ≤ k ∧ 0 < m ∧ ∀ (v : Int) H', 0 ≤ v → v < m → (∀ b o, H b = some o → H' b = some o) → Q (.int v) H'
theorem scDr : FnScope ["_law_cell", "_law_k", "_law_many", "_law_primes"] ["_law_cell", "_law_k", "_law_many"] (defScope sDraw) := ⟨rfl, rfl, rfl, by decide +kernel, rfl, by decide +kernel, by decide +kernel⟩
def primes : List Int := [1000003, 1000033, 1000037, 1000039, 1000081, 1000099, 1000117, 1000121, 1000133, 1000151, 1000159, 1000171, 1000183, 1000187, 1000193, 1000199]
theorem primes_pos {j : Nat} {p : Int} (h : primes[j]? = some p) : 0 < p := by
  have key : ∀ p ∈ primes, 0 < p := by decide
  exact key p (List.mem_of_getElem? h)
def drA : Stmt := (defBody sDraw).getD 0 (.Pass ⟨0, 0, 0, 0⟩)
def drB : Stmt := (defBody sDraw).getD 1 (.Pass ⟨0, 0, 0, 0⟩)
theorem dr_eq : defBody sDraw = [drA, drB] := rfl
theorem dr_A : ∃ es x1 p1 p2 p3, drA = .Assign [.Name "_law_primes" p1] (.Tuple es x1 p2) p3 ∧ IntCs es primes :=
  ⟨_, _, _, _, _, rfl, .cons (.cons (.cons (.cons (.cons (.cons (.cons (.cons (.cons (.cons (.cons (.cons (.cons (.cons (.cons (.cons .nil)))))))))))))))⟩
theorem ok_draw (F : FunAt K mg "_law_draw" sDraw) : FnP P w K mg base 1 "_law_draw" ["_law_cell", "_law_k", "_law_many"] spDraw := by
  refine F.ok scDr (fun _ _ _ _ _ _ us hl => match us, hl with | [_, _, _], _ => rfl) (fun vs H Q E h => ?_) (fun f0 cdv A outer s H vs Q E hr h => ?_)
  · obtain ⟨c, k, m, rfl, _⟩ := h; rfl
  obtain ⟨c, k, m, rfl, hk, hm, q⟩ := h
  have nd := scDr.nd
  obtain ⟨es, x1, p1, p2, p3, eA, hes⟩ := dr_A
  rw [dr_eq, eA]
  refine ⟨_, pss_cons (ps_set (i := 3) nd rfl (Or.inl rfl) (pe_tup (pa_ints hes))) <|
    pss_one (ps_ret (pe_op op_mod (pe_op op_mod (pe_op op_add (pe_op op_mul (pv 0) pe_int) (pe_op op_mul (pv 1) pe_int)) (pe_ix ix_tup (pv 3) (pe_op op_mod (pv 1) pe_int) (fun _ _ => rfl))) (pv 2))), ?_⟩
  refine ⟨(by show 16 ≤ sizeLine; decide), fun p hp => ?_⟩
  have hj : (k % 16).toNat < primes.length := by show (k % 16).toNat < 16; omega
  obtain ⟨pr, epr⟩ : ∃ pr, primes[(k % 16).toNat]? = some pr := ⟨_, List.getElem?_eq_getElem hj⟩
  have hpr := primes_pos epr
  have eat : atI (primes.map V.int) (k % 16) = some (.int pr) := by
    have z : atI (primes.map V.int) (((k % 16).toNat : Nat) : Int) = some (.int pr) := atI_nat (by rw [List.getElem?_map, epr]; rfl)
    rw [show (((k % 16).toNat : Nat) : Int) = k % 16 by omega] at z
    exact z
  refine ⟨_, rfl, _, _, rfl, rfl, .inr ⟨by decide, by decide⟩, _, rfl, _, _, rfl, rfl, .inr ⟨by decide, by decide⟩, _, _, rfl, rfl, _, rfl, _, rfl, _, _, rfl, rfl, (by show (0 : Int) < 16; decide), p, primes.map V.int, _, _, rfl, rfl, .inl (.inl upd_same), eat, _, _, rfl, rfl, hpr, _, rfl, _, _, rfl, rfl, hm, ?_⟩
  exact q _ _ (Int.emod_nonneg _ (by omega)) (Int.emod_lt_of_pos _ hm) fun b o e => by rw [upd_ne (ne_of_none e hp)]; exact e
end
def SqF (K : PySem.W.Frag) (H : Hp) (a : Addr) (xs : List V) : Prop := (∃ o, H a = some (.frz o (.lst xs))) ∨ ∀ H', SqL K H' a xs
theorem SqF.sq {K : PySem.W.Frag} {H : Hp} {a : Addr} {xs : List V} (h : SqF K H a xs) : SqL K H a xs := by
  rcases h with ⟨o, h⟩ | h
  · exact .inl (.inr ⟨o, h⟩)
  · exact h H
theorem sqF_of {K : PySem.W.Frag} {H : Hp} {a : Addr} {xs : List V} (h : SqL K H a xs) (s : Scr K H a xs) : SqF K H a xs := by
  rcases h with (h | ⟨o, h⟩) | h
  · obtain ⟨its, n, r, z, ⟨u, e⟩ | e⟩ := s
    · rw [h] at e; cases e
    · have hl := r.length
      exact .inr fun H' => .inr ⟨_, its.toArray, n, e, rfl, rfl, rfl, by simp; omega, by simpa using r⟩
  · exact .inl ⟨o, h⟩
  · exact .inr fun H' => .inr h
end My
namespace My
open PySem L2
section
variable {P : Program} {w : World} {K : PySem.W.Frag} {mg : Str → Option Value} {base : Heap} {C B : Addr}
def spXI (C : Addr) : Sp := fun vs H Q _ => ∃ (e : Addr) (i : Int), vs = [.ref e, .int i] ∧ i.natAbs.log2 < 1920 ∧ H e = some (.ext (Ex0 C e)) ∧ ∀ d od, H d = none → RowO "row" (.int i) od → Q .non (upd (upd H e (.ext (Ex1 C e d))) d (.frz od (.own 0)))
theorem scXI : FnScope ["self", "row"] ["self", "row"] (defScope mBRInit) := ⟨rfl, rfl, rfl, by decide +kernel, rfl, by decide +kernel, by decide +kernel⟩
theorem ok_brinit (F : MethAt K C "__init__" "BadRow.__init__" mBRInit) (T : XOwn K C) (S : XSet K C "row") (R : ClsRd K B) (mB : mg "BookError" = some (.ref B)) : MtP P w K mg base C 1 "__init__" ["self", "row"] (spXI C) := by
  refine F.ok scXI (fun _ _ _ _ _ _ us hl => match us, hl with | [_, _], _ => rfl) (fun vs H Q E h => ?_) (fun f0 cdv A outer s H vs Q E hr h => ?_)
  · obtain ⟨e, i, rfl, _⟩ := h; rfl
  obtain ⟨e, i, rfl, hi, he, q⟩ := h
  refine ⟨_, pss_cons (ps_expr (pe_xinit (pl := _) T R rfl mB (pa_cons (pv 0) (pa_cons (pe_fstr (pv 1) (by decide +kernel)) pa_nil)))) <|
    pss_one (ps_xrow S (pv 0) (pv 1) rfl), ?_⟩
  refine ⟨_, rfl, _, rfl, i, rfl, hi, fun z hz => ⟨e, z, rfl, he, ?_⟩⟩
  exact ⟨_, rfl, _, rfl, e, rfl, he, fun d od nd ro => q d od nd ro⟩
end
end My
namespace My
open PySem L2
open Tx in
def spIsKey : Sp := fun vs H Q _ => ∃ z : Str, vs = [.str z] ∧ z.length ≤ 1000 ∧ z.cps.all (· < 128) = true ∧ ∀ H', (∀ b o, H b = some o → H' b = some o) → Q (.bl (decide (0 < (sg z).length ∧ (sg z).length ≤ 9) && dg (sg z))) H'
section
open Tx
variable {P : Program} {w : World} {K : PySem.W.Frag} {mg : Str → Option Value} {base : Heap}
theorem scIsk : FnScope ["word"] ["word"] (defScope sIsKey) := ⟨rfl, rfl, rfl, by decide +kernel, rfl, by decide +kernel, by decide +kernel⟩
theorem ok_iskey {tf tm : Tok} (F : FunAt K mg "is_key" sIsKey) (mf : mg "FIGURES" = some (.str "0123456789" tf)) (mm : mg "MOST_FIGURES" = some (.int 9 tm)) (ml : mg "len" = none) (ma : mg "all" = none) : FnP P w K mg base 1 "is_key" ["word"] spIsKey := by
  refine F.ok scIsk (fun _ _ _ _ _ _ us hl => match us, hl with | [_], _ => rfl) (fun vs H Q E h => ?_) (fun f0 cdv A outer s H vs Q E hr h => ?_)
  · obtain ⟨z, rfl, _⟩ := h; rfl
  obtain ⟨z, rfl, hz, ha, q⟩ := h
  refine' ⟨_, pss_one (ps_ret (pe_and (pe_chain op_lt op_le pe_int (pe_callB call_len_str rfl ml PySem.boot_len (pa_cons (pv 0) pa_nil)) (pe_glob (v := .int 9) rfl mm ⟨_, rfl⟩)) (pe_one (pe_callB (call_all rfl) rfl ma PyProof.Rows.boot_all (pa_cons (pe_comp (ys := []) (js := []) ?ok (pi_str (pv 0)) (fun _ _ _ => pts_nil) ?he) pa_nil))))), ?rd⟩
  case ok =>
    refine ⟨rfl, rfl, rfl, by decide +kernel, by decide +kernel, rfl, by decide +kernel, same_of (fun p hp => ?_), rfl, fun i y h => ?_, rfl⟩
    · simp at hp
    · simp at h
  case he =>
    exact fun _ _ _ => pe_cmpR op_inS (pv 0) (pe_glob (v := .str "0123456789") rfl mf ⟨_, rfl⟩) rfl
  case rd =>
  have hl := sg_len z
  refine ⟨_, rfl, z, rfl, by rw [sizeLine_eq]; omega, _, _, rfl, rfl, _, rfl, ?_⟩
  have no : ¬ (0 < (sg z).length ∧ (sg z).length ≤ 9) → Q (.bl false) H := fun n => by
    have := q H fun _ _ e => e
    rw [decide_eq_false n] at this
    exact this
  refine ite2 (fun c1 => ?_) (fun c1 => ?_)
  · refine ⟨_, _, rfl, rfl, _, rfl, ite2 (fun c2 => ?_) (fun c2 => ?_)⟩
    · have d1 : (0 : Int) < (z.length : Nat) := of_decide_eq_true c1
      have d2 : ((z.length : Nat) : Int) ≤ 9 := of_decide_eq_true c2
      rw [hl] at d1 d2
      have q : ∀ H', (∀ b o, H b = some o → H' b = some o) → Q (.bl (dg (sg z))) H' := fun H' x => by
        have := q H' x
        rw [decide_eq_true ⟨by omega, by omega⟩, Bool.true_and] at this
        exact this
      refine ⟨_, rfl, z, rfl, ha, ?_⟩
      refine comp_str (fun D i ys H' => (∀ b o, H b = some o → H' b = some o) ∧ H' D = some (.lst ys) ∧ ys = ((sg z).take i).map fun c => V.bl (decide (48 ≤ c ∧ c ≤ 57))) (fun D hD => ⟨fun b o e => by rw [upd_ne (ne_of_none e hD)]; exact e, upd_same, rfl⟩) ?_ ?_
      · rintro D i c ys H1 Qb hD hc ⟨x1, hD1, rfl⟩ hQ
        have hc : (sg z)[i]? = some c := by simpa using hc
        refine ⟨_, rfl, _, _, rfl, rfl, ?_⟩
        rw [fig]
        have hi : i < (sg z).length := (List.getElem?_eq_some_iff.mp hc).1
        refine hQ _ H1 hD1 (by rw [sizeLine_eq, List.length_map, List.length_take]; omega) ⟨fun b o e => by rw [upd_ne (ne_of_none e hD)]; exact x1 b o e, upd_same, ?_⟩
        rw [List.take_succ, hc]
        simp
      · rintro D ys H1 hD ⟨x1, hD1, rfl⟩
        have ez : z.cps.size = (sg z).length := by simp
        rw [ez, List.take_length] at hD1
        refine ⟨D, (sg z).map fun c => decide (48 ≤ c ∧ c ≤ 57), rfl, SqL.of (by rw [List.map_map]; exact hD1), ?_⟩
        have e : ((sg z).map fun c => decide (48 ≤ c ∧ c ≤ 57)).all id = dg (sg z) := by
          unfold dg
          rw [List.all_map]
          rfl
        rw [e]
        exact q H1 x1
    · have d2 : ¬ ((z.length : Nat) : Int) ≤ 9 := of_decide_eq_false (Bool.eq_false_iff.mpr c2)
      exact no (by rw [← hl]; omega)
  · have d1 : ¬ (0 : Int) < (z.length : Nat) := of_decide_eq_false (Bool.eq_false_iff.mpr c1)
    exact ⟨_, rfl, iteF (no (by rw [← hl]; omega))⟩
end
end My
namespace My
open PySem L2
section
open Tx PySem.NumText
variable {P : Program} {w : World} {K : PySem.W.Frag} {mg : Str → Option Value} {base : Heap} {C : Addr}
def spInD : Sp := fun vs H Q _ => ∃ (k : Int) (D : Nat), vs = [.int k, .int D] ∧ Q (.bl (decide (0 ≤ k ∧ k < 2 ^ D))) H
theorem scID : FnScope ["key", "depth"] ["key", "depth"] (defScope sInD) := ⟨rfl, rfl, rfl, by decide +kernel, rfl, by decide +kernel, by decide +kernel⟩
theorem ok_ind (F : FunAt K mg "in_depth" sInD) : FnP P w K mg base 1 "in_depth" ["key", "depth"] spInD := by
  refine F.ok scID (fun _ _ _ _ _ _ us hl => match us, hl with | [_, _], _ => rfl) (fun vs H Q E h => ?_) (fun f0 cdv A outer s H vs Q E hr h => ?_)
  · obtain ⟨k, D, rfl, _⟩ := h; rfl
  obtain ⟨k, D, rfl, q⟩ := h
  refine ⟨_, pss_one (ps_ret (pe_and (pe_cmpR op_ge (pv 0) pe_int (nomark _)) (pe_one (pe_cmpR op_le (pe_bm0 PySem.F.plainAttrs_int PySem.F.slot_int_bit_length PySem.F.type_int_bit_length mt_bitlen (pv 0)) (pv 1) (nomark _))))), ?_⟩
  refine ⟨_, rfl, _, _, rfl, rfl, _, rfl, ?_⟩
  refine ite2 (fun c => ?_) (fun c => ?_)
  · have h0 : (0 : Int) ≤ k := of_decide_eq_true c
    refine ⟨_, rfl, rfl, _, rfl, rfl, _, rfl, _, _, rfl, rfl, ?_⟩
    have e : decide (((Builtin.Int.intBits k : Nat) : Int) ≤ (D : Int)) = decide (0 ≤ k ∧ k < 2 ^ D) := by
      rw [decide_eq_decide, bits_lt h0]
      exact ⟨fun z => ⟨h0, z⟩, fun z => z.2⟩
    show Q (V.bl (decide (((Builtin.Int.intBits k : Nat) : Int) ≤ (D : Int)))) H
    rw [e]; exact q
  · have h0 : ¬ (0 : Int) ≤ k := of_decide_eq_false (Bool.eq_false_iff.mpr c)
    rw [decide_eq_false (fun z => h0 z.1)] at q
    exact q
def BrOk (P : Program) (w : World) (K : PySem.W.Frag) (mg : Str → Option Value) (base : Heap) (C : Addr) : Prop := mg "BadRow" = some (.ref C) ∧ ∃ fi fd, XInit K C fi ∧ Binds K fd ["self", "row"] [] ∧ FnOk P w K mg base CX0 1 fi fd ["self", "row"] (spXI C)
def Refd (C : Addr) (pl : Int) (H : Hp) (E : XK) : Prop := ∀ H' d od, (∀ b o, H b = some o → H' b = some o) → H' d = some (.frz od (.own 0)) → RowO "row" (.int pl) od → E (.ref C) (some d) H'
theorem Refd.up {C : Addr} {pl : Int} {H H1 : Hp} {E : XK} (r : Refd C pl H E) (x : ∀ b o, H b = some o → H1 b = some o) : Refd C pl H1 E := fun H' d od k => r H' d od fun b o e => k b o (x b o e)
theorem ps_bad {X : Cx} {E : XK} {e : Expr} {te : TE} {np cpos pos : Pos} (hx : RaisesR X E) (hh : X.A.handled = none) (B : BrOk X.prog X.w X.K X.mg X.base C) (hr : Room 2 X.A) (hg : Gl X "BadRow") (ha : PE X e te) (he : starEach [e] X.env = (false, eval e X.env) :: starEach [] X.env := by rfl) :
    PS X (.Raise (some (.Call (.Name "BadRow" np) [e] [] cpos)) none pos) (tRaiseR X.s₀.heap C (spXI C) E (tCons te tNil)) := by
  obtain ⟨hm, fi, fd, T, hb, F⟩ := B
  exact ps_raiseR hx hh T F hr hb hg hm (pa_cons ha pa_nil (hs := he)) (by decide) he rfl
theorem bad_rd {h0 : Heap} {E : XK} {i : Nat} {D : Ends} {σ : St} {H : Hp} {pl : Int} (hs : σ[i]? = some (some (.int pl))) (hp : pl.natAbs.log2 < 1920) (r : Refd C pl H E) : tRaiseR h0 C (spXI C) E (tCons (tVar i) tNil) D σ H := by
  refine ⟨_, hs, (by show 1 ≤ 1000; decide), fun e n0 n1 => ⟨e, pl, rfl, hp, upd_same, fun d od nd ro => ⟨rfl, e, d, rfl, n1, ?_, ?_⟩⟩⟩
  · have ne : e ≠ d := by rintro rfl; rw [upd_same] at nd; cases nd
    rw [upd_ne ne]; exact upd_same
  · have ne : d ≠ e := by rintro rfl; rw [upd_same] at nd; cases nd
    rw [upd_ne ne] at nd
    refine r _ d od (fun b o z => ?_) (by rw [drp_ne ne]; exact upd_same) ro
    rw [drp_ne (ne_of_none z n0), upd_ne (ne_of_none z nd), upd_ne (ne_of_none z n0), upd_ne (ne_of_none z n0)]; exact z
def spRdK (C : Addr) : Sp := fun vs H Q E => ∃ (z : Str) (D : Nat) (pl : Int), vs = [.str z, .int (D : Int), .int pl] ∧ z.length ≤ 1000 ∧ z.cps.all (· < 128) = true ∧ pl.natAbs.log2 < 1920 ∧
  match keyR (sg z) D with
  | some k => ∀ H', (∀ b o, H b = some o → H' b = some o) → Q (.int (k : Int)) H'
  | none => Refd C pl H E
theorem scRdK : FnScope ["word", "depth", "place", "key"] ["word", "depth", "place"] (defScope sReadKey) := ⟨rfl, rfl, rfl, by decide +kernel, rfl, by decide +kernel, by decide +kernel⟩
theorem ok_readkey (F : FunAt K mg "read_key" sReadKey) (Fk : FnP P w K mg base 1 "is_key" ["word"] spIsKey) (Fi : FnP P w K mg base 1 "in_depth" ["key", "depth"] spInD) (B : BrOk P w K mg base C) (mi : mg "int" = none) : FnR P w K mg base 3 "read_key" ["word", "depth", "place"] (spRdK C) := by
  refine F.okR scRdK (fun _ _ _ _ _ _ us hl => match us, hl with | [_, _, _], _ => rfl) (fun vs H Q E h => ?_) (fun f0 cdv A outer s H vs Q E hr h => ?_)
  · obtain ⟨z, D, pl, rfl, _⟩ := h; rfl
  obtain ⟨z, D, pl, rfl, hz, ha, hp, q⟩ := h
  have nd := scRdK.nd
  refine ⟨_, pss_cons (ps_if (pt_not (pt_val (pe_callN Fk (hr.mono (by omega)) rfl (pa_cons (pv 0) pa_nil)))) (pss_one (ps_bad raisesR_cx hr.hd B hr rfl (pv 2))) pss_nil) <|
    pss_cons (ps_set (i := 3) nd rfl (Or.inl rfl) (pe_callTy call_int_text rfl mi PyProof.Rows.boot_int (pa_cons (pv 0) pa_nil))) <|
    pss_cons (ps_if (pt_not (pt_val (pe_callN Fi (hr.mono (by omega)) rfl (pa_cons (pv 3) (pa_cons (pv 1) pa_nil))))) (pss_one (ps_bad raisesR_cx hr.hd B hr rfl (pv 2))) pss_nil) <|
    pss_one (ps_ret (pv 3)), ?_⟩
  refine ⟨_, rfl, z, rfl, hz, ha, fun H1 x1 => ⟨_, rfl, ?_⟩⟩
  unfold keyR at q
  cases hb : (decide (0 < (sg z).length ∧ (sg z).length ≤ 9) && dg (sg z)) with
  | false =>
    rw [if_neg (fun c => by rw [decide_eq_true ⟨c.1, c.2.1⟩, c.2.2.1] at hb; cases hb)] at q
    exact iteT (bad_rd rfl hp (Refd.up q x1))
  | true =>
    refine iteF ?_
    rw [Bool.and_eq_true] at hb
    have c1 := of_decide_eq_true hb.1
    have c2 := dg_iff.mp hb.2
    have rd := PySem.intText_digits (x := z) c2 (fun e => by have := c1.1; rw [show sg z = [] from e] at this; simp at this) (by omega)
    refine ⟨_, rfl, z, _, rfl, rd, by rw [sg_len]; omega, ?_⟩
    refine ⟨_, rfl, _, rfl, _, D, rfl, _, rfl, ?_⟩
    by_cases c3 : digitsVal (sg z) < 2 ^ D
    · rw [if_pos ⟨c1.1, c1.2, hb.2, c3⟩] at q
      have c4 : (0 : Int) ≤ ((digitsVal z.cps.toList : Nat) : Int) ∧ ((digitsVal z.cps.toList : Nat) : Int) < 2 ^ D := ⟨by omega, by exact_mod_cast c3⟩
      rw [decide_eq_true c4]
      exact iteF ⟨_, rfl, q H1 x1⟩
    · rw [if_neg (fun z => c3 z.2.2.2)] at q
      have c4 : ¬ ((0 : Int) ≤ ((digitsVal z.cps.toList : Nat) : Int) ∧ ((digitsVal z.cps.toList : Nat) : Int) < 2 ^ D) := fun y => c3 (by exact_mod_cast y.2)
      rw [decide_eq_false c4]
      exact iteT (bad_rd rfl hp (Refd.up q x1))
end
end My
namespace My
open PySem L2
section
open Tx PySem.NumText
variable {P : Program} {w : World} {K : PySem.W.Frag} {mg : Str → Option Value} {base : Heap} {C : Addr}
def spRdA (C : Addr) : Sp := fun vs H Q E => ∃ (z : Str) (D : Nat) (pl : Int), vs = [.str z, .int (D : Int), .int pl] ∧ z.length ≤ 1000 ∧ z.cps.all (· < 128) = true ∧ pl.natAbs.log2 < 1920 ∧
  match readR z D with
  | none => Refd C pl H E
  | some none => ∀ H', (∀ b o, H b = some o → H' b = some o) → Q .non H'
  | some (some (.put k v)) => ∀ H' p, (∀ b o, H b = some o → H' b = some o) → H' p = some (.tup [.str "put", .int (k : Int), .str v]) → Q (.ref p) H'
  | some (some (.cut k)) => ∀ H' p, (∀ b o, H b = some o → H' b = some o) → H' p = some (.tup [.str "cut", .int (k : Int)]) → Q (.ref p) H'
theorem scRdA : FnScope ["row", "depth", "place", "bare", "parts"] ["row", "depth", "place"] (defScope sReadAt) := ⟨rfl, rfl, rfl, by decide +kernel, rfl, by decide +kernel, by decide +kernel⟩
theorem ok_readat (F : FunAt K mg "read_at" sReadAt) (Fk : FnR P w K mg base 3 "read_key" ["word", "depth", "place"] (spRdK C)) (B : BrOk P w K mg base C) (ml : mg "len" = none) : FnR P w K mg base 4 "read_at" ["row", "depth", "place"] (spRdA C) := by
  refine F.okR scRdA (fun _ _ _ _ _ _ us hl => match us, hl with | [_, _, _], _ => rfl) (fun vs H Q E h => ?_) (fun f0 cdv A outer s H vs Q E hr h => ?_)
  · obtain ⟨z, D, pl, rfl, _⟩ := h; rfl
  obtain ⟨z, D, pl, rfl, hz, ha, hp, q⟩ := h
  have nd := scRdA.nd
  refine ⟨_, pss_cons (ps_set (i := 3) nd rfl (Or.inl rfl) (pe_bm PySem.F.plainAttrs_str PySem.F.slot_str_lstrip PySem.F.type_str_lstrip mt_lstripC (pv 0) (pa_cons pe_str pa_nil))) <|
    pss_cons (ps_if (PW.pt (pw_or (pt_cmpR op_eq (pv 3) pe_str (nomark _)) (pw_or1 (pt_val (pe_bm PySem.F.plainAttrs_str PySem.F.slot_str_startswith PySem.F.type_str_startswith mt_starts (pv 3) (pa_cons pe_str pa_nil)))))) (pss_one (ps_ret pe_non)) pss_nil) <|
    pss_cons (ps_if (pt_val (pe_bm PySem.F.plainAttrs_str PySem.F.slot_str_startswith PySem.F.type_str_startswith mt_starts (pv 3) (pa_cons pe_str pa_nil)))
      (pss_cons (ps_set (i := 4) nd rfl (Or.inl rfl) (pe_bm PySem.F.plainAttrs_str PySem.F.slot_str_partition PySem.F.type_str_partition mt_partition (pe_slice sl_str (pv 3) (po_some (pe_callB call_len_str rfl ml PySem.boot_len (pa_cons pe_str pa_nil))) po_none) (pa_cons pe_str pa_nil))) <|
       pss_cons (ps_if (pt_cmpR op_eq (pe_ix ix_tup (pv 4) pe_int (fun _ _ => rfl)) pe_str (nomark _)) (pss_one (ps_bad raisesR_cx hr.hd B (hr.mono (by omega)) rfl (pv 2))) pss_nil) <|
       pss_one (ps_ret (pe_tup (pa_cons pe_str (pa_cons (pe_callR passesR_cx Fk hr rfl (pa_cons (pe_ix ix_tup (pv 4) pe_int (fun _ _ => rfl)) (pa_cons (pv 1) (pa_cons (pv 2) pa_nil)))) (pa_cons (pe_ix ix_tup (pv 4) pe_int (fun _ _ => rfl)) pa_nil)))))) pss_nil) <|
    pss_cons (ps_if (pt_val (pe_bm PySem.F.plainAttrs_str PySem.F.slot_str_startswith PySem.F.type_str_startswith mt_starts (pv 3) (pa_cons pe_str pa_nil)))
      (pss_one (ps_ret (pe_tup (pa_cons pe_str (pa_cons (pe_callR passesR_cx Fk hr rfl (pa_cons (pe_bm PySem.F.plainAttrs_str PySem.F.slot_str_rstrip PySem.F.type_str_rstrip mt_rstripC (pe_slice sl_str (pv 3) (po_some (pe_callB call_len_str rfl ml PySem.boot_len (pa_cons pe_str pa_nil))) po_none) (pa_cons pe_str pa_nil)) (pa_cons (pv 1) (pa_cons (pv 2) pa_nil)))) pa_nil))))) pss_nil) <|
    pss_one (ps_bad raisesR_cx hr.hd B (hr.mono (by omega)) rfl (pv 2)), ?_⟩
  refine ⟨_, rfl, rfl, z, " ", rfl, rfl, by rw [sizeLine_eq]; omega, ?_⟩
  have hb : sg (Txt.lstripChars z " ") = (sg z).dropWhile (· == 32) := lstrip_sg z
  unfold readR at q
  rw [← hb] at q
  have sub : (sg (Txt.lstripChars z " ")).Sublist (sg z) := by rw [hb]; exact List.dropWhile_sublist _
  have lb : (Txt.lstripChars z " ").length ≤ 1000 := by rw [sg_len]; have := sub.length_le; rw [← sg_len z] at this; omega
  have az : ∀ c ∈ sg z, c < 128 := fun c hc => by
    have := Array.all_eq_true_iff_forall_mem.mp ha c (by simpa using hc)
    simpa using this
  have ab : ∀ c ∈ sg (Txt.lstripChars z " "), c < 128 := fun c hc => az c (sub.subset hc)
  clear hb sub
  generalize Txt.lstripChars z " " = b at q lb ab ⊢
  have asc : ∀ y : Str, (∀ c ∈ sg y, c ∈ sg b) → y.cps.all (· < 128) = true := fun y hy => Array.all_eq_true_iff_forall_mem.mpr fun c hc => by
    have := ab c (hy c (by simpa using hc))
    simpa using this
  unfold readB at q
  refine ⟨_, rfl, rfl, _, rfl, ?_⟩
  refine ite2 (fun c => ?_) (fun c => ?_)
  · have c' : V.str b = V.str "" := of_decide_eq_true c
    have c2 : b = "" := by injection c'
    rw [if_pos (Or.inl (by rw [c2]; rfl))] at q
    exact iteT (q H fun _ _ e => e)
  have nb : ¬ sg b = [] := fun e => c (decide_eq_true (by rw [show b = "" from sg_inj e]))
  refine ⟨_, rfl, rfl, b, "#", rfl, rfl, _, rfl, ?_⟩
  rw [starts_sg, show sg "#" = [35] by decide +kernel]
  cases h35 : List.isPrefixOf [35] (sg b) with
  | true =>
    rw [if_pos (Or.inr h35)] at q
    exact iteT (q H fun _ _ e => e)
  | false =>
  refine iteF ?_
  rw [if_neg (fun y => y.elim nb (fun y => by rw [h35] at y; cases y))] at q
  refine ⟨_, rfl, rfl, b, "put ", rfl, rfl, _, rfl, ?_⟩
  rw [starts_sg, put_sg]
  have l4 : ("put " : Str).length = 4 := by decide +kernel
  have l4' : ("cut " : Str).length = 4 := by decide +kernel
  cases hput : putL.isPrefixOf (sg b) with
  | true =>
    rw [if_pos hput] at q
    refine iteT ?_
    have hr4 : sg (Txt.slice b (some ((("put " : Str).length : Nat) : Int)) none) = (sg b).drop 4 := by rw [l4]; exact slice_sg b 4
    have ls := Txt.slice_le b (some ((("put " : Str).length : Nat) : Int)) none
    refine ⟨_, rfl, "put ", rfl, by decide, _, rfl, b, rfl, by rw [sizeLine_eq]; omega, rfl, _, " ", rfl, rfl, by decide, by rw [sizeLine_eq]; omega, fun p np => ?_⟩
    have x1 : ∀ v b' o, H b' = some o → (upd H p v) b' = some o := fun v b' o e => by rw [upd_ne (ne_of_none e np)]; exact e
    refine ⟨_, rfl, p, _, _, _, rfl, rfl, .inl (.inl upd_same), atI_nat (j := 1) rfl, rfl, _, rfl, ?_⟩
    by_cases c32 : 32 ∈ (sg b).drop 4
    · rw [if_pos c32] at q
      have cut : (sg b).drop 4 = ((sg b).drop 4).takeWhile (· != 32) ++ 32 :: (((sg b).drop 4).dropWhile (· != 32)).drop 1 ∧ 32 ∉ ((sg b).drop 4).takeWhile (· != 32) := by
        generalize (sg b).drop 4 = l at c32
        obtain ⟨a, r, rfl, na⟩ : ∃ a r, l = a ++ 32 :: r ∧ 32 ∉ a := by
          obtain ⟨a, r, e, n⟩ := List.append_of_mem c32 |> fun _ => List.eq_append_cons_of_mem c32
          exact ⟨a, r, e, n⟩
        obtain ⟨t1, t2⟩ := tw_no (b := r) na
        rw [t1, t2]
        exact ⟨rfl, na⟩
      obtain ⟨p1, p2, p3⟩ := part_at (hr4.trans cut.1) cut.2
      rw [decide_eq_false (fun y => by rw [p2] at y; injection y with y; exact absurd y (by decide +kernel))]
      refine iteF ?_
      refine ⟨_, rfl, p, _, _, _, rfl, rfl, .inl (.inl upd_same), atI_nat (j := 0) rfl, _, rfl, _, rfl, _, D, pl, rfl, ?_, asc _ (fun c' hc' => ?_), hp, ?_⟩
      · rw [sg_len, p1]
        have := (List.takeWhile_sublist (p := (· != 32)) (l := (sg b).drop 4)).length_le
        rw [List.length_drop, ← sg_len] at this
        omega
      · rw [p1] at hc'
        exact List.mem_of_mem_drop ((List.takeWhile_sublist _).subset hc')
      · rw [p1]
        cases hk : keyR (((sg b).drop 4).takeWhile (· != 32)) D with
        | none => rw [hk] at q; exact Refd.up q (x1 _)
        | some k =>
          rw [hk] at q
          intro H2 x2
          refine ⟨_, rfl, p, _, _, _, rfl, rfl, .inl (.inl (x2 _ _ upd_same)), atI_nat (j := 2) rfl, by show 3 ≤ sizeLine; decide, fun p3' np3 => ?_⟩
          have ev : (Txt.partition (Txt.slice b (some ((("put " : Str).length : Nat) : Int)) none) " ").2.2 = ⟨((((sg b).drop 4).dropWhile (· != 32)).drop 1).toArray⟩ := sg_inj (by rw [p3])
          rw [ev]
          exact q _ p3' (fun b' o e => by rw [upd_ne (ne_of_none (x2 _ _ (x1 _ b' o e)) np3)]; exact x2 _ _ (x1 _ b' o e)) upd_same
    · rw [if_neg c32] at q
      rw [part_no (by rw [hr4]; exact c32)]
      exact iteT (bad_rd (D := { nx := fun _ _ => True, rt := fun _ _ => True }) rfl hp (Refd.up q (x1 _)))
  | false =>
  refine iteF ?_
  rw [if_neg (by rw [hput]; simp)] at q
  refine ⟨_, rfl, rfl, b, "cut ", rfl, rfl, _, rfl, ?_⟩
  rw [starts_sg, cut_sg]
  cases hcut : cutL.isPrefixOf (sg b) with
  | true =>
    rw [if_pos hcut] at q
    refine iteT ?_
    have hr4 : sg (Txt.slice b (some ((("cut " : Str).length : Nat) : Int)) none) = (sg b).drop 4 := by rw [l4']; exact slice_sg b 4
    have ls := Txt.slice_le b (some ((("cut " : Str).length : Nat) : Int)) none
    have er : sg (Txt.rstripChars (Txt.slice b (some ((("cut " : Str).length : Nat) : Int)) none) " ") = (((sg b).drop 4).reverse.dropWhile (· == 32)).reverse := by rw [← hr4]; exact rstrip_sg _
    have sb : ∀ c' ∈ (((sg b).drop 4).reverse.dropWhile (· == 32)).reverse, c' ∈ sg b := fun c' hc' => by
      have h1 := (List.dropWhile_sublist _).subset (List.mem_reverse.mp hc')
      exact List.mem_of_mem_drop (List.mem_reverse.mp h1)
    have ll : ((((sg b).drop 4).reverse.dropWhile (· == 32)).reverse).length ≤ 1000 := by
      have h1 := (List.dropWhile_sublist (p := (· == 32)) (l := ((sg b).drop 4).reverse)).length_le
      rw [List.length_reverse, List.length_drop, ← sg_len] at h1
      rw [List.length_reverse]
      omega
    refine ⟨_, rfl, "cut ", rfl, by decide, _, rfl, b, rfl, by rw [sizeLine_eq]; omega, rfl, _, " ", rfl, rfl, by rw [sizeLine_eq]; omega, _, rfl, _, rfl, _, D, pl, rfl, ?_, asc _ (fun c' hc' => ?_), hp, ?_⟩
    · rw [sg_len, er]; exact ll
    · rw [er] at hc'; exact sb c' hc'
    · rw [er]
      cases hk : keyR (((sg b).drop 4).reverse.dropWhile (· == 32)).reverse D with
      | none => rw [hk] at q; exact q
      | some k =>
        rw [hk] at q
        intro H2 x2
        refine ⟨by show 2 ≤ sizeLine; decide, fun p np => ?_⟩
        exact q _ p (fun b' o e => by rw [upd_ne (ne_of_none (x2 _ _ e) np)]; exact x2 _ _ e) upd_same
  | false =>
    rw [if_neg (by rw [hcut]; simp)] at q
    exact iteF (bad_rd (D := { nx := fun _ _ => True, rt := fun _ _ => True }) rfl hp q)
end
end My
namespace My
open PySem L2
section
open Tx
variable {P : Program} {w : World} {K : PySem.W.Frag} {mg : Str → Option Value} {base : Heap} {C : Addr}
def spRdR (C : Addr) : Sp := fun vs H Q E => ∃ (z : Str) (D : Nat), vs = [.str z, .int (D : Int)] ∧ spRdA C [.str z, .int (D : Int), .int 0] H Q E
theorem scRdR : FnScope ["row", "depth"] ["row", "depth"] (defScope sReadRow) := ⟨rfl, rfl, rfl, by decide +kernel, rfl, by decide +kernel, by decide +kernel⟩
theorem ok_readrow (F : FunAt K mg "read_row" sReadRow) (Fa : FnR P w K mg base 4 "read_at" ["row", "depth", "place"] (spRdA C)) : FnR P w K mg base 5 "read_row" ["row", "depth"] (spRdR C) := by
  refine F.okR scRdR (fun _ _ _ _ _ _ us hl => match us, hl with | [_, _], _ => rfl) (fun vs H Q E h => ?_) (fun f0 cdv A outer s H vs Q E hr h => ?_)
  · obtain ⟨z, D, rfl, _⟩ := h; rfl
  obtain ⟨z, D, rfl, q⟩ := h
  refine ⟨_, pss_one (ps_ret (pe_callR passesR_cx Fa hr rfl (pa_cons (pv 0) (pa_cons (pv 1) (pa_cons pe_int pa_nil))))), ?_⟩
  exact ⟨_, rfl, _, rfl, q⟩
end
end My
namespace My
open PySem L2
section
open Tx
variable {P : Program} {w : World} {K : PySem.W.Frag} {mg : Str → Option Value} {base : Heap} {C : Addr}
def StepAt (H : Hp) : Nat × Stp → V → Prop
  | (n, .put k v), x => ∃ p, x = .ref p ∧ H p = some (.tup [.str "put", .int (k : Int), .str v, .int (n : Int)])
  | (n, .cut k), x => ∃ p, x = .ref p ∧ H p = some (.tup [.str "cut", .int (k : Int), .int (n : Int)])
theorem StepAt.up {H H' : Hp} {e : Nat × Stp} {x : V} (h : StepAt H e x) (k : ∀ p xs, H p = some (.tup xs) → H' p = some (.tup xs)) : StepAt H' e x := by
  obtain ⟨n, st⟩ := e
  cases st with
  | put a v => obtain ⟨p, e1, e2⟩ := h; exact ⟨p, e1, k _ _ e2⟩
  | cut a => obtain ⟨p, e1, e2⟩ := h; exact ⟨p, e1, k _ _ e2⟩
def stepsOf (D : Nat) : Nat → List Str → List (Nat × Stp)
  | _, [] => []
  | n, r :: l => (match readR r D with | some (some st) => [(n, st)] | _ => []) ++ stepsOf D (n + 1) l
theorem stepsOf_snoc (D : Nat) : ∀ (n : Nat) (l : List Str) (r : Str), stepsOf D n (l ++ [r]) = stepsOf D n l ++ (match readR r D with | some (some st) => [(n + l.length, st)] | _ => [])
  | n, [], r => by simp [stepsOf]
  | n, a :: l, r => by
    show _ ++ stepsOf D (n + 1) (l ++ [r]) = _
    rw [stepsOf_snoc D (n + 1) l r]
    show _ = (_ ++ stepsOf D (n + 1) l) ++ _
    rw [List.append_assoc, show n + 1 + l.length = n + (a :: l).length by simp; omega]
def spRdRs (C : Addr) : Sp := fun vs H Q E => ∃ (t : Str) (D : Nat), vs = [.str t, .int (D : Int)] ∧ t.length ≤ sizeLine ∧ (Txt.split t "\n").length ≤ 1000 ∧ (∀ r ∈ Txt.split t "\n", r.length ≤ 1000 ∧ r.cps.all (· < 128) = true) ∧
  (∀ (i : Nat) r, (Txt.split t "\n")[i]? = some r → readR r D = none → (∀ r' ∈ (Txt.split t "\n").take i, readR r' D ≠ none) → Refd C (i : Int) H E) ∧
  ((∀ r ∈ Txt.split t "\n", readR r D ≠ none) → ∀ H' a ws, (∀ b o, H b = some o → H' b = some o) → H' a = some (.lst ws) → Paired (StepAt H') (stepsOf D 0 (Txt.split t "\n")) ws → H a = none → Q (.ref a) H')
theorem scRdRs : FnScope ["text", "depth", "steps", "place", "row", "step"] ["text", "depth"] (defScope sReadRows) := ⟨rfl, rfl, rfl, by decide +kernel, rfl, by decide +kernel, by decide +kernel⟩
theorem ok_readrows (F : FunAt K mg "read_rows" sReadRows) (Fa : FnR P w K mg base 4 "read_at" ["row", "depth", "place"] (spRdA C)) (me : mg "enumerate" = none) : FnR P w K mg base 5 "read_rows" ["text", "depth"] (spRdRs C) := by
  refine F.okR scRdRs (fun _ _ _ _ _ _ us hl => match us, hl with | [_, _], _ => rfl) (fun vs H Q E h => ?_) (fun f0 cdv A outer s H vs Q E hr h => ?_)
  · obtain ⟨t, D, rfl, _⟩ := h; rfl
  obtain ⟨t, D, rfl, ht, hlen, hrow, hbad, q⟩ := h
  have nd := scRdRs.nd
  refine ⟨_, pss_cons (ps_set (i := 2) nd rfl (Or.inl rfl) (pe_lst pa_nil)) <|
    pss_cons (ps_for PassesOwn.leaving rfl (pi_enum rfl me (pa_cons (pe_bm PySem.F.plainAttrs_str PySem.F.slot_str_split PySem.F.type_str_split mt_split (pv 0) (pa_cons pe_str pa_nil)) pa_nil)) (pg_tup rfl (pgs_cons (pg_name (i := 3) nd rfl (Or.inl rfl)) (pgs_cons (pg_name (i := 4) nd rfl (Or.inl rfl)) pgs_nil))) <|
      pss_cons (ps_set (i := 5) nd rfl (Or.inl rfl) (pe_callR passesR_cx Fa hr rfl (pa_cons (pv 4) (pa_cons (pv 1) (pa_cons (pv 3) pa_nil))))) <|
      pss_one (ps_if (pt_cmpR op_notN (pv 5) pe_non (nomark _)) (pss_one (ps_expr (pe_bm PySem.F.plainAttrs_list PySem.F.slot_list_append PySem.F.type_list_append mt_append (pv 2) (pa_cons (pe_op op_catT (pv 5) (pe_tup (pa_cons (pv 3) pa_nil))) pa_nil)))) pss_nil)) <|
    pss_one (ps_ret (pv 2)), ?_⟩
  refine ⟨by show 0 ≤ sizeLine; decide, fun aS nS => ?_⟩
  dsimp only [gName]
  refine ⟨_, rfl, rfl, t, "\n", rfl, rfl, by decide +kernel, ht, by rw [sizeLine_eq]; omega, fun l nl' => ?_⟩
  generalize Txt.split t "\n" = rows at hlen hrow hbad q ⊢
  have x0 : ∀ b o, H b = some o → upd (upd H aS (.lst [])) l (.lst (rows.map V.str)) b = some o := fun b o e => by
    have e1 : upd H aS (.lst []) b = some o := by rw [upd_ne (ne_of_none e nS)]; exact e
    rw [upd_ne (ne_of_none e1 nl')]; exact e1
  have nSl : aS ≠ l := by rintro rfl; rw [upd_same] at nl'; cases nl'
  have hS0 : upd (upd H aS (.lst [])) l (.lst (rows.map V.str)) aS = some (.lst []) := by rw [upd_ne nSl]; exact upd_same
  refine ⟨l, rows.map V.str, rfl, SqL.of upd_same, ?_⟩
  refine for_enum (xs := rows.map V.str) (fun i σ H' => (∀ b o, H b = some o → H' b = some o) ∧ H' l = some (.lst (rows.map V.str)) ∧ (∃ ws, H' aS = some (.lst ws) ∧ Paired (StepAt H') (stepsOf D 0 (rows.take i)) ws ∧ ws.length ≤ i) ∧ (∀ r' ∈ rows.take i, readR r' D ≠ none) ∧ ∃ o3 o4 o5, σ = [some (.str t), some (.int (D : Int)), some (.ref aS), o3, o4, o5])
    ⟨x0, upd_same, ⟨[], hS0, .nil, by simp⟩, (fun r h => by simp at h), none, none, none, rfl⟩ (fun i σ H' _ h => SqL.of h.2.1) ?_ ?_
  · rintro i v p σ H2 hv np ⟨x2, hl2, ⟨ws, hws, pw, wl⟩, hall, o3, o4, o5, rfl⟩
    obtain ⟨r, er, rfl⟩ : ∃ r, rows[i]? = some r ∧ v = .str r := by
      rw [List.getElem?_map] at hv
      cases e : rows[i]? with
      | none => rw [e] at hv; cases hv
      | some r => rw [e] at hv; exact ⟨r, rfl, by simpa using hv.symm⟩
    have hi : i < rows.length := (List.getElem?_eq_some_iff.mp er).1
    have mem := List.mem_of_getElem? er
    have tk : rows.take (i + 1) = rows.take i ++ [r] := by rw [List.take_succ, er]; rfl
    have k2 : ∀ b o, H2 b = some o → upd H2 p (.tup [.int (i : Nat), .str r]) b = some o := fun b o e => by rw [upd_ne (ne_of_none e np)]; exact e
    have sm : ((i : Nat) : Int).natAbs.log2 < 1920 := by
      have : ((i : Nat) : Int).natAbs = i := rfl
      rw [this]
      exact Nat.lt_of_le_of_lt (Nat.log2_le_self i) (by omega)
    refine ⟨p, _, rfl, .inl (.inl upd_same), rfl, _, _, rfl, _, _, rfl, rfl, ?_⟩
    refine ⟨_, rfl, _, rfl, _, rfl, r, D, (i : Int), rfl, (hrow r mem).1, (hrow r mem).2, sm, ?_⟩
    cases hr2 : readR r D with
    | none => exact Refd.up (hbad i r er hr2 hall) fun b o e => k2 b o (x2 b o e)
    | some o =>
      have hall' : ∀ r' ∈ rows.take (i + 1), readR r' D ≠ none := fun r' h' => by
        rw [tk] at h'
        rcases List.mem_append.mp h' with y | y
        · exact hall r' y
        · rw [List.mem_singleton.mp y, hr2]; exact fun y => nomatch y
      cases o with
      | none =>
        intro H3 x3
        refine ⟨_, rfl, rfl, _, rfl, ?_⟩
        rw [decide_eq_true rfl]
        refine iteF ⟨fun b o e => x3 b o (k2 b o (x2 b o e)), x3 _ _ (k2 _ _ hl2), ⟨ws, x3 _ _ (k2 _ _ hws), ?_, by omega⟩, hall', _, _, _, rfl⟩
        rw [tk, stepsOf_snoc, hr2, List.append_nil]
        exact L2.Paired.imp2 (fun e x h => StepAt.up h fun p' xs y => x3 _ _ (k2 _ _ y)) pw
      | some st =>
        cases st with
        | put a v2 =>
          intro H3 p3 x3 h3
          have hws3 := x3 _ _ (k2 _ _ hws)
          refine ⟨_, rfl, rfl, _, rfl, ?_⟩
          rw [decide_eq_false (fun h => nomatch h)]
          refine iteT ?_
          refine ⟨_, rfl, .inl ⟨rfl, _, SqL.of hws3⟩, _, rfl, _, rfl, by show 1 ≤ sizeLine; decide, fun p4 np4 => ?_⟩
          have k4 : ∀ b o, H3 b = some o → upd H3 p4 (.tup [.int (i : Nat)]) b = some o := fun b o e => by rw [upd_ne (ne_of_none e np4)]; exact e
          refine ⟨p3, p4, _, _, rfl, rfl, SqT.of (k4 _ _ h3), SqT.of upd_same, by simp, by rw [sizeLine_eq]; simp, fun y => by simp at y, fun _ p5 np5 => ?_⟩
          have k5 : ∀ b o, H3 b = some o → upd (upd H3 p4 (.tup [.int (i : Nat)])) p5 (.tup ([.str "put", .int (a : Int), .str v2] ++ [.int (i : Nat)])) b = some o := fun b o e => by rw [upd_ne (ne_of_none (k4 b o e) np5)]; exact k4 b o e
          refine ⟨aS, _, _, rfl, rfl, k5 _ _ hws3, by rw [sizeLine_eq]; omega, ?_⟩
          have n5 : aS ≠ p5 := ne_of_none (k4 _ _ hws3) np5
          have keep : ∀ (o' : HO) p' xs, upd (upd H3 p4 (.tup [.int (i : Nat)])) p5 (.tup ([.str "put", .int (a : Int), .str v2] ++ [.int (i : Nat)])) p' = some (.tup xs) → upd (upd (upd H3 p4 (.tup [.int (i : Nat)])) p5 (.tup ([.str "put", .int (a : Int), .str v2] ++ [.int (i : Nat)]))) aS o' p' = some (.tup xs) := fun o' p' xs y => by
            have : p' ≠ aS := by rintro rfl; rw [k5 _ _ hws3] at y; cases y
            rw [upd_ne this]; exact y
          refine ⟨fun b o e => by rw [upd_ne (ne_of_none e nS)]; exact k5 _ _ (x3 b o (k2 b o (x2 b o e))), by rw [upd_ne (Ne.symm nSl)]; exact k5 _ _ (x3 _ _ (k2 _ _ hl2)), ⟨_, upd_same, ?_, by simp; omega⟩, hall', _, _, _, rfl⟩
          rw [tk, stepsOf_snoc, hr2]
          have li : 0 + (rows.take i).length = i := by rw [List.length_take]; omega
          rw [li]
          exact pr_app (L2.Paired.imp2 (fun e x h => StepAt.up h fun p' xs y => keep _ _ _ (k5 _ _ (x3 _ _ (k2 _ _ y)))) pw) (.cons ⟨p5, rfl, keep _ _ _ upd_same⟩ .nil)
        | cut a =>
          intro H3 p3 x3 h3
          have hws3 := x3 _ _ (k2 _ _ hws)
          refine ⟨_, rfl, rfl, _, rfl, ?_⟩
          rw [decide_eq_false (fun h => nomatch h)]
          refine iteT ?_
          refine ⟨_, rfl, .inl ⟨rfl, _, SqL.of hws3⟩, _, rfl, _, rfl, by show 1 ≤ sizeLine; decide, fun p4 np4 => ?_⟩
          have k4 : ∀ b o, H3 b = some o → upd H3 p4 (.tup [.int (i : Nat)]) b = some o := fun b o e => by rw [upd_ne (ne_of_none e np4)]; exact e
          refine ⟨p3, p4, _, _, rfl, rfl, SqT.of (k4 _ _ h3), SqT.of upd_same, by simp, by rw [sizeLine_eq]; simp, fun y => by simp at y, fun _ p5 np5 => ?_⟩
          have k5 : ∀ b o, H3 b = some o → upd (upd H3 p4 (.tup [.int (i : Nat)])) p5 (.tup ([.str "cut", .int (a : Int)] ++ [.int (i : Nat)])) b = some o := fun b o e => by rw [upd_ne (ne_of_none (k4 b o e) np5)]; exact k4 b o e
          refine ⟨aS, _, _, rfl, rfl, k5 _ _ hws3, by rw [sizeLine_eq]; omega, ?_⟩
          have n5 : aS ≠ p5 := ne_of_none (k4 _ _ hws3) np5
          have keep : ∀ (o' : HO) p' xs, upd (upd H3 p4 (.tup [.int (i : Nat)])) p5 (.tup ([.str "cut", .int (a : Int)] ++ [.int (i : Nat)])) p' = some (.tup xs) → upd (upd (upd H3 p4 (.tup [.int (i : Nat)])) p5 (.tup ([.str "cut", .int (a : Int)] ++ [.int (i : Nat)]))) aS o' p' = some (.tup xs) := fun o' p' xs y => by
            have : p' ≠ aS := by rintro rfl; rw [k5 _ _ hws3] at y; cases y
            rw [upd_ne this]; exact y
          refine ⟨fun b o e => by rw [upd_ne (ne_of_none e nS)]; exact k5 _ _ (x3 b o (k2 b o (x2 b o e))), by rw [upd_ne (Ne.symm nSl)]; exact k5 _ _ (x3 _ _ (k2 _ _ hl2)), ⟨_, upd_same, ?_, by simp; omega⟩, hall', _, _, _, rfl⟩
          rw [tk, stepsOf_snoc, hr2]
          have li : 0 + (rows.take i).length = i := by rw [List.length_take]; omega
          rw [li]
          exact pr_app (L2.Paired.imp2 (fun e x h => StepAt.up h fun p' xs y => keep _ _ _ (k5 _ _ (x3 _ _ (k2 _ _ y)))) pw) (.cons ⟨p5, rfl, keep _ _ _ upd_same⟩ .nil)
  · rintro σ H2 ⟨x2, hl2, ⟨ws, hws, pw, wl⟩, hall, o3, o4, o5, rfl⟩
    rw [List.length_map, List.take_length] at pw hall
    exact ⟨_, rfl, q hall H2 aS ws x2 hws pw nS⟩
end
end My
namespace My
open PySem L2
section
open Tx
variable {P : Program} {w : World} {K : PySem.W.Frag} {mg : Str → Option Value} {base : Heap}
def Sg (x : Str) : Prop := x.length = 1 ∧ ∀ c ∈ sg x, 32 ≤ c ∧ c ≤ 126
theorem sg_at {z : Str} (h : ∀ c ∈ sg z, 32 ≤ c ∧ c ≤ 126) (hz : z.length = 94) {v : Int} (h0 : 0 ≤ v) (h1 : v < 94) : ∃ c, atI (sg z) v = some c ∧ Sg ⟨#[c]⟩ := by
  have hl : (sg z).length = 94 := by rw [← hz]; simp [Str.length]
  have hv : v.toNat < (sg z).length := by omega
  refine ⟨(sg z)[v.toNat], ?_, rfl, fun c hc => ?_⟩
  · have q := atI_nat (List.getElem?_eq_getElem hv)
    rw [show ((v.toNat : Nat) : Int) = v by omega] at q
    exact q
  · have e : c = (sg z)[v.toNat] := by simpa using hc
    rw [e]; exact h _ (List.getElem_mem hv)
theorem sum_ones : ∀ {ys : List Str}, (∀ y ∈ ys, Sg y) → (ys.map (·.length)).sum = ys.length
  | [], _ => rfl
  | y :: ys, h => by
    rw [List.map_cons, List.sum_cons, sum_ones (fun z hz => h z (List.mem_cons_of_mem _ hz)), (h y List.mem_cons_self).1, List.length_cons, Nat.add_comm]
theorem join_in {ys : List Str} (h : ∀ y ∈ ys, Sg y) : ∀ c ∈ sg (Txt.join "" ys), 32 ≤ c ∧ c ≤ 126 := by
  have e0 : ("" : Str) = ⟨#[]⟩ := by decide +kernel
  have key : ∀ {ys : List Str}, (∀ y ∈ ys, Sg y) → ∀ c ∈ sg (Str.join ⟨#[]⟩ ys), 32 ≤ c ∧ c ≤ 126 := by
    intro ys
    induction ys with
    | nil => intro _ c hc; exact absurd hc (by show c ∉ (#[] : Array Nat).toList; simp)
    | cons y r ih =>
      intro h c hc
      rw [PyProof.Rows.join_nil_cons] at hc
      have hc : c ∈ sg (y ++ Str.join ⟨#[]⟩ r) := hc
      rw [sg_app] at hc
      rcases List.mem_append.mp hc with z | z
      · exact (h y List.mem_cons_self).2 c z
      · exact ih (fun y hy => h y (List.mem_cons_of_mem _ hy)) c z
  intro c hc
  have e : Txt.join "" ys = Str.join ⟨#[]⟩ ys := by
    show Builtin.Str.glued "" ys = _
    rw [StrLaws.glued_eq_join, e0]
  rw [e] at hc
  exact key h c hc
theorem len_join {us : List Str} (h : ∀ y ∈ us, Sg y) : (Txt.join "" us).length = us.length := PySem.W.KT.join_ones us fun a ha => (h a ha).1
def spText : Sp := fun vs H Q _ => ∃ c : Int, vs = [.int c] ∧ ∀ (z : Str) H', z.length ≤ 6 → (∀ x ∈ sg z, 32 ≤ x ∧ x ≤ 126) → (∀ b o, H b = some o → H' b = some o) → Q (.str z) H'
theorem scTx : FnScope ["_law_cell", "_law_some"] ["_law_cell"] (defScope sLtext) := ⟨rfl, rfl, rfl, by decide +kernel, rfl, by decide +kernel, by decide +kernel⟩
def txA : Stmt := (defBody sLtext).getD 0 (.Pass ⟨0, 0, 0, 0⟩)
theorem tx_A : ∃ z j p1 p2 p3, txA = .Assign [.Name "_law_some" p1] (.Constant (.str z) j p2) p3 ∧ z.length = 94 ∧ ∀ c ∈ sg z, 32 ≤ c ∧ c ≤ 126 := ⟨_, _, _, _, _, rfl, by decide +kernel, by decide +kernel⟩
theorem tx_eq : defBody sLtext = txA :: (defBody sLtext).drop 1 := rfl
theorem ok_text (F : FunAt K mg "_law_text" sLtext) (Fd : FnP P w K mg base 1 "_law_draw" ["_law_cell", "_law_k", "_law_many"] spDraw) (ml : mg "len" = none) (mr : mg "range" = none) : FnP P w K mg base 2 "_law_text" ["_law_cell"] spText := by
  refine F.ok scTx (fun _ _ _ _ _ _ us hl => match us, hl with | [_], _ => rfl) (fun vs H Q E h => ?_) (fun f0 cdv A outer s H vs Q E hr h => ?_)
  · obtain ⟨c, rfl, _⟩ := h; rfl
  obtain ⟨c, rfl, q⟩ := h
  have nd := scTx.nd
  obtain ⟨z, j, p1, p2, p3, eA, hz, hzc⟩ := tx_A
  rw [tx_eq, eA]
  refine' ⟨_, pss_cons (ps_set (i := 1) nd rfl (Or.inr rfl) pe_str) <|
    pss_one (ps_ret (pe_bm PySem.F.plainAttrs_str PySem.F.slot_str_join PySem.F.type_str_join mt_join pe_str (pa_cons (pe_comp (ys := ["_law_cell", "_law_some"]) (js := [0, 1]) ?ok (pi_range1 rfl mr (pa_cons (pe_callN Fd hr rfl (pa_cons (pv 0) (pa_cons pe_int (pa_cons pe_int pa_nil)))) pa_nil)) (fun _ _ _ => pts_nil) ?he) pa_nil))), ?rd⟩
  case ok =>
    refine ⟨rfl, rfl, rfl, by decide +kernel, by decide +kernel, rfl, by decide +kernel, same_of (fun p hp => ?_), rfl, fun i y h => ?_, rfl⟩
    · simp only [List.mem_cons, List.not_mem_nil, or_false] at hp
      rcases hp with rfl | rfl <;> rfl
    · match i, h with
      | 0, h => simp at h; subst h; exact ⟨0, rfl, rfl, rfl, rfl⟩
      | 1, h => simp at h; subst h; exact ⟨1, rfl, rfl, rfl, rfl⟩
      | i + 2, h => simp at h
  case he =>
    exact fun _ _ _ => pe_ix ix_str (pv 2) (pe_callN Fd hr rfl (pa_cons (pe_op op_add (pv 1) (pe_op op_mul pe_int (pv 0))) (pa_cons (pv 0) (pa_cons (pe_callB call_len_str rfl ml PySem.boot_len (pa_cons (pv 2) pa_nil)) pa_nil)))) (fun _ _ => rfl)
  case rd =>
  refine ⟨rfl, _, rfl, c, 5, 7, rfl, by decide, by decide, fun v1 H1 a1 b1 x1 => ⟨v1, rfl, by omega, by omega, ?_⟩⟩
  refine comp_range (fun D i ys H' => (∀ b o, H b = some o → H' b = some o) ∧ H' D = some (.lst ys) ∧ ∃ zs : List Str, ys = zs.map V.str ∧ zs.length = i ∧ ∀ y ∈ zs, Sg y) (fun D hD => ⟨fun b o e => ?_, upd_same, [], rfl, rfl, by simp⟩) ?_ ?_
  · rw [upd_ne (ne_of_none (x1 _ _ e) hD)]; exact x1 _ _ e
  · rintro D i ys H' Qb hD hi ⟨hx, hD', zs, rfl, hzl, hzs⟩ hq
    refine ⟨_, rfl, _, rfl, _, rfl, _, _, rfl, rfl, .inl ⟨by decide, by decide⟩, _, _, rfl, rfl, _, rfl, _, rfl, z, rfl, by rw [hz, sizeLine_eq]; decide, ?_⟩
    rw [hz]
    refine ⟨_, _, 94, rfl, by omega, by decide, fun v2 H2 a2 b2 x2 => ?_⟩
    obtain ⟨ch, e1, e2⟩ := sg_at hzc hz a2 b2
    refine ⟨z, v2, ch, rfl, rfl, by rw [hz, sizeLine_eq]; decide, e1, hq _ H2 (x2 _ _ hD') (by rw [sizeLine_eq]; simp; omega) ⟨fun b o e => ?_, upd_same, zs ++ [⟨#[ch]⟩], by simp, by simp; omega, fun y hy => ?_⟩⟩
    · have := x2 _ _ (hx _ _ e)
      rw [upd_ne (by rintro rfl; rw [x1 _ _ e] at hD; cases hD)]; exact this
    · rcases List.mem_append.mp hy with w | w
      · exact hzs y w
      · rw [List.mem_singleton.mp w]; exact e2
  · rintro D ys H' hD ⟨hx, hD', zs, rfl, hzl, hzs⟩
    refine ⟨"", D, zs, rfl, rfl, SqL.of hD', ?_, q _ H' (by rw [len_join hzs]; omega) (join_in hzs) hx⟩
    rw [sum_ones hzs]
    show zs.length + zs.length * 0 ≤ _
    omega
inductive CatE (x : Str) : Expr → (Str → Str) → Nat → Prop
  | con {z : Str} {j p} : CatE x (.Constant (.str z) j p) (fun _ => z) z.length
  | var {p} : CatE x (.Name x p) (fun k => k) 100
  | rep {z : Str} {n : Int} {j p j2 p2 pos} (h0 : 0 ≤ n) (h1 : n ≤ 1000) (hz : z.length ≤ 1000) : CatE x (.BinOp (.Constant (.str z) j p) .Mult (.Constant (.int n) j2 p2) pos) (fun _ => repS z n) (repS z n).length
  | add {a b : Expr} {f g : Str → Str} {n m : Nat} {pos} (ha : CatE x a f n) (hb : CatE x b g m) : CatE x (.BinOp a .Add b pos) (fun k => f k ++ g k) (n + m)
theorem CatE.le {x : Str} {e : Expr} {f : Str → Str} {n : Nat} (h : CatE x e f n) {k : Str} (hk : k.length ≤ 100) : (f k).length ≤ n := by
  induction h with
  | con => exact Nat.le_refl _
  | var => exact hk
  | rep => exact Nat.le_refl _
  | add ha hb i1 i2 => show (_ ++ _ : Str).length ≤ _; rw [strLen_append]; omega
def tCat (i : Nat) (f : Str → Str) (n : Nat) : TE := fun σ H Q => ∃ k : Str, σ[i]? = some (some (.str k)) ∧ k.length ≤ 100 ∧ n ≤ 10000 ∧ Q (.str (f k)) H
theorem pe_imp {X : Cx} {e : Expr} {t u : TE} (h : PE X e t) (k : ∀ σ H Q, u σ H Q → t σ H Q) : PE X e u := fun pins s σ H Q I q => h pins s σ H Q I (k _ _ _ q)
theorem pe_cat {X : Cx} {x : Str} {i : Nat} {e : Expr} {f : Str → Str} {n : Nat} (hv : ∀ p, PE X (.Name x p) (tVar i)) (h : CatE x e f n) : PE X e (tCat i f n) := by
  induction h with
  | con => exact pe_imp pe_str fun σ H Q ⟨k, _, _, _, q⟩ => q
  | var => exact pe_imp (hv _) fun σ H Q ⟨k, e, _, _, q⟩ => ⟨_, e, q⟩
  | rep h0 h1 hz => exact pe_imp (pe_op op_repStr pe_str pe_int) fun σ H Q ⟨k, e, _, _, q⟩ => ⟨_, _, rfl, rfl, h0, h1, hz, q⟩
  | add ha hb i1 i2 =>
    refine pe_imp (pe_op op_add_str i1 i2) fun σ H Q ⟨k, e, hk, hn, q⟩ => ?_
    have l1 := ha.le hk
    have l2 := hb.le hk
    exact ⟨k, e, hk, by omega, k, e, hk, by omega, _, _, rfl, rfl, by rw [sizeLine_eq]; omega, q⟩
inductive CatEs (x : Str) : List Expr → List (Str → Str) → Prop
  | nil : CatEs x [] []
  | cons {e : Expr} {f : Str → Str} {n : Nat} {es : List Expr} {fs : List (Str → Str)} (h : CatE x e f n) (hn : n ≤ 10000) (t : CatEs x es fs) : CatEs x (e :: es) (f :: fs)
def tCats (i : Nat) (fs : List (Str → Str)) : TA := fun σ H Q => ∃ k : Str, σ[i]? = some (some (.str k)) ∧ k.length ≤ 100 ∧ Q (fs.map fun f => .str (f k)) H
theorem pa_imp {X : Cx} {es : List Expr} {t u : TA} (h : PA X es t) (k : ∀ σ H Q, u σ H Q → t σ H Q) : PA X es u := fun p pins s σ H Q I q => h p pins s σ H Q I (k _ _ _ q)
theorem pa_cats {X : Cx} {x : Str} {i : Nat} {es : List Expr} {fs : List (Str → Str)} (hv : ∀ p, PE X (.Name x p) (tVar i)) (h : CatEs x es fs) : PA X es (tCats i fs) := by
  induction h with
  | nil => exact pa_imp pa_nil fun σ H Q ⟨k, _, _, q⟩ => q
  | @cons e f n es fs h hn t ih =>
    have hp := pe_cat (i := i) hv h
    have hs : ∀ env, starEach (e :: es) env = (false, eval e env) :: starEach es env := by cases h <;> intro env <;> rfl
    exact pa_imp (pa_cons hp ih (hs := hs _)) fun σ H Q ⟨k, e, hk, q⟩ => ⟨k, e, hk, hn, k, e, hk, q⟩
def bdA : Stmt := (defBody sLbad).getD 0 (.Pass ⟨0, 0, 0, 0⟩)
def bdB : Stmt := (defBody sLbad).getD 1 (.Pass ⟨0, 0, 0, 0⟩)
theorem bd_eq : defBody sLbad = [bdA, bdB] := rfl
def badF : List (Str → Str) := [fun _ => "put", fun _ => "put ", fun _ => "cut", fun k => "cut " ++ k ++ " 1", fun k => "put  " ++ k ++ " a", fun k => "cutt " ++ k, fun k => "put -" ++ k ++ " a", fun k => "put " ++ k, fun k => "Put " ++ k ++ " a",
  fun k => "put " ++ k ++ "x b", fun k => "cut " ++ repS "0" 9 ++ k, fun _ => "pu t", fun k => "cut  " ++ k, fun k => "put +" ++ k ++ " a", fun k => "cut 1_" ++ k]
theorem bd_A : ∃ es x1 p1 p2 p3, bdA = .Assign [.Name "_law_bad_here" p1] (.Tuple es x1 p2) p3 ∧ CatEs "_law_key" es badF :=
  ⟨_, _, _, _, _, rfl, .cons .con (by decide) <| .cons .con (by decide) <| .cons .con (by decide) <| .cons (.add (.add .con .var) .con) (by decide) <| .cons (.add (.add .con .var) .con) (by decide) <| .cons (.add .con .var) (by decide) <|
    .cons (.add (.add .con .var) .con) (by decide) <| .cons (.add .con .var) (by decide) <| .cons (.add (.add .con .var) .con) (by decide) <| .cons (.add (.add .con .var) .con) (by decide) <| .cons (.add (.add .con (.rep (by decide) (by decide) (by decide))) .var) (by decide) <|
    .cons .con (by decide) <| .cons (.add .con .var) (by decide) <| .cons (.add (.add .con .var) .con) (by decide) <| .cons (.add .con .var) (by decide) .nil⟩
theorem rep_sg9 : sg (repS "0" 9) = List.replicate 9 48 := by decide +kernel
theorem badF_sg (k : Str) : badF.map (fun f => sg (f k)) = badL (sg k) := by
  have a1 : sg "put" = [112, 117, 116] := by decide +kernel
  have a2 : sg "cut" = [99, 117, 116] := by decide +kernel
  have a3 : sg " 1" = [32, 49] := by decide +kernel
  have a4 : sg "put  " = [112, 117, 116, 32, 32] := by decide +kernel
  have a5 : sg " a" = [32, 97] := by decide +kernel
  have a6 : sg "cutt " = [99, 117, 116, 116, 32] := by decide +kernel
  have a7 : sg "put -" = [112, 117, 116, 32, 45] := by decide +kernel
  have a8 : sg "Put " = [80, 117, 116, 32] := by decide +kernel
  have a9 : sg "x b" = [120, 32, 98] := by decide +kernel
  have b1 : sg "pu t" = [112, 117, 32, 116] := by decide +kernel
  have b2 : sg "cut  " = [99, 117, 116, 32, 32] := by decide +kernel
  have b3 : sg "put +" = [112, 117, 116, 32, 43] := by decide +kernel
  have b4 : sg "cut 1_" = [99, 117, 116, 32, 49, 95] := by decide +kernel
  unfold badF badL
  simp only [List.map_cons, List.map_nil, sg_app, a1, a2, a3, a4, a5, a6, a7, a8, a9, b1, b2, b3, b4, put_sg, cut_sg, rep_sg9]
  simp [putL, cutL]
def spBad : Sp := fun vs H Q _ => ∃ (c : Int) (k : Str), vs = [.int c, .str k] ∧ k.length ≤ 100 ∧ ∀ (z : Str) H', sg z ∈ badL (sg k) → (∀ b o, H b = some o → H' b = some o) → Q (.str z) H'
theorem scBd : FnScope ["_law_cell", "_law_key", "_law_bad_here"] ["_law_cell", "_law_key"] (defScope sLbad) := ⟨rfl, rfl, rfl, by decide +kernel, rfl, by decide +kernel, by decide +kernel⟩
theorem ok_bad (F : FunAt K mg "_law_bad" sLbad) (Fd : FnP P w K mg base 1 "_law_draw" ["_law_cell", "_law_k", "_law_many"] spDraw) (ml : mg "len" = none) : FnP P w K mg base 2 "_law_bad" ["_law_cell", "_law_key"] spBad := by
  refine F.ok scBd (fun _ _ _ _ _ _ us hl => match us, hl with | [_, _], _ => rfl) (fun vs H Q E h => ?_) (fun f0 cdv A outer s H vs Q E hr h => ?_)
  · obtain ⟨c, k, rfl, _⟩ := h; rfl
  obtain ⟨c, k, rfl, hk, q⟩ := h
  have nd := scBd.nd
  obtain ⟨es, x1, p1, p2, p3, eA, hes⟩ := bd_A
  rw [bd_eq, eA]
  refine ⟨_, pss_cons (ps_set (i := 2) nd rfl (Or.inl rfl) (pe_tup (pa_cats (i := 1) (fun p => pv 1) hes))) <|
    pss_one (ps_ret (pe_ix ix_tup (pv 2) (pe_callN Fd hr rfl (pa_cons (pv 0) (pa_cons pe_int (pa_cons (pe_callB call_len_seq rfl ml PySem.boot_len (pa_cons (pv 2) pa_nil)) pa_nil)))) (fun _ _ => rfl))), ?_⟩
  refine ⟨k, rfl, hk, (by show 15 ≤ sizeLine; decide), fun p hp => ?_⟩
  refine ⟨_, rfl, _, rfl, _, rfl, p, _, rfl, .inr (.inl (.inl upd_same)), ?_⟩
  refine ⟨c, 6, 15, rfl, by decide, by decide, fun v H1 a1 b1 x1 => ?_⟩
  have hv : v.toNat < (badF.map fun f => V.str (f k)).length := by show v.toNat < 15; omega
  have e : (badF.map fun f => V.str (f k))[v.toNat]? = some (V.str ((badF[v.toNat]'(by simpa using hv)) k)) := by rw [List.getElem?_eq_getElem hv, List.getElem_map]
  have at1 := atI_nat e
  rw [show ((v.toNat : Nat) : Int) = v by omega] at at1
  refine ⟨p, _, v, _, rfl, rfl, .inl (.inl (x1 _ _ upd_same)), at1, q _ H1 ?_ fun b o e => x1 _ _ (by rw [upd_ne (ne_of_none e hp)]; exact e)⟩
  rw [← badF_sg]
  exact List.mem_map_of_mem (List.getElem_mem _)
end
end My
namespace My
open PySem L2
section
open Tx PySem.NumText
variable {P : Program} {w : World} {K : PySem.W.Frag} {mg : Str → Option Value} {base : Heap}
def DueAt (H : Hp) : Option (Option Stp) → V → Prop
  | none, x => x = .str "bad"
  | some none, x => x = .non
  | some (some (.put k v)), x => ∃ p, x = .ref p ∧ H p = some (.tup [.str "put", .int (k : Int), .str v])
  | some (some (.cut k)), x => ∃ p, x = .ref p ∧ H p = some (.tup [.str "cut", .int (k : Int)])
theorem DueAt.up {H H' : Hp} {o : Option (Option Stp)} {x : V} (h : DueAt H o x) (k : ∀ p xs, H p = some (.tup xs) → H' p = some (.tup xs)) : DueAt H' o x := by
  match o with
  | none => exact h
  | some none => exact h
  | some (some (.put a v)) => obtain ⟨p, e1, e2⟩ := h; exact ⟨p, e1, k _ _ e2⟩
  | some (some (.cut a)) => obtain ⟨p, e1, e2⟩ := h; exact ⟨p, e1, k _ _ e2⟩
abbrev dgs (n : Nat) : List Nat := (Nat.toDigits 10 n).map Char.toNat
theorem dgs_len {n : Nat} (h : n < 100000) : (dgs n).length ≤ 5 := by
  rw [List.length_map]
  exact (Nat.length_toDigits_le_iff (by decide) (by decide)).mpr h
theorem dgs_ne (n : Nat) : dgs n ≠ [] := by
  intro e
  have h1 := Nat.length_toDigits_pos (b := 10) (n := n)
  have e2 := congrArg List.length e
  rw [List.length_map] at e2
  have e3 : (Nat.toDigits 10 n).length = 0 := e2
  omega
def KeyOk (k : Str) (n : Nat) : Prop := ∃ j, sg k = List.replicate j 48 ++ dgs n ∧ j + (dgs n).length ≤ 9
theorem rep0 {n : Int} (h0 : 0 ≤ n) (h1 : n < 4) : sg (repS "0" n) = List.replicate n.toNat 48 := by
  obtain rfl | rfl | rfl | rfl : n = 0 ∨ n = 1 ∨ n = 2 ∨ n = 3 := by omega
  all_goals decide +kernel
theorem rep32 {n : Int} (h0 : 0 ≤ n) (h1 : n < 4) : sg (repS " " n) = List.replicate n.toNat 32 := by
  obtain rfl | rfl | rfl | rfl : n = 0 ∨ n = 1 ∨ n = 2 ∨ n = 3 := by omega
  all_goals decide +kernel
theorem KeyOk.len {k : Str} {n : Nat} (h : KeyOk k n) : k.length ≤ 9 := by
  obtain ⟨j, e, l⟩ := h
  rw [sg_len, e, List.length_append, List.length_replicate]
  exact l
theorem KeyOk.dig {k : Str} {n : Nat} (h : KeyOk k n) : AllDigits (sg k) := by
  obtain ⟨j, e, l⟩ := h
  rw [e]
  exact zeros_dig (num_dig n)
theorem KeyOk.ne {k : Str} {n : Nat} (h : KeyOk k n) : sg k ≠ [] := by
  obtain ⟨j, e, l⟩ := h
  rw [e]
  intro z
  exact dgs_ne n (List.append_eq_nil_iff.mp z).2
theorem KeyOk.key {k : Str} {n D : Nat} (h : KeyOk k n) : keyR (sg k) D = if n < 2 ^ D then some n else none := by
  obtain ⟨j, e, l⟩ := h
  rw [e]
  exact key_num l
abbrev Vis126 (z : Str) : Prop := ∀ c ∈ sg z, 32 ≤ c ∧ c ≤ 126
theorem v126_app {a b : Str} (ha : Vis126 a) (hb : Vis126 b) : Vis126 (a ++ b) := fun c hc => by
  rw [sg_app] at hc
  exact (List.mem_append.mp hc).elim (ha c) (hb c)
theorem v126_rep {z : Str} {n : Nat} (h : sg z = List.replicate n 32) : Vis126 z := fun c hc => by
  rw [h] at hc
  have := List.eq_of_mem_replicate hc
  omega
theorem KeyOk.vis {k : Str} {n : Nat} (h : KeyOk k n) : Vis126 k := fun c hc => by
  have := h.dig c hc
  omega
theorem bad_vis {w l : List Nat} (hw : AllDigits w) (h : l ∈ badL w) : ∀ c ∈ l, 32 ≤ c ∧ c ≤ 126 := fun c hc => by
  have key : ∀ l ∈ badL w, ∀ c ∈ l, c ∈ w ∨ (32 ≤ c ∧ c ≤ 126) := by
    intro l h c hc
    unfold badL at h
    simp only [List.mem_cons, List.not_mem_nil, or_false, putL, cutL] at h
    rcases h with rfl | rfl | rfl | rfl | rfl | rfl | rfl | rfl | rfl | rfl | rfl | rfl | rfl | rfl | rfl <;>
      simp only [List.mem_append, List.mem_cons, List.not_mem_nil, or_false, List.mem_replicate, List.replicate] at hc <;>
      by_cases hw' : c ∈ w <;> first | exact .inl hw' | (refine .inr ?_; first | (simp only [hw', or_false, false_or] at hc; omega) | omega)
  rcases key l h c hc with z | z
  · have := hw c z; omega
  · exact z
theorem bad_len {w l : List Nat} (hw : w.length ≤ 9) (h : l ∈ badL w) : l.length ≤ 40 := by
  unfold badL at h
  simp only [List.mem_cons, List.not_mem_nil, or_false, putL, cutL] at h
  rcases h with rfl | rfl | rfl | rfl | rfl | rfl | rfl | rfl | rfl | rfl | rfl | rfl | rfl | rfl | rfl <;> simp <;> omega
def spRow : Sp := fun vs H Q _ => ∃ (c : Int) (D : Nat), vs = [.int c, .int (D : Int)] ∧ 1 ≤ D ∧ D ≤ 16 ∧
  ∀ (z : Str) x p H', z.length ≤ 100 → Vis126 z → DueAt H' (readR z D) x → H' p = some (.tup [.str z, x]) → H p = none → (∀ b o, H b = some o → H' b = some o) → Q (.ref p) H'
theorem scRow : FnScope ["_law_cell", "_law_depth", "_law_number", "_law_key", "_law_ahead", "_law_kind", "_law_said", "_law_row_here"] ["_law_cell", "_law_depth"] (defScope sLrow) := ⟨rfl, rfl, rfl, by decide +kernel, rfl, by decide +kernel, by decide +kernel⟩
abbrev rowσ (c : Int) (D : Nat) (n k a d s r : Option V) : St := [some (.int c), some (.int (D : Int)), n, k, a, d, s, r]
theorem ok_row (F : FunAt K mg "_law_row" sLrow) (Fd : FnP P w K mg base 1 "_law_draw" ["_law_cell", "_law_k", "_law_many"] spDraw) (Ft : FnP P w K mg base 2 "_law_text" ["_law_cell"] spText) (Fb : FnP P w K mg base 2 "_law_bad" ["_law_cell", "_law_key"] spBad)
    (ms : mg "str" = none) : FnP P w K mg base 3 "_law_row" ["_law_cell", "_law_depth"] spRow := by
  refine F.ok scRow (fun _ _ _ _ _ _ us hl => match us, hl with | [_, _], _ => rfl) (fun vs H Q E h => ?_) (fun f0 cdv A outer s H vs Q E hr h => ?_)
  · obtain ⟨c, D, rfl, _⟩ := h; rfl
  obtain ⟨c, D, rfl, hD1, hD2, q⟩ := h
  have nd := scRow.nd
  have hr1 : Room 1 (A.deeper (PyProof.Rows.envOfC "_law_row" (defScope sLrow) s.heap.objs.size f0 cdv)) := hr.mono (by omega)
  refine ⟨_, pss_cons (ps_set (i := 2) nd rfl (Or.inl rfl) (pe_ifExp (pt_cmpR op_gt (pe_callN Fd hr1 rfl (pa_cons (pv 0) (pa_cons pe_int (pa_cons pe_int pa_nil)))) pe_int (nomark _)) (pe_callN Fd hr1 rfl (pa_cons (pv 0) (pa_cons pe_int (pa_cons (pe_op op_shl pe_int (pv 1)) pa_nil)))) (pe_op op_add (pe_op op_shl pe_int (pv 1)) (pe_callN Fd hr1 rfl (pa_cons (pv 0) (pa_cons pe_int (pa_cons pe_int pa_nil))))))) <|
    pss_cons (ps_set (i := 3) nd rfl (Or.inl rfl) (pe_op op_add_str (pe_op op_repStr pe_str (pe_callN Fd hr1 rfl (pa_cons (pv 0) (pa_cons pe_int (pa_cons pe_int pa_nil))))) (pe_callTy call_str_int rfl ms PyProof.Rows.boot_str (pa_cons (pv 2) pa_nil)))) <|
    pss_cons (ps_if (pt_cmpR op_eq (pe_callN Fd hr1 rfl (pa_cons (pv 0) (pa_cons pe_int (pa_cons pe_int pa_nil)))) pe_int (nomark _)) (pss_one (ps_set (i := 3) nd rfl (Or.inl rfl) (pe_bm PySem.F.plainAttrs_str PySem.F.slot_str_zfill PySem.F.type_str_zfill mt_zfill (pe_callTy call_str_int rfl ms PyProof.Rows.boot_str (pa_cons (pv 2) pa_nil)) (pa_cons pe_int pa_nil)))) pss_nil) <|
    pss_cons (ps_set (i := 4) nd rfl (Or.inl rfl) (pe_op op_repStr pe_str (pe_op op_fdiv (pe_callN Fd hr1 rfl (pa_cons (pv 0) (pa_cons pe_int (pa_cons pe_int pa_nil)))) pe_int))) <|
    pss_cons (ps_set (i := 5) nd rfl (Or.inl rfl) (pe_callN Fd hr1 rfl (pa_cons (pv 0) (pa_cons pe_int (pa_cons pe_int pa_nil))))) <|
    pss_cons (ps_if (pt_cmpR op_eq (pv 5) pe_int (nomark _)) (pss_one (ps_ret (pe_tup (pa_cons (pv 4) (pa_cons pe_non pa_nil))))) pss_nil) <|
    pss_cons (ps_if (pt_cmpR op_eq (pv 5) pe_int (nomark _)) (pss_one (ps_ret (pe_tup (pa_cons (pe_op op_add_str (pe_op op_add_str (pv 4) pe_str) (pe_callN Ft hr rfl (pa_cons (pv 0) pa_nil))) (pa_cons pe_non pa_nil))))) pss_nil) <|
    pss_cons (ps_if (pt_cmpR op_eq (pv 5) pe_int (nomark _)) (pss_one (ps_ret (pe_tup (pa_cons (pe_op op_add_str (pv 4) (pe_callN Fb hr rfl (pa_cons (pv 0) (pa_cons (pv 3) pa_nil)))) (pa_cons pe_str pa_nil))))) pss_nil) <|
    pss_cons (ps_if (pt_cmpR op_lt (pv 5) pe_int (nomark _))
      (pss_cons (ps_set (i := 6) nd rfl (Or.inl rfl) (pe_tup (pa_cons pe_str (pa_cons (pv 2) (pa_cons (pe_callN Ft hr rfl (pa_cons (pv 0) pa_nil)) pa_nil))))) <|
       pss_one (ps_set (i := 7) nd rfl (Or.inl rfl) (pe_op op_add_str (pe_op op_add_str (pe_op op_add_str (pe_op op_add_str (pv 4) pe_str) (pv 3)) pe_str) (pe_ix ix_tup (pv 6) pe_int (fun _ _ => rfl)))))
      (pss_cons (ps_set (i := 6) nd rfl (Or.inl rfl) (pe_tup (pa_cons pe_str (pa_cons (pv 2) pa_nil)))) <|
       pss_one (ps_set (i := 7) nd rfl (Or.inl rfl) (pe_op op_add_str (pe_op op_add_str (pe_op op_add_str (pv 4) pe_str) (pv 3)) (pe_op op_repStr pe_str (pe_callN Fd hr1 rfl (pa_cons (pv 0) (pa_cons pe_int (pa_cons pe_int pa_nil))))))))) <|
    pss_one (ps_ret (pe_tup (pa_cons (pv 7) (pa_cons (pe_ifExp (pt_cmpR op_lt (pv 2) (pe_op op_shl pe_int (pv 1)) (nomark _)) (pv 6) pe_str) pa_nil)))), ?_⟩
  have hp16 : 2 ^ D ≤ 65536 := Nat.le_trans (Nat.pow_le_pow_right (by decide) hD2) (by decide)
  have hp0 : 0 < 2 ^ D := Nat.pow_pos (by decide)
  have pw : (1 : Int) * 2 ^ ((D : Int)).toNat = ((2 ^ D : Nat) : Int) := by rw [Int.toNat_natCast, Int.one_mul]; norm_cast
  -- the number
  refine joinS (fun σ H' => (∀ b o, H b = some o → H' b = some o) ∧ ∃ n : Nat, n < 2 ^ D + 3 ∧ σ = rowσ c D (some (.int (n : Int))) none none none none none) (fun D' hD' => ?_) ?_
  · refine ⟨_, rfl, c, 1, 9, rfl, by decide, by decide, fun v1 H1 a1 b1 x1 => ⟨_, _, rfl, rfl, _, rfl, ite2 (fun _ => ?_) (fun _ => ?_)⟩⟩
    · refine ⟨_, rfl, _, rfl, _, _, rfl, rfl, ⟨by omega, by omega, by decide⟩, ?_⟩
      refine ⟨c, 0, _, rfl, by decide, (by show (0 : Int) < 1 * 2 ^ ((D : Int)).toNat; rw [pw]; omega), fun v2 H2 a2 b2 x2 => ?_⟩
      have b2 : v2 < 1 * 2 ^ ((D : Int)).toNat := b2
      rw [pw] at b2
      obtain ⟨n, rfl⟩ := Int.eq_ofNat_of_zero_le a2
      exact hD' _ _ ⟨fun b o e => x2 _ _ (x1 _ _ e), n, by omega, rfl⟩
    · refine ⟨_, rfl, _, _, rfl, rfl, ⟨by omega, by omega, by decide⟩, ?_⟩
      refine ⟨_, rfl, c, 2, 3, rfl, by decide, by decide, fun v2 H2 a2 b2 x2 => ?_⟩
      obtain ⟨n, rfl⟩ := Int.eq_ofNat_of_zero_le a2
      refine ⟨_, _, rfl, rfl, hD' _ _ ⟨fun b o e => x2 _ _ (x1 _ _ e), 2 ^ D + n, by omega, ?_⟩⟩
      show rowσ c D (some (.int (1 * 2 ^ ((D : Int)).toNat + ((n : Nat) : Int)))) none none none none none = _
      rw [pw, Int.natCast_add]
  rintro _ H1 ⟨x1, n, hn, rfl⟩
  have hn5 : n < 100000 := by omega
  have dl := dgs_len hn5
  have nb : ((n : Nat) : Int).natAbs.log2 < 1920 := by
    rw [Int.natAbs_natCast]
    rcases Nat.eq_zero_or_pos n with h0 | h0
    · rw [h0]; decide
    · exact (Nat.log2_lt (by omega)).mpr (Nat.lt_of_lt_of_le hn5 (Nat.le_trans (by decide : 100000 ≤ 2 ^ 17) (Nat.pow_le_pow_right (by decide) (by decide))))
  -- the key
  refine joinS (fun σ H' => (∀ b o, H b = some o → H' b = some o) ∧ ∃ k, KeyOk k n ∧ σ = rowσ c D (some (.int (n : Int))) (some (.str k)) none none none none) (fun D' hD' => ?_) ?_
  · refine ⟨_, rfl, c, 3, 4, rfl, by decide, by decide, fun v1 H2 a1 b1 x2 => ?_⟩
    have e0 := rep0 a1 b1
    have l1 : (repS "0" v1).length ≤ 3 := by rw [sg_len, e0, List.length_replicate]; omega
    have l2 : (Str.ofString (toString ((n : Nat) : Int))).length ≤ 5 := by rw [sg_len, num_sg]; exact dl
    refine ⟨_, _, rfl, rfl, a1, by omega, by decide, _, rfl, _, rfl, nb, _, _, rfl, rfl, ?_, hD' _ _ ⟨fun b o e => x2 _ _ (x1 _ _ e), _, ⟨v1.toNat, ?_, by omega⟩, rfl⟩⟩
    · rw [sizeLine_eq]; exact Nat.le_trans (Nat.add_le_add l1 l2) (by decide)
    · rw [sg_app, e0, num_sg]
  rintro _ H2 ⟨x2, k0, hk0, rfl⟩
  refine joinS (fun σ H' => (∀ b o, H b = some o → H' b = some o) ∧ ∃ k, KeyOk k n ∧ σ = rowσ c D (some (.int (n : Int))) (some (.str k)) none none none none) (fun D' hD' => ?_) ?_
  · refine ⟨_, rfl, c, 8, 5, rfl, by decide, by decide, fun v1 H3 a1 b1 x3 => ⟨rfl, _, rfl, ite2 (fun _ => ?_) (fun _ => ?_)⟩⟩
    · refine ⟨_, rfl, _, rfl, nb, rfl, _, 9, rfl, rfl, by decide, hD' _ _ ⟨fun b o e => x3 _ _ (x2 _ _ e), _, ⟨9 - (dgs n).length, ?_, by omega⟩, rfl⟩⟩
      have := zfill_sg (z := Str.ofString (toString ((n : Nat) : Int))) (k := 9) (by rw [num_sg]; exact num_dig n) (by rw [num_sg]; exact Nat.le_trans dl (by decide))
      rw [num_sg] at this
      exact this
    · exact hD' _ _ ⟨fun b o e => x3 _ _ (x2 _ _ e), k0, hk0, rfl⟩
  rintro _ H3 ⟨x3, k, hk, rfl⟩
  have kl := hk.len
  -- what stands ahead, the kind
  refine ⟨_, rfl, c, 4, 4, rfl, by decide, by decide, fun v1 H4 a1 b1 x4 => ?_⟩
  have h2 : 0 ≤ v1 / 2 ∧ v1 / 2 < 4 := by omega
  refine ⟨_, _, rfl, rfl, ⟨by decide, by decide⟩, _, _, rfl, rfl, h2.1, by omega, by decide, ?_⟩
  have ea := rep32 h2.1 h2.2
  have la : (repS " " (v1 / 2)).length ≤ 3 := by rw [sg_len, ea, List.length_replicate]; omega
  have va := v126_rep ea
  generalize repS " " (v1 / 2) = ah at ea la va ⊢
  generalize (v1 / 2).toNat = m at ea
  refine ⟨_, rfl, c, 7, 12, rfl, by decide, by decide, fun kd H5 a2 b2 x5 => ?_⟩
  have x5' : ∀ b o, H b = some o → H5 b = some o := fun b o e => x5 _ _ (x4 _ _ (x3 _ _ e))
  have p0 : ∀ {Hx : Hp} {p : Addr}, (∀ b o, H b = some o → Hx b = some o) → Hx p = none → H p = none := fun {Hx p} hx hp => by
    cases e : H p with
    | none => rfl
    | some o => rw [hx _ _ e] at hp; cases hp
  have ext : ∀ {Hx : Hp} {p : Addr} (v : HO), (∀ b o, H b = some o → Hx b = some o) → Hx p = none → ∀ b o, H b = some o → upd Hx p v b = some o := fun {Hx p} v hx hp b o e => by rw [upd_ne (ne_of_none (hx _ _ e) hp)]; exact hx _ _ e
  refine ⟨_, rfl, rfl, _, rfl, ite2 (fun _ => ?_) (fun _ => ?_)⟩
  · refine ⟨_, rfl, by show 2 ≤ sizeLine; decide, fun p hp => ?_⟩
    refine q ah .non p _ (by omega) va ?_ upd_same (p0 x5' hp) (ext _ x5' hp)
    rw [read_empty ea]; exact rfl
  refine ⟨_, rfl, rfl, _, rfl, ite2 (fun _ => ?_) (fun _ => ?_)⟩
  · have l1 : ("#" : Str).length = 1 := by decide +kernel
    have s1 : sg "#" = [35] := by decide +kernel
    refine ⟨_, rfl, _, _, rfl, rfl, by rw [sizeLine_eq, l1]; omega, _, rfl, c, rfl, fun t H6 lt vt x6 => ?_⟩
    have x6' : ∀ b o, H b = some o → H6 b = some o := fun b o e => x6 _ _ (x5' _ _ e)
    refine ⟨_, _, rfl, rfl, by rw [sizeLine_eq, strLen_append, l1]; omega, by show 2 ≤ sizeLine; decide, fun p hp => ?_⟩
    refine q (ah ++ "#" ++ t) .non p _ (by rw [strLen_append, strLen_append, l1]; omega) (v126_app (v126_app va (by decide +kernel)) vt) ?_ upd_same (p0 x6' hp) (ext _ x6' hp)
    rw [read_remark (n := m) (l := sg t) (by rw [sg_app, sg_app, ea, s1]; simp)]; exact rfl
  refine ⟨_, rfl, rfl, _, rfl, ite2 (fun _ => ?_) (fun _ => ?_)⟩
  · refine ⟨_, rfl, _, rfl, _, rfl, c, k, rfl, by omega, fun t H6 ht x6 => ?_⟩
    have x6' : ∀ b o, H b = some o → H6 b = some o := fun b o e => x6 _ _ (x5' _ _ e)
    have lt : t.length ≤ 40 := by rw [sg_len]; exact bad_len (by rw [← sg_len]; exact kl) ht
    refine ⟨_, _, rfl, rfl, by rw [sizeLine_eq]; omega, by show 2 ≤ sizeLine; decide, fun p hp => ?_⟩
    refine q (ah ++ t) (.str "bad") p _ (by rw [strLen_append]; omega) (v126_app va (bad_vis hk.dig ht)) ?_ upd_same (p0 x6' hp) (ext _ x6' hp)
    rw [read_bad (n := m) hk.dig hk.ne ht (by rw [sg_app, ea])]; exact rfl
  -- a put or a cut
  dsimp only [gName, tNext]
  refine joinS (fun σ H' => (∀ b o, H b = some o → H' b = some o) ∧ ∃ (z : Str) (st : Stp) (ps : Addr) (kd : V), z.length ≤ 100 ∧ Vis126 z ∧ (readR z D = if n < 2 ^ D then some (some st) else none) ∧ DueAt H' (some (some st)) (.ref ps) ∧
    σ = rowσ c D (some (.int (n : Int))) (some (.str k)) (some (.str ah)) (some kd) (some (.ref ps)) (some (.str z))) (fun D' hD' => ?_) ?_
  · refine ⟨_, rfl, _, _, rfl, rfl, _, rfl, ite2 (fun _ => ?_) (fun _ => ?_)⟩
    · have l4 : ("put " : Str).length = 4 := by decide +kernel
      have lb : (" " : Str).length = 1 := by decide +kernel
      have sb : sg " " = [32] := by decide +kernel
      refine ⟨_, rfl, _, rfl, c, rfl, fun t H6 lt vt x6 => ?_⟩
      have x6' : ∀ b o, H b = some o → H6 b = some o := fun b o e => x6 _ _ (x5' _ _ e)
      refine ⟨by show 3 ≤ sizeLine; decide, fun p hp => ?_⟩
      refine ⟨_, rfl, _, _, rfl, rfl, by rw [sizeLine_eq, l4]; omega, _, rfl, _, _, rfl, rfl, by rw [sizeLine_eq, strLen_append, l4]; omega, _, _, rfl, rfl, by rw [sizeLine_eq, strLen_append, strLen_append, l4, lb]; omega,
        _, rfl, p, _, _, _, rfl, rfl, .inl (.inl upd_same), atI_nat (j := 2) rfl, _, _, rfl, rfl, by rw [sizeLine_eq, strLen_append, strLen_append, strLen_append, l4, lb]; omega, ?_⟩
      refine hD' _ _ ⟨ext _ x6' hp, ah ++ "put " ++ k ++ " " ++ t, .put n t, p, _, ?_, ?_, ?_, ⟨p, rfl, upd_same⟩, rfl⟩
      · rw [strLen_append, strLen_append, strLen_append, strLen_append, l4, lb]; omega
      · exact v126_app (v126_app (v126_app (v126_app va (by decide +kernel)) hk.vis) (by decide +kernel)) vt
      · rw [read_put (n := m) (w := sg k) (v := t) hk.dig (by rw [sg_app, sg_app, sg_app, sg_app, ea, put_sg, sb]; simp), hk.key]
        split <;> rfl
    · have l4 : ("cut " : Str).length = 4 := by decide +kernel
      refine ⟨_, rfl, by show 2 ≤ sizeLine; decide, fun p hp => ?_⟩
      refine ⟨_, rfl, _, _, rfl, rfl, by rw [sizeLine_eq, l4]; omega, _, rfl, _, _, rfl, rfl, by rw [sizeLine_eq, strLen_append, l4]; omega, _, rfl, c, 5, 3, rfl, by decide, by decide, fun v3 H6 a3 b3 x6 => ?_⟩
      have e3 := rep32 a3 (by omega)
      have l3 : (repS " " v3).length ≤ 3 := by rw [sg_len, e3, List.length_replicate]; omega
      refine ⟨_, _, rfl, rfl, a3, by omega, by decide, _, _, rfl, rfl, by rw [sizeLine_eq, strLen_append, strLen_append, l4]; omega, ?_⟩
      refine hD' _ _ ⟨fun b o e => x6 _ _ (ext _ x5' hp b o e), ah ++ "cut " ++ k ++ repS " " v3, .cut n, p, _, ?_, ?_, ?_, ⟨p, rfl, x6 _ _ upd_same⟩, rfl⟩
      · rw [strLen_append, strLen_append, strLen_append, l4]; omega
      · exact v126_app (v126_app (v126_app va (by decide +kernel)) hk.vis) (v126_rep e3)
      · rw [read_cut (n := m) (m := v3.toNat) (w := sg k) hk.dig (by rw [sg_app, sg_app, sg_app, ea, cut_sg, e3]; simp), hk.key]
        split <;> rfl
  rintro _ H6 ⟨x6, z, st, ps, kd', lz, vz, hz, due, rfl⟩
  refine ⟨_, rfl, _, rfl, _, rfl, _, _, rfl, rfl, ⟨by omega, by omega, by decide⟩, ?_⟩
  refine ⟨_, _, rfl, rfl, _, rfl, ite2 (fun hc => ?_) (fun hc => ?_)⟩
  · have hc' : n < 2 ^ D := by
      have : ((n : Nat) : Int) < 1 * 2 ^ ((D : Int)).toNat := of_decide_eq_true hc
      rw [pw] at this; omega
    rw [if_pos hc'] at hz
    refine ⟨_, rfl, by show 2 ≤ sizeLine; decide, fun p hp => ?_⟩
    refine q z (.ref ps) p _ lz vz ?_ upd_same (p0 x6 hp) (ext _ x6 hp)
    rw [hz]
    exact due.up fun b xs e => by rw [upd_ne (ne_of_none e hp)]; exact e
  · have hc' : ¬ n < 2 ^ D := fun y => hc (decide_eq_true (by show ((n : Nat) : Int) < 1 * 2 ^ ((D : Int)).toNat; rw [pw]; omega))
    rw [if_neg hc'] at hz
    refine ⟨by show 2 ≤ sizeLine; decide, fun p hp => ?_⟩
    refine q z (.str "bad") p _ lz vz ?_ upd_same (p0 x6 hp) (ext _ x6 hp)
    rw [hz]; exact rfl
end
end My
namespace My
open PySem L2
section
open Tx
variable {P : Program} {w : World} {K : PySem.W.Frag} {mg : Str → Option Value} {base : Heap} {C cP cN : Addr}
structure Ers9 (K : PySem.W.Frag) (mg : Str → Option Value) (C cP cN : Addr) : Prop where
  xg : XGet K C
  no : PySem.W.findIn K (.ref C) "row" = some none
  hR : mg "BadRow" = some (.ref C)
  hP : mg "BadPaper" = some (.ref cP)
  hN : mg "NoPlace" = some (.ref cN)
  kP : PySem.W.kitOne K (.ref C) (.ref cP) = some false
  kN : PySem.W.kitOne K (.ref C) (.ref cN) = some false
  kV : PySem.W.kitOne K (.ref C) (.type "ValueError") = some true
  mV : mg "ValueError" = none
  kt : PySem.W.kitOne K (.type "tuple") (.type "tuple") = some true
  kl : PySem.W.kitOne K (.type "list") (.type "list") = some true
  mi : mg "isinstance" = none
  mt : mg "tuple" = none
  mli : mg "list" = none
theorem due_bad {H : Hp} {o : Option (Option Stp)} {x : V} (h : DueAt H o x) : EqB H 0 x (.str "bad") (decide (o = none)) := by
  match o with
  | none => obtain rfl : x = .str "bad" := h; exact eqB_flat rfl rfl
  | some none => obtain rfl : x = .non := h; exact eqB_flat rfl rfl
  | some (some (.put a v)) => obtain ⟨p, rfl, e⟩ := h; exact .inr ⟨rfl, .inr (.inl ⟨.inl ⟨p, _, rfl, e⟩, rfl⟩)⟩
  | some (some (.cut a)) => obtain ⟨p, rfl, e⟩ := h; exact .inr ⟨rfl, .inr (.inl ⟨.inl ⟨p, _, rfl, e⟩, rfl⟩)⟩
def spAlone : Sp := fun vs H Q _ => ∃ (z : Str) (x : V) (D : Nat), vs = [.str z, x, .int (D : Int)] ∧ z.length ≤ 1000 ∧ z.cps.all (· < 128) = true ∧ DueAt H (readR z D) x ∧ ∀ H', (∀ b o, H b = some o → H' b = some o) → Q (.bl true) H'
theorem scAl : FnScope ["_law_row_here", "_law_due", "_law_depth", "_law_told", "e", "_law_only"] ["_law_row_here", "_law_due", "_law_depth"] (defScope sLalone) := ⟨rfl, rfl, rfl, by decide +kernel, rfl, by decide +kernel, by decide +kernel⟩
theorem ok_alone (F : FunAt K mg "_law_alone" sLalone) (Fr : FnR P w K mg base 5 "read_row" ["row", "depth"] (spRdR C)) (X : Ers9 K mg C cP cN) : FnP P w K mg base 6 "_law_alone" ["_law_row_here", "_law_due", "_law_depth"] spAlone := by
  refine F.ok scAl (fun _ _ _ _ _ _ us hl => match us, hl with | [_, _, _], _ => rfl) (fun vs H Q E h => ?_) (fun f0 cdv A outer s H vs Q E hr h => ?_)
  · obtain ⟨z, x, D, rfl, _⟩ := h; rfl
  obtain ⟨z, x, D, rfl, hz, ha, due, q⟩ := h
  have nd := scAl.nd
  have hun := hr.un
  have mi := X.mi
  refine ⟨_, pss_cons (ps_tryR (i := 4) rfl ⟨rfl, rfl⟩ nd rfl rfl X.xg.own rfl X.hR (pssr_set (i := 3) nd rfl (Or.inl rfl) Fr hr rfl (pa_cons (pv 0) (pa_cons (pv 2) pa_nil))) pss_nil
      (fun e => pss_cons (ps_set (i := 5) nd rfl (Or.inl rfl) (pe_and (pe_not (pe_callB (call_isinstR (K := K)) rfl mi PyProof.Rows.boot_isinstance (pa_cons (pv 4) (pa_cons (pe_glob (v := .ref cP) rfl X.hP rfl) pa_nil)))) (pe_and (pe_not (pe_callB (call_isinstR (K := K)) rfl mi PyProof.Rows.boot_isinstance (pa_cons (pv 4) (pa_cons (pe_glob (v := .ref cN) rfl X.hN rfl) pa_nil)))) (pe_one (pe_callB (call_isinstR (K := K)) rfl mi PyProof.Rows.boot_isinstance (pa_cons (pv 4) (pa_cons (pe_ty rfl X.mV PyProof.Rows.Boot.ValueError) pa_nil))))))) <|
        pss_one (ps_ret (pe_and (pe_cmpR (op_eqBU (A.deeper (PyProof.Rows.envOfC "_law_alone" (defScope sLalone) s.heap.objs.size f0 cdv)).units rfl) (pv 1) pe_str (nomark _)) (pe_and (pe_cmpR op_eq (pe_rowK K rfl (pv 4) rfl) pe_int (nomark _)) (pe_one (pv 5))))))) <|
    pss_one (ps_ret (pe_and (pe_cmpR op_neB (pv 1) pe_str (nomark _)) (pe_and (pe_cmpR op_eqB (pv 3) (pv 1) (nomark _)) (pe_one (pe_or (pe_cmpR op_isN (pv 1) pe_non (nomark _)) (pe_one (pe_callB call_isinst rfl mi PyProof.Rows.boot_isinstance (pa_cons (pv 3) (pa_cons (pe_ty rfl X.mt PyProof.Rows.boot_tuple) pa_nil))))))))), ?_⟩
  refine ⟨_, rfl, _, rfl, z, D, rfl, z, D, 0, rfl, hz, ha, by decide, ?_⟩
  cases hrd : readR z D with
  | none =>
    rw [hrd] at due
    obtain rfl : x = .str "bad" := due
    intro H1 d od x1 hd ro
    refine ⟨C, d, rfl, rfl, rfl, fun ea oe n0 ix => ?_⟩
    have hu : ∀ (c : Addr) (u : Value), RelV (.ref c) u → u = .ref c := fun _ _ z => z
    have nde : d ≠ ea := by rintro rfl; rw [hd] at n0; cases n0
    refine ⟨_, rfl, ea, C, d, oe, _, _, _, rfl, rfl, hu _, upd_same, ix, X.xg, X.kP, _, rfl, _, rfl, ?_⟩
    refine iteT ?_
    refine ⟨_, rfl, ea, C, d, oe, _, _, _, rfl, rfl, hu _, upd_same, ix, X.xg, X.kN, _, rfl, _, rfl, ?_⟩
    refine iteT ?_
    refine ⟨_, rfl, ea, C, d, oe, _, _, _, rfl, rfl, (fun u z => z), upd_same, ix, X.xg, X.kV, ?_⟩
    refine ⟨_, rfl, 0, _, eqB_flat rfl rfl, by show (A.deeper (PyProof.Rows.envOfC "_law_alone" (defScope sLalone) s.heap.objs.size f0 cdv)).units + 0 + 1 < cLine; omega, _, rfl, ?_⟩
    refine iteT ?_
    refine ⟨_, rfl, ea, C, d, oe, od, 0, rfl, upd_same, ix, X.xg, X.no, by rw [upd_ne nde]; exact hd, ro, rfl, _, rfl, ?_⟩
    refine iteT ?_
    exact ⟨_, rfl, q _ fun b o e => by rw [upd_ne (ne_of_none (x1 b o e) n0)]; exact x1 b o e⟩
  | some o =>
    rw [hrd] at due
    have hub : (A.deeper (PyProof.Rows.envOfC "_law_alone" (defScope sLalone) s.heap.objs.size f0 cdv)).units + 1 + 1 < cLine := by omega
    have hub0 : (A.deeper (PyProof.Rows.envOfC "_law_alone" (defScope sLalone) s.heap.objs.size f0 cdv)).units + 0 + 1 < cLine := by omega
    have nb : ∀ H', (∀ b o, H b = some o → H' b = some o) → EqB H' 0 x (.str "bad") false := fun H' k => by
      have := due_bad (due.up fun p xs e => k _ _ e)
      rwa [decide_eq_false (fun y => nomatch y)] at this
    match o with
    | none =>
      obtain rfl : x = .non := due
      intro H1 x1
      refine ⟨_, rfl, 0, _, nb H1 x1, hub0, _, rfl, ?_⟩
      refine iteT ?_
      refine ⟨_, rfl, _, rfl, 0, _, eqB_flat rfl rfl, hub0, _, rfl, ?_⟩
      refine iteT ?_
      refine ⟨_, rfl, rfl, _, rfl, ?_⟩
      exact iteT (q _ x1)
    | some (.put a v) =>
      obtain ⟨p, rfl, hp⟩ := due
      intro H1 p1 x1 h1
      refine ⟨_, rfl, 0, _, nb H1 x1, hub0, _, rfl, ?_⟩
      refine iteT ?_
      refine ⟨_, rfl, _, rfl, 1, _, eqB_tupS h1 (x1 _ _ hp) (by simp [flatV]), hub, _, rfl, ?_⟩
      refine iteT ?_
      refine ⟨_, rfl, rfl, _, rfl, ?_⟩
      refine iteF ?_
      exact ⟨_, rfl, _, _, _, _, rfl, .tup h1, X.kt, q _ x1⟩
    | some (.cut a) =>
      obtain ⟨p, rfl, hp⟩ := due
      intro H1 p1 x1 h1
      refine ⟨_, rfl, 0, _, nb H1 x1, hub0, _, rfl, ?_⟩
      refine iteT ?_
      refine ⟨_, rfl, _, rfl, 1, _, eqB_tupS h1 (x1 _ _ hp) (by simp [flatV]), hub, _, rfl, ?_⟩
      refine iteT ?_
      refine ⟨_, rfl, rfl, _, rfl, ?_⟩
      refine iteF ?_
      exact ⟨_, rfl, _, _, _, _, rfl, .tup h1, X.kt, q _ x1⟩
end
end My
namespace My
open PySem L2
section
open Tx
variable {P : Program} {w : World} {K : PySem.W.Frag} {mg : Str → Option Value} {base : Heap} {C cP cN : Addr}
abbrev Kp (H H' : Hp) : Prop := ∀ b o, H b = some o → H' b = some o
theorem Kp.new {H H' : Hp} {p : Addr} {v : HO} (k : Kp H H') (n : H' p = none) : Kp H (upd H' p v) := fun b o e => by rw [upd_ne (ne_of_none (k _ _ e) n)]; exact k _ _ e
theorem Kp.at' {H H' : Hp} {p : Addr} {v : HO} (k : Kp H H') (n : H p = none) : Kp H (upd H' p v) := fun b o e => by rw [upd_ne (ne_of_none e n)]; exact k _ _ e
theorem SqF.ext {H H' : Hp} {a : Addr} {xs : List V} (h : SqF K H a xs) (k : Kp H H') : SqF K H' a xs := by
  rcases h with ⟨o, h⟩ | h
  · exact .inl ⟨o, k _ _ h⟩
  · exact .inr h
def spCell (K : PySem.W.Frag) : Sp := fun vs H Q _ => ∃ (a : Addr) (ns : List Int) (k : Int), vs = [.ref a, .int k] ∧ SqL K H a (ns.map V.int) ∧ 0 ≤ k ∧ ∀ v : Int, Q (.int v) H
theorem scCe : FnScope ["_law_script", "_law_k"] ["_law_script", "_law_k"] (defScope sCell) := ⟨rfl, rfl, rfl, by decide +kernel, rfl, by decide +kernel, by decide +kernel⟩
theorem ok_cell (F : FunAt K mg "_law_cell_at" sCell) (ml : mg "len" = none) : FnP P w K mg base 1 "_law_cell_at" ["_law_script", "_law_k"] (spCell K) := by
  refine F.ok scCe (fun _ _ _ _ _ _ us hl => match us, hl with | [_, _], _ => rfl) (fun vs H Q E h => ?_) (fun f cdv A outer s H vs Q E hr h => ?_)
  · obtain ⟨a, ns, k, rfl, _⟩ := h; rfl
  obtain ⟨a, ns, k, rfl, hS, h0, q⟩ := h
  refine ⟨_, pss_cons (ps_if (pt_cmpR op_lt (pv 1) (pe_callB call_len_seq rfl ml PySem.boot_len (pa_cons (pv 0) pa_nil)) (nomark _)) (pss_one (ps_ret (pe_ix ix_list (pv 0) (pv 1) (fun _ _ => rfl)))) pss_nil) (pss_one (ps_ret pe_int)), ?_⟩
  refine ⟨_, rfl, _, rfl, a, _, rfl, .inl hS, _, _, rfl, rfl, _, rfl, ?_⟩
  refine ite2 (fun c => ?_) (fun c => ?_)
  · have c' : k < ((ns.map V.int).length : Int) := of_decide_eq_true c
    rw [List.length_map] at c'
    have hk : k.toNat < ns.length := by omega
    have z : atI (ns.map V.int) ((k.toNat : Nat) : Int) = some (.int ns[k.toNat]) := atI_nat (by rw [List.getElem?_map, List.getElem?_eq_getElem hk] <;> rfl)
    rw [show ((k.toNat : Nat) : Int) = k by omega] at z
    exact ⟨_, rfl, _, rfl, a, _, _, _, rfl, rfl, hS, z, q _⟩
  · exact q 0
def RowAt (H : Hp) (D : Nat) (z : Str) (v : V) : Prop := ∃ p x, v = .ref p ∧ H p = some (.tup [.str z, x]) ∧ DueAt H (readR z D) x ∧ z.length ≤ 100 ∧ Vis126 z
theorem RowAt.up {H H' : Hp} {D : Nat} {z : Str} {v : V} (h : RowAt H D z v) (k : ∀ p xs, H p = some (.tup xs) → H' p = some (.tup xs)) : RowAt H' D z v := by
  obtain ⟨p, x, e1, e2, e3, e4, e5⟩ := h
  exact ⟨p, x, e1, k _ _ e2, e3.up k, e4, e5⟩
abbrev Rows (H : Hp) (D : Nat) (zs : List Str) (ws : List V) : Prop := Paired (RowAt H D) zs ws
theorem rows_up {H H' : Hp} {D : Nat} {zs : List Str} {ws : List V} (h : Rows H D zs ws) (k : ∀ p xs, H p = some (.tup xs) → H' p = some (.tup xs)) : Rows H' D zs ws := L2.Paired.imp2 (fun e x h => RowAt.up h k) h
theorem rows_kp {H H' : Hp} {D : Nat} {zs : List Str} {ws : List V} (h : Rows H D zs ws) (k : Kp H H') : Rows H' D zs ws := rows_up h fun p xs e => k _ _ e
theorem rows_lst {H : Hp} {D : Nat} {zs : List Str} {ws ys : List V} {a : Addr} {v : HO} (h : Rows H D zs ws) (e : H a = some (.lst ys)) : Rows (upd H a v) D zs ws := rows_up h fun p xs z => by
  have : p ≠ a := by rintro rfl; rw [e] at z; cases z
  rw [upd_ne this]; exact z
theorem rows_len {H : Hp} {D : Nat} {zs : List Str} {ws : List V} (h : Rows H D zs ws) : ws.length = zs.length := by
  induction h with
  | nil => rfl
  | cons _ _ ih => rw [List.length_cons, List.length_cons, ih]
theorem rows_at {H : Hp} {D : Nat} {zs : List Str} {ws : List V} (h : Rows H D zs ws) : ∀ {i : Nat} {v : V}, ws[i]? = some v → ∃ z, zs[i]? = some z ∧ RowAt H D z v := by
  induction h with
  | nil => intro i v e; simp at e
  | cons r _ ih =>
    intro i v e
    match i, e with
    | 0, e => simp at e; subst e; exact ⟨_, rfl, r⟩
    | i + 1, e => exact ih (by simpa using e)
theorem rows_in {H : Hp} {D : Nat} {zs : List Str} {ws : List V} (h : Rows H D zs ws) : ∀ z ∈ zs, z.length ≤ 100 ∧ Vis126 z := by
  induction h with
  | nil => intro z hz; simp at hz
  | cons r _ ih =>
    intro z hz
    rcases List.mem_cons.mp hz with rfl | hz
    · obtain ⟨_, _, _, _, _, h1, h2⟩ := r; exact ⟨h1, h2⟩
    · exact ih z hz
def badIx (D : Nat) : Nat → List Str → List Nat
  | _, [] => []
  | n, r :: l => (if readR r D = none then [n] else []) ++ badIx D (n + 1) l
theorem badIx_snoc (D : Nat) : ∀ (n : Nat) (l : List Str) (r : Str), badIx D n (l ++ [r]) = badIx D n l ++ (if readR r D = none then [n + l.length] else [])
  | n, [], r => by simp [badIx]
  | n, a :: l, r => by
    show _ ++ badIx D (n + 1) (l ++ [r]) = _
    rw [badIx_snoc D (n + 1) l r]
    show _ = (_ ++ badIx D (n + 1) l) ++ _
    rw [List.append_assoc, show n + 1 + l.length = n + (a :: l).length by simp; omega]
theorem badIx_none (D : Nat) : ∀ (n : Nat) (l : List Str), (∀ r ∈ l, readR r D ≠ none) → badIx D n l = []
  | _, [], _ => rfl
  | n, a :: l, h => by
    show (if readR a D = none then [n] else []) ++ badIx D (n + 1) l = []
    rw [if_neg (h a List.mem_cons_self), badIx_none D (n + 1) l fun r hr => h r (List.mem_cons_of_mem _ hr)]; rfl
theorem badIx_head (D : Nat) : ∀ (n i : Nat) (l : List Str) (r : Str), l[i]? = some r → readR r D = none → (∀ r' ∈ l.take i, readR r' D ≠ none) → ∃ t, badIx D n l = (n + i) :: t
  | n, i, [], r, e, _, _ => by simp at e
  | n, 0, a :: l, r, e, hr, _ => by
    obtain rfl : a = r := by simpa using e
    exact ⟨badIx D (n + 1) l, by show (if readR a D = none then [n] else []) ++ _ = _; rw [if_pos hr]; rfl⟩
  | n, i + 1, a :: l, r, e, hr, h => by
    obtain ⟨t, ht⟩ := badIx_head D (n + 1) i l r (by simpa using e) hr fun r' h' => h r' (by rw [List.take_succ_cons]; exact List.mem_cons_of_mem _ h')
    refine ⟨t, ?_⟩
    show (if readR a D = none then [n] else []) ++ badIx D (n + 1) l = _
    rw [if_neg (h a (by rw [List.take_succ_cons]; exact List.mem_cons_self)), ht, show n + (i + 1) = n + 1 + i by omega]; rfl
theorem join_nl (zs : List Str) : Txt.join "\n" zs = Str.join nl zs := by
  have e0 : ("\n" : Str) = nl := by decide +kernel
  show Builtin.Str.glued "\n" zs = _
  rw [StrLaws.glued_eq_join, e0]
theorem split_rows {zs : List Str} (hv : ∀ z ∈ zs, Vis126 z) : Txt.split (Txt.join "\n" zs) "\n" = if zs = [] then [("" : Str)] else zs := by
  have e0 : ("\n" : Str) = nl := by decide +kernel
  split
  · next h => rw [h]; decide +kernel
  · next h =>
    rw [join_nl, e0]
    exact split_join h fun z hz m => by have := hv z hz 10 m; omega
theorem join_len : ∀ (zs : List Str), (∀ z ∈ zs, z.length ≤ 100) → (Str.join nl zs).length ≤ 101 * zs.length
  | [], _ => by decide
  | [a], h => by
    have := h a List.mem_cons_self
    show a.length ≤ _
    simp; omega
  | a :: b :: l, h => by
    have ih := join_len (b :: l) fun z hz => h z (List.mem_cons_of_mem _ hz)
    have ha := h a List.mem_cons_self
    rw [sg_len, join_cons, List.length_append, List.length_cons, ← sg_len, ← sg_len]
    simp only [List.length_cons] at ih ⊢
    omega
theorem sum_100 : ∀ {ys : List Str}, (∀ y ∈ ys, y.length ≤ 100) → (ys.map (·.length)).sum ≤ 100 * ys.length
  | [], _ => by simp
  | y :: ys, h => by
    have := sum_100 fun z hz => h z (List.mem_cons_of_mem _ hz)
    have h1 := h y List.mem_cons_self
    rw [List.map_cons, List.sum_cons, List.length_cons]
    omega
theorem vis_asc {z : Str} (h : Vis126 z) : z.cps.all (· < 128) = true := Array.all_eq_true_iff_forall_mem.mpr fun c hc => by
  have := h c (by simpa using hc)
  simp; omega
theorem steps_kp {H H' : Hp} {es : List (Nat × Stp)} {ws : List V} (h : Paired (StepAt H) es ws) (k : Kp H H') : Paired (StepAt H') es ws := L2.Paired.imp2 (fun e x h => StepAt.up h fun p' xs y => k _ _ y) h
theorem step_eq {H : Hp} {e : Nat × Stp} {u v : V} (r : StepAt H e u) (r' : StepAt H e v) : EqB H 1 u v true := by
  obtain ⟨n, st⟩ := e
  cases st with
  | put a b => obtain ⟨p, rfl, g⟩ := r; obtain ⟨p', rfl, g'⟩ := r'; exact eqB_tupS g g' (by simp [flatV])
  | cut a => obtain ⟨p, rfl, g⟩ := r; obtain ⟨p', rfl, g'⟩ := r'; exact eqB_tupS g g' (by simp [flatV])
theorem steps_eq {H : Hp} {es : List (Nat × Stp)} {us : List V} (hu : Paired (StepAt H) es us) : ∀ {vs : List V}, Paired (StepAt H) es vs → us.length = vs.length ∧ ∀ (i : Nat) u v, us[i]? = some u → vs[i]? = some v → EqB H 1 u v true := by
  induction hu with
  | nil => intro vs hv; cases hv; exact ⟨rfl, fun i u v e => by simp at e⟩
  | cons r _ ih =>
    intro vs hv
    cases hv with
    | cons r' hv =>
      obtain ⟨h1, h2⟩ := ih hv
      refine ⟨by rw [List.length_cons, List.length_cons, h1], fun i u v e1 e2 => ?_⟩
      match i, e1, e2 with
      | 0, e1, e2 =>
        rw [List.getElem?_cons_zero] at e1 e2
        cases e1; cases e2
        exact step_eq r r'
      | i + 1, e1, e2 => exact h2 i u v (by simpa using e1) (by simpa using e2)
end
end My
namespace My
open PySem L2
def spLaw (K : PySem.W.Frag) (mg : Str → Option Value) (Pt : Addr) : Sp := fun vs H Q _ => ∃ (a : Addr) (ns : List Int), vs = [.ref a] ∧ SqF K H a (ns.map V.int) ∧ ns.length ≤ 63 ∧ ∀ H', Q (.bl true) H'
section
open Tx
variable {P : Program} {w : World} {K : PySem.W.Frag} {mg : Str → Option Value} {base : Heap} {C cP cN : Addr}
theorem scL : FnScope ["_law_script", "_law_depth", "_law_made", "_law_one", "_law_rows", "_law_bad_here", "_law_due", "_law_told", "e"] ["_law_script"] (defScope sLaw) := ⟨rfl, rfl, rfl, by decide +kernel, rfl, by decide +kernel, by decide +kernel⟩
abbrev lσ (a : Addr) (D : Nat) (m o r b d t e : Option V) : St := [some (.ref a), some (.int (D : Int)), m, o, r, b, d, t, e]
def lB : List Stmt := match (defBody sLaw).getD 3 (.Pass ⟨0, 0, 0, 0⟩) with
  | .For _ _ b _ _ => b
  | _ => []
theorem body_ok {f0 : Addr} {cdv : Value} {A : Around} {outer : List Env} {s : Shared} {H0 : Hp} {E : XK} (hr : Room 99 (A.deeper (PyProof.Rows.envOfC "law" (defScope sLaw) s.heap.objs.size f0 cdv))) (Fr : FnR P w K mg base 5 "read_rows" ["text", "depth"] (spRdRs C)) (X : Ers9 K mg C cP cN) (ml : mg "len" = none) (mr : mg "range" = none) :
    ∃ t, PSs (cxOf CX0 P w K mg base ["_law_script", "_law_depth", "_law_made", "_law_one", "_law_rows", "_law_bad_here", "_law_due", "_law_told", "e"] "law" (defScope sLaw) f0 cdv A outer s H0 E).nox lB t ∧
      ∀ (Ed : Ends) (a aR : Addr) (D : Nat) (zs : List Str) (ws : List V) (m o b d t' e : Option V) (H : Hp), H aR = some (.lst ws) → Rows H D zs ws → zs.length ≤ 63 →
        (∀ H' b' d' t2 e', Kp H H' → Ed.nx (lσ a D m o (some (.ref aR)) b' d' t2 e') H') → t Ed (lσ a D m o (some (.ref aR)) b d t' e) H := by
  have nd := scL.nd
  have mi := X.mi
  have hun := hr.un
  refine' ⟨_, pss_cons (ps_setComp (iz := 5) (ys := ["_law_rows"]) (js := [4]) ?ok1 (pi_range1 rfl mr (pa_cons (pe_callB call_len_seq rfl ml PySem.boot_len (pa_cons (pv 4) pa_nil)) pa_nil)) (fun _ _ _ => pts_one ?ht1) (fun _ _ _ => pv 0) nd rfl (Or.inl rfl) (Or.inl rfl) rfl) <|
    pss_cons (ps_setComp (iz := 6) (ys := ["_law_rows"]) (js := [4]) ?ok2 (pi_range1 rfl mr (pa_cons (pe_callB call_len_seq rfl ml PySem.boot_len (pa_cons (pv 4) pa_nil)) pa_nil)) (fun _ _ _ => pts_one ?ht2) (fun _ _ _ => ?he2) nd rfl (Or.inl rfl) (Or.inl rfl) rfl) <|
    pss_one (ps_tryR (i := 8) rfl ⟨rfl, rfl⟩ nd rfl rfl X.xg.own rfl X.hR (pssr_set (i := 7) nd rfl (Or.inl rfl) Fr (hr.mono (by omega)) rfl (pa_cons (pe_bm PySem.F.plainAttrs_str PySem.F.slot_str_join PySem.F.type_str_join mt_join pe_str (pa_cons (pe_comp (ys := []) (js := []) ?ok3 (pi_list (pv 4)) (fun _ _ _ => pts_nil) (fun _ _ _ => ?he3)) pa_nil)) (pa_cons (pv 1) pa_nil)))
      (pss_one (ps_if (PW.pt (pw_or (pt_cmpR op_neB (pv 5) (pe_lst pa_nil) (nomark _)) (pw_or (pt_cmpR op_neB (pv 7) (pv 6) (nomark _)) (pw_or1 (pt_not (pt_val (pe_callB call_isinst rfl mi PyProof.Rows.boot_isinstance (pa_cons (pv 7) (pa_cons (pe_ty rfl X.mli PyProof.Rows.boot_list) pa_nil))))))))) (pss_one (ps_ret pe_bl)) pss_nil))
      (fun e => pss_one (ps_if (PW.pt (pw_or (pt_cmpR (op_eqBU (A.deeper (PyProof.Rows.envOfC "law" (defScope sLaw) s.heap.objs.size f0 cdv)).units rfl) (pv 5) (pe_lst pa_nil) (nomark _)) (pw_or1 (pt_cmpR op_ne (pe_rowK K rfl (pv 8) rfl) (pe_ix (ix_listK K rfl) (pv 5) pe_int (fun _ _ => rfl)) (nomark _))))) (pss_one (ps_ret pe_bl)) pss_nil))), ?rd⟩
  case ok1 =>
    refine ⟨rfl, rfl, rfl, by decide +kernel, by decide +kernel, rfl, by decide +kernel, same_of (fun p hp => ?_), rfl, fun i y h => ?_, rfl⟩
    · simp only [List.mem_cons, List.not_mem_nil, or_false] at hp
      rcases hp with rfl <;> rfl
    · match i, h with
      | 0, h => simp at h; subst h; exact ⟨4, rfl, rfl, rfl, rfl⟩
      | i + 1, h => simp at h
  case ok2 =>
    refine ⟨rfl, rfl, rfl, by decide +kernel, by decide +kernel, rfl, by decide +kernel, same_of (fun p hp => ?_), rfl, fun i y h => ?_, rfl⟩
    · simp only [List.mem_cons, List.not_mem_nil, or_false] at hp
      rcases hp with rfl <;> rfl
    · match i, h with
      | 0, h => simp at h; subst h; exact ⟨4, rfl, rfl, rfl, rfl⟩
      | i + 1, h => simp at h
  case ok3 => exact ⟨rfl, rfl, rfl, by decide +kernel, by decide +kernel, rfl, by decide +kernel, fun _ _ h => (nomatch h), rfl, fun i y h => by simp at h, rfl⟩
  case ht1 => exact pt_cmpR (op_eqBU (A.deeper (PyProof.Rows.envOfC "law" (defScope sLaw) s.heap.objs.size f0 cdv)).units rfl) (pe_ix (ix_tupK K rfl) (pe_ix (ix_listK K rfl) (pv 1) (pv 0) (fun _ _ => rfl)) pe_int (fun _ _ => rfl)) pe_str (nomark _)
  case ht2 => exact PW.pt (pw_and (pt_cmpR op_notN (pe_ix (ix_tupK K rfl) (pe_ix (ix_listK K rfl) (pv 1) (pv 0) (fun _ _ => rfl)) pe_int (fun _ _ => rfl)) pe_non (nomark _)) (pw_and1 (pt_cmpR (op_neBU (A.deeper (PyProof.Rows.envOfC "law" (defScope sLaw) s.heap.objs.size f0 cdv)).units rfl) (pe_ix (ix_tupK K rfl) (pe_ix (ix_listK K rfl) (pv 1) (pv 0) (fun _ _ => rfl)) pe_int (fun _ _ => rfl)) pe_str (nomark _))))
  case he2 => exact pe_op (op_catTK K rfl) (pe_ix (ix_tupK K rfl) (pe_ix (ix_listK K rfl) (pv 1) (pv 0) (fun _ _ => rfl)) pe_int (fun _ _ => rfl)) (pe_tup (pa_cons (pv 0) pa_nil))
  case he3 => exact pe_ix (ix_tupK K rfl) (pv 0) pe_int (fun _ _ => rfl)
  case rd =>
  intro Ed a aR D zs ws m o b d t' e H hR rows hl q
  have wl := rows_len rows
  have hub1 : (A.deeper (PyProof.Rows.envOfC "law" (defScope sLaw) s.heap.objs.size f0 cdv)).units + 1 + 1 < cLine := by omega
  have hub2 : (A.deeper (PyProof.Rows.envOfC "law" (defScope sLaw) s.heap.objs.size f0 cdv)).units + 2 + 1 < cLine := by omega
  -- the places of the rows that cannot be read
  refine ⟨_, rfl, aR, _, rfl, .inl (SqL.of hR), _, rfl, by omega, by omega, ?_⟩
  rw [show ((ws.length : Nat) : Int).toNat = ws.length from rfl]
  refine comp_rangeT (fun D' i ys H' => Kp H H' ∧ H' D' = some (.lst ys) ∧ ys = (badIx D 0 (zs.take i)).map (fun n : Nat => V.int (n : Int)) ∧ ys.length ≤ i) (fun D' hD => ⟨Kp.new (fun _ _ e => e) hD, upd_same, rfl, by simp⟩) ?_ ?_
  · rintro D' i ys H' Qe Qn hD hi ⟨kp, hD', rfl, yl⟩ hqe hqn
    obtain ⟨v, ev⟩ : ∃ v, ws[i]? = some v := ⟨_, List.getElem?_eq_getElem hi⟩
    obtain ⟨z, ez, p, x, rfl, hp, due, _, _⟩ := rows_at (rows_kp rows kp) ev
    have tk : zs.take (i + 1) = zs.take i ++ [z] := by rw [List.take_succ, ez]; rfl
    have li : 0 + (zs.take i).length = i := by rw [List.length_take]; omega
    rw [show (0 : Int) + (i : Nat) = ((i : Nat) : Int) by omega]
    refine ⟨_, rfl, _, rfl, aR, ws, _, _, rfl, rfl, SqL.of (kp _ _ hR), atI_nat ev, p, _, 1, x, rfl, rfl, .inl (.inl hp), atI_nat (j := 1) rfl, 0, _, due_bad due, by omega, _, rfl, ?_⟩
    by_cases hn : readR z D = none
    · rw [decide_eq_true hn]
      refine iteT ⟨_, rfl, hqe _ _ hD' (by rw [sizeLine_eq]; omega) ⟨Kp.at' kp hD, upd_same, ?_, by rw [List.length_append, List.length_singleton]; omega⟩⟩
      rw [tk, badIx_snoc, if_pos hn, li]; simp
    · rw [decide_eq_false hn]
      refine iteF (hqn _ ⟨kp, hD', ?_, by omega⟩)
      rw [tk, badIx_snoc, if_neg hn, List.append_nil]
  rintro aB ysB H1 nB ⟨kp1, hB1, eB, lB'⟩
  rw [show zs.take ws.length = zs by rw [wl]; exact List.take_length] at eB
  dsimp only [gName]
  have hR1 := kp1 _ _ hR
  have rows1 := rows_kp rows kp1
  -- what is due
  refine ⟨_, rfl, aR, _, rfl, .inl (SqL.of hR1), _, rfl, by omega, by omega, ?_⟩
  rw [show ((ws.length : Nat) : Int).toNat = ws.length from rfl]
  refine comp_rangeT (fun D' i ys H' => Kp H1 H' ∧ H' D' = some (.lst ys) ∧ Paired (StepAt H') (stepsOf D 0 (zs.take i)) ys ∧ ys.length ≤ i) (fun D' hD => ⟨Kp.new (fun _ _ e => e) hD, upd_same, .nil, by simp⟩) ?_ ?_
  · rintro D' i ys H' Qe Qn hD hi ⟨kp, hD', pr, yl⟩ hqe hqn
    obtain ⟨v, ev⟩ : ∃ v, ws[i]? = some v := ⟨_, List.getElem?_eq_getElem hi⟩
    obtain ⟨z, ez, p, x, rfl, hp, due, _, _⟩ := rows_at (rows_kp rows1 kp) ev
    have tk : zs.take (i + 1) = zs.take i ++ [z] := by rw [List.take_succ, ez]; rfl
    have li : 0 + (zs.take i).length = i := by rw [List.length_take]; omega
    rw [show (0 : Int) + (i : Nat) = ((i : Nat) : Int) by omega]
    refine ⟨_, rfl, _, rfl, aR, ws, _, _, rfl, rfl, SqL.of (kp _ _ hR1), atI_nat ev, p, _, 1, x, rfl, rfl, .inl (.inl hp), atI_nat (j := 1) rfl, rfl, _, rfl, ?_⟩
    have skip : stepsOf D 0 (zs.take i ++ [z]) = stepsOf D 0 (zs.take i) → Qn H' := fun e => hqn _ ⟨kp, hD', by rw [tk, e]; exact pr, by omega⟩
    have go : ∀ (Hx : Hp) (pS : Addr), Kp H' Hx → Hx D' = some (.lst ys) → ∀ st, readR z D = some (some st) → StepAt Hx (i, st) (.ref pS) → Qe (.ref pS) Hx := fun Hx pS kx hx st e hst => by
      have keep : ∀ (o' : HO) p' xs, Hx p' = some (.tup xs) → upd Hx D' o' p' = some (.tup xs) := fun o' p' xs y => by
        have : p' ≠ D' := by rintro rfl; rw [hx] at y; cases y
        rw [upd_ne this]; exact y
      refine hqe _ _ hx (by rw [sizeLine_eq]; omega) ⟨Kp.at' (fun b o e => kx _ _ (kp _ _ e)) hD, upd_same, ?_, by simp; omega⟩
      rw [tk, stepsOf_snoc, e, li]
      exact pr_app (L2.Paired.imp2 (fun e x h => StepAt.up h fun p' xs y => keep _ _ _ (kx _ _ y)) pr) (.cons (StepAt.up hst (keep _)) .nil)
    cases hrd : readR z D with
    | none =>
      rw [hrd] at due
      obtain rfl : x = .str "bad" := due
      rw [decide_eq_false (fun h => nomatch h)]
      refine iteT ?_
      refine ⟨_, rfl, _, rfl, aR, ws, _, _, rfl, rfl, SqL.of (kp _ _ hR1), atI_nat ev, p, _, 1, _, rfl, rfl, .inl (.inl hp), atI_nat (j := 1) rfl, 0, _, eqB_flat rfl rfl, by omega, _, rfl, ?_⟩
      exact iteF (skip (by rw [stepsOf_snoc, hrd]; exact List.append_nil _))
    | some o =>
      have nb := due_bad due
      rw [hrd, decide_eq_false (fun y => nomatch y)] at nb
      rw [hrd] at due
      match o, due, hrd with
      | none, due, hrd =>
        obtain rfl : x = .non := due
        rw [decide_eq_true rfl]
        exact iteF (iteF (skip (by rw [stepsOf_snoc, hrd]; exact List.append_nil _)))
      | some (.put k v), due, hrd =>
        obtain ⟨pd, rfl, hd⟩ := due
        rw [decide_eq_false (fun h => nomatch h)]
        refine iteT ?_
        refine ⟨_, rfl, _, rfl, aR, ws, _, _, rfl, rfl, SqL.of (kp _ _ hR1), atI_nat ev, p, _, 1, _, rfl, rfl, .inl (.inl hp), atI_nat (j := 1) rfl, 0, _, nb, by omega, _, rfl, ?_⟩
        refine iteT ?_
        refine ⟨_, rfl, _, rfl, aR, ws, _, _, rfl, rfl, SqL.of (kp _ _ hR1), atI_nat ev, p, _, 1, _, rfl, rfl, .inl (.inl hp), atI_nat (j := 1) rfl, _, rfl, by show 1 ≤ sizeLine; decide, fun p4 np4 => ?_⟩
        have k4 : Kp H' (upd H' p4 (.tup [.int (i : Nat)])) := Kp.new (fun _ _ e => e) np4
        refine ⟨pd, p4, _, _, rfl, rfl, SqT.of (k4 _ _ hd), SqT.of upd_same, by simp, by rw [sizeLine_eq]; simp, fun y => by simp at y, fun _ p5 np5 => ?_⟩
        have k5 : Kp H' (upd (upd H' p4 (.tup [.int (i : Nat)])) p5 (.tup ([.str "put", .int (k : Int), .str v] ++ [.int (i : Nat)]))) := Kp.new k4 np5
        exact go _ p5 k5 (k5 _ _ hD') _ hrd ⟨p5, rfl, upd_same⟩
      | some (.cut k), due, hrd =>
        obtain ⟨pd, rfl, hd⟩ := due
        rw [decide_eq_false (fun h => nomatch h)]
        refine iteT ?_
        refine ⟨_, rfl, _, rfl, aR, ws, _, _, rfl, rfl, SqL.of (kp _ _ hR1), atI_nat ev, p, _, 1, _, rfl, rfl, .inl (.inl hp), atI_nat (j := 1) rfl, 0, _, nb, by omega, _, rfl, ?_⟩
        refine iteT ?_
        refine ⟨_, rfl, _, rfl, aR, ws, _, _, rfl, rfl, SqL.of (kp _ _ hR1), atI_nat ev, p, _, 1, _, rfl, rfl, .inl (.inl hp), atI_nat (j := 1) rfl, _, rfl, by show 1 ≤ sizeLine; decide, fun p4 np4 => ?_⟩
        have k4 : Kp H' (upd H' p4 (.tup [.int (i : Nat)])) := Kp.new (fun _ _ e => e) np4
        refine ⟨pd, p4, _, _, rfl, rfl, SqT.of (k4 _ _ hd), SqT.of upd_same, by simp, by rw [sizeLine_eq]; simp, fun y => by simp at y, fun _ p5 np5 => ?_⟩
        have k5 : Kp H' (upd (upd H' p4 (.tup [.int (i : Nat)])) p5 (.tup ([.str "cut", .int (k : Int)] ++ [.int (i : Nat)]))) := Kp.new k4 np5
        exact go _ p5 k5 (k5 _ _ hD') _ hrd ⟨p5, rfl, upd_same⟩
  rintro aD wsD H2 nD ⟨kp2, hD2, prD, lD'⟩
  rw [show zs.take ws.length = zs by rw [wl]; exact List.take_length] at prD
  dsimp only [gName]
  have hR2 := kp2 _ _ hR1
  have hB2 := kp2 _ _ hB1
  have rows2 := rows_kp rows1 kp2
  have kp02 : Kp H H2 := fun b o e => kp2 _ _ (kp1 _ _ e)
  -- the text
  refine ⟨rfl, _, rfl, aR, rfl, ⟨ws, SqL.of hR2⟩, ?_⟩
  refine comp_list (fun D' i ys H' => Kp H2 H' ∧ H' D' = some (.lst ys) ∧ ys = (zs.take i).map V.str) (fun D' hD => ⟨Kp.new (fun _ _ e => e) hD, upd_same, rfl⟩) (fun D' i ys H' hD h => SqL.of (h.1 _ _ hR2)) ?_ ?_
  · rintro D' i x ys H' Qb hD ev ⟨kp, hD', rfl⟩ hq
    obtain ⟨z, ez, p, x, rfl, hp, due, _, _⟩ := rows_at (rows_kp rows2 kp) ev
    have tk : zs.take (i + 1) = zs.take i ++ [z] := by rw [List.take_succ, ez]; rfl
    have hi := (List.getElem?_eq_some_iff.mp ez).1
    exact ⟨_, rfl, p, _, 0, _, rfl, rfl, .inl (.inl hp), atI_nat (j := 0) rfl, hq _ _ hD' (by rw [sizeLine_eq, List.length_map, List.length_take]; omega) ⟨Kp.at' kp hD, upd_same, by rw [tk]; simp⟩⟩
  rintro aT ysT H3 nT ⟨kp3, hT3, eT⟩
  rw [show zs.take ws.length = zs by rw [wl]; exact List.take_length] at eT
  subst eT
  have all := rows_in rows
  have sm := sum_100 fun y hy => (all y hy).1
  have l1 : ("\n" : Str).length = 1 := by decide +kernel
  refine ⟨"\n", aT, zs, rfl, rfl, SqL.of hT3, by rw [l1]; omega, ?_⟩
  have sp := split_rows fun z hz => (all z hz).2
  have jl := join_len zs fun y hy => (all y hy).1
  refine ⟨_, rfl, Txt.join "\n" zs, D, rfl, by rw [join_nl, sizeLine_eq]; omega, ?_, ?_, ?_, ?_⟩
  · rw [sp]; split
    · simp
    · omega
  · rw [sp]; intro r hr
    split at hr
    · obtain rfl := List.mem_singleton.mp hr; exact ⟨by decide, by decide +kernel⟩
    · exact ⟨by have := (all r hr).1; omega, vis_asc (all r hr).2⟩
  · rw [sp]
    intro i r er hr hall H4 d4 od x4 hd4 ro
    by_cases hz : zs = []
    · rw [if_pos hz] at er
      have : r = "" := by
        match i, er with
        | 0, er => simpa using er.symm
        | i + 1, er => simp at er
      rw [this, read_empty (n := 0) (by decide)] at hr; cases hr
    rw [if_neg hz] at er hall
    obtain ⟨tl, hbx⟩ := badIx_head D 0 i zs r er hr hall
    rw [Nat.zero_add] at hbx
    rw [hbx] at eB
    refine ⟨C, d4, rfl, rfl, rfl, fun ea oe n0 ix => ?_⟩
    have hB4 := x4 _ _ (kp3 _ _ hB2)
    have hB5 : upd H4 ea (.frz oe (.own 0)) aB = some (.lst ysB) := by rw [upd_ne (ne_of_none hB4 n0)]; exact hB4
    have nde : d4 ≠ ea := by rintro rfl; rw [hd4] at n0; cases n0
    refine ⟨_, rfl, by show 0 ≤ sizeLine; decide, fun pn hpn => ?_⟩
    have k6 : Kp (upd H4 ea (.frz oe (.own 0))) (upd (upd H4 ea (.frz oe (.own 0))) pn (.lst [])) := Kp.new (fun _ _ e => e) hpn
    refine ⟨1, _, eqB_nil (k6 _ _ hB5) upd_same, by show (A.deeper (PyProof.Rows.envOfC "law" (defScope sLaw) s.heap.objs.size f0 cdv)).units + 1 + 1 < cLine; omega, _, rfl, ?_⟩
    rw [decide_eq_false (by rw [eB]; simp)]
    refine iteF ?_
    refine ⟨_, rfl, ea, C, d4, oe, od, i, rfl, k6 _ _ upd_same, ix, X.xg, X.no, k6 _ _ (by rw [upd_ne nde]; exact hd4), ro, _, rfl, aB, ysB, 0, .int (i : Int), rfl, rfl, SqL.of (k6 _ _ hB5), atI_nat (j := 0) (by rw [eB]; rfl), rfl, _, rfl, ?_⟩
    rw [decide_eq_true rfl]
    refine iteF ?_
    refine q _ _ _ _ _ fun b o e => k6 _ _ ?_
    have e4 := x4 _ _ (kp3 _ _ (kp02 _ _ e))
    rw [upd_ne (ne_of_none e4 n0)]; exact e4
  · rw [sp]
    intro hall H4 aL wsL x4 hL4 prL nL
    have hall' : ∀ r ∈ zs, readR r D ≠ none := fun r hr => hall r (by
      rw [if_neg (fun e => by rw [e] at hr; simp at hr)]; exact hr)
    rw [badIx_none D 0 zs hall'] at eB
    have est : stepsOf D 0 (if zs = [] then [("" : Str)] else zs) = stepsOf D 0 zs := by
      split
      · next h => rw [h]; show (match readR "" D with | some (some st) => [(0, st)] | _ => []) ++ [] = []; rw [read_empty (n := 0) (by decide)]; rfl
      · rfl
    rw [est] at prL
    have hB4 := x4 _ _ (kp3 _ _ hB2)
    have hD4 := x4 _ _ (kp3 _ _ hD2)
    refine ⟨_, rfl, by show 0 ≤ sizeLine; decide, fun pn hpn => ?_⟩
    have k6 : Kp H4 (upd H4 pn (.lst [])) := Kp.new (fun _ _ e => e) hpn
    refine ⟨1, _, eqB_nil (k6 _ _ hB4) upd_same, hub1, _, rfl, ?_⟩
    rw [decide_eq_true (by rw [eB]; rfl)]
    refine iteF ?_
    obtain ⟨s1, s2⟩ := steps_eq (steps_kp prL k6) (steps_kp prD fun b o y => k6 _ _ (x4 _ _ (kp3 _ _ y)))
    refine ⟨_, rfl, _, rfl, 2, _, eqB_lstS (k6 _ _ hL4) (k6 _ _ hD4) s1 s2, hub2, _, rfl, ?_⟩
    refine iteF ?_
    refine ⟨_, rfl, _, _, _, _, rfl, .lst (k6 _ _ hL4), X.kl, _, rfl, ?_⟩
    refine iteF ?_
    exact q _ _ _ _ _ fun b o e => k6 _ _ (x4 _ _ (kp3 _ _ (kp02 _ _ e)))
end
end My
namespace My
open PySem L2
section
open Tx
variable {P : Program} {w : World} {K : PySem.W.Frag} {mg : Str → Option Value} {base : Heap} {C cP cN : Addr}
theorem ok_law {Pt : Addr} (F : FunAt K mg "law" sLaw) (Fc : FnP P w K mg base 1 "_law_cell_at" ["_law_script", "_law_k"] (spCell K)) (Frow : FnP P w K mg base 3 "_law_row" ["_law_cell", "_law_depth"] spRow) (Fal : FnP P w K mg base 6 "_law_alone" ["_law_row_here", "_law_due", "_law_depth"] spAlone)
    (Fr : FnR P w K mg base 5 "read_rows" ["text", "depth"] (spRdRs C)) (X : Ers9 K mg C cP cN) (ml : mg "len" = none) (mr : mg "range" = none) (mm : mg "min" = none) : FnP P w K mg base 100 "law" ["_law_script"] (spLaw K mg Pt) := by
  refine F.ok scL (fun _ _ _ _ _ _ us hl => match us, hl with | [_], _ => rfl) (fun vs H Q E h => ?_) (fun f0 cdv A outer s H vs Q E hr h => ?_)
  · obtain ⟨a, ns, rfl, _⟩ := h; rfl
  obtain ⟨a, ns, rfl, hq, h63, q⟩ := h
  have nd := scL.nd
  have hun := hr.un
  obtain ⟨tb, hb, rb⟩ := body_ok (H0 := H) (outer := outer) (E := E) hr Fr X ml mr
  refine' ⟨_, pss_cons (ps_set (i := 1) nd rfl (Or.inr rfl) (pe_op op_add pe_int (pe_op op_mod (pe_callN Fc (hr.mono (by omega)) rfl (pa_cons (pv 0) (pa_cons pe_int pa_nil))) pe_int))) <|
    pss_cons (ps_setComp (iz := 2) (ys := ["_law_script", "_law_depth"]) (js := [0, 1]) ?ok1 (pi_range1 rfl mr (pa_cons (pe_callB (call_min2 rfl) rfl mm PyProof.Rows.boot_min (pa_cons (pe_callB call_len_seq rfl ml PySem.boot_len (pa_cons (pv 0) pa_nil)) (pa_cons pe_int pa_nil))) pa_nil)) (fun _ _ _ => pts_nil) (fun _ _ _ => ?he1) nd rfl (Or.inl rfl) (Or.inl rfl) rfl) <|
    pss_cons (ps_for PassesOwn.never rfl (pi_list (pv 2)) (pg_name (i := 3) nd rfl (Or.inl rfl)) (pss_one (ps_if (pt_not (pt_val (pe_callN Fal (hr.mono (by omega)) rfl (pa_cons (pe_ix ix_tup (pv 3) pe_int (fun _ _ => rfl)) (pa_cons (pe_ix ix_tup (pv 3) pe_int (fun _ _ => rfl)) (pa_cons (pv 1) pa_nil)))))) (pss_one (ps_ret pe_bl)) pss_nil))) <|
    pss_cons (ps_for PassesOwn.never rfl (pi_tup (pe_tup (pa_cons (pv 2) (pa_cons (pe_comp (ys := []) (js := []) ?ok2 (pi_list (pv 2)) (fun _ _ _ => pts_one ?ht2) (fun _ _ _ => pv 0)) pa_nil)))) (pg_name (i := 4) nd rfl (Or.inr rfl)) hb) <|
    pss_one (ps_ret pe_bl), ?rd⟩
  case ok1 =>
    refine ⟨rfl, rfl, rfl, by decide +kernel, by decide +kernel, rfl, by decide +kernel, same_of (fun p hp => ?_), rfl, fun i y h => ?_, rfl⟩
    · simp only [List.mem_cons, List.not_mem_nil, or_false] at hp
      rcases hp with rfl | rfl <;> rfl
    · match i, h with
      | 0, h => simp at h; subst h; exact ⟨0, rfl, rfl, rfl, rfl⟩
      | 1, h => simp at h; subst h; exact ⟨1, rfl, rfl, rfl, rfl⟩
      | i + 2, h => simp at h
  case he1 => exact pe_callN Frow (hr.mono (by omega)) rfl (pa_cons (pe_op op_add (pe_ix (ix_listK K rfl) (pv 1) (pv 0) (fun _ _ => rfl)) (pe_op op_mul pe_int (pv 0))) (pa_cons (pv 2) pa_nil))
  case ok2 => exact ⟨rfl, rfl, rfl, by decide +kernel, by decide +kernel, rfl, by decide +kernel, fun _ _ h => (nomatch h), rfl, fun i y h => by simp at h, rfl⟩
  case ht2 => exact pt_cmpR (op_neBU (A.deeper (PyProof.Rows.envOfC "law" (defScope sLaw) s.heap.objs.size f0 cdv)).units rfl) (pe_ix (ix_tupK K rfl) (pv 0) pe_int (fun _ _ => rfl)) pe_str (nomark _)
  case rd =>
  refine ⟨_, rfl, a, ns, 0, rfl, hq.sq, by decide, fun v => ⟨_, _, rfl, rfl, by show (0 : Int) < 16; decide, _, _, rfl, rfl, ?_⟩⟩
  obtain ⟨D, eD, hD1, hD2⟩ : ∃ D : Nat, (1 : Int) + v % 16 = (D : Int) ∧ 1 ≤ D ∧ D ≤ 16 := by
    have h0 := Int.emod_nonneg v (by decide : (16 : Int) ≠ 0)
    have h1 := Int.emod_lt_of_pos v (by decide : (0 : Int) < 16)
    exact ⟨(1 + v % 16).toNat, by omega, by omega, by omega⟩
  dsimp only [gName]
  rw [eD]
  refine ⟨_, rfl, a, _, rfl, .inl hq.sq, _, _, rfl, ?_⟩
  obtain ⟨n, hn, n1, n2⟩ : ∃ n : Nat, (if (200 : Int) < (((ns.map V.int).length : Nat) : Int) then (200 : Int) else (((ns.map V.int).length : Nat) : Int)) = (n : Int) ∧ n ≤ ns.length ∧ n ≤ 63 := by
    rw [List.length_map, if_neg (by omega)]
    exact ⟨ns.length, rfl, by omega, by omega⟩
  rw [hn]
  refine ⟨_, rfl, by omega, by omega, ?_⟩
  rw [show ((n : Nat) : Int).toNat = n from rfl]
  -- the rows made
  refine comp_range (fun D' i ys H' => Kp H H' ∧ H' D' = some (.lst ys) ∧ ∃ zs, Rows H' D zs ys ∧ zs.length = i) (fun D' hD => ⟨Kp.new (fun _ _ e => e) hD, upd_same, [], .nil, rfl⟩) ?_ ?_
  · rintro D' i ys H' Qb hD hi ⟨kp, hD', zs, rows, hl⟩ hq2
    have wl := rows_len rows
    have ei : (ns.map V.int)[i]? = some (.int (ns[i]'(by omega))) := by rw [List.getElem?_map, List.getElem?_eq_getElem (by omega)]; rfl
    rw [show (0 : Int) + (i : Nat) = ((i : Nat) : Int) by omega]
    refine ⟨_, rfl, _, rfl, a, _, _, _, rfl, rfl, (hq.ext kp).sq, atI_nat ei, _, rfl, _, _, rfl, rfl, .inl ⟨by decide, by decide⟩, _, _, rfl, rfl, _, rfl, _, D, rfl, hD1, hD2, fun z x p H2 lz vz due hp np x2 => ?_⟩
    have x2 : Kp H' H2 := x2
    refine hq2 _ _ (x2 _ _ hD') (by rw [sizeLine_eq]; omega) ⟨Kp.at' (fun b o e => x2 _ _ (kp _ _ e)) hD, upd_same, zs ++ [z], rows_lst (pr_app (rows_kp rows x2) (.cons ⟨p, x, rfl, hp, due, lz, vz⟩ .nil)) (x2 _ _ hD'), by simp; omega⟩
  rintro aM ws H1 nM ⟨kp1, hM1, zs, rows1, hl⟩
  have wl := rows_len rows1
  dsimp only [gName]
  -- each row alone
  refine ⟨_, rfl, aM, rfl, ⟨ws, SqL.of hM1⟩, ?_⟩
  refine for_list (xs := ws) (fun i σ H' => Kp H1 H' ∧ ∃ o3, σ = lσ a D (some (.ref aM)) o3 none none none none none) ⟨fun _ _ e => e, none, rfl⟩ (fun i σ H' _ h => SqL.of (h.1 _ _ hM1)) ?_ ?_
  · rintro i v σ H2 ev ⟨kp2, o3, rfl⟩
    obtain ⟨z, ez, p, x, rfl, hp, due, lz, vz⟩ := rows_at (rows_kp rows1 kp2) ev
    dsimp only [gName]
    refine ⟨_, rfl, p, _, 0, _, rfl, rfl, .inl (.inl hp), atI_nat (j := 0) rfl, _, rfl, p, _, 1, _, rfl, rfl, .inl (.inl hp), atI_nat (j := 1) rfl, _, rfl, z, x, D, rfl, by omega, vis_asc vz, due, fun H3 x3 => ⟨_, rfl, iteF ⟨fun b o e => x3 _ _ (kp2 _ _ e), _, rfl⟩⟩⟩
  rintro σ H2 ⟨kp2, o3, rfl⟩
  have hM2 := kp2 _ _ hM1
  have rows2 := rows_kp rows1 kp2
  -- all rows, and those that can be read
  refine ⟨_, rfl, _, rfl, aM, rfl, ⟨ws, SqL.of hM2⟩, ?_⟩
  refine comp_listT (fun D' i ys H' => Kp H2 H' ∧ H' D' = some (.lst ys) ∧ ∃ zs, Rows H' D zs ys ∧ zs.length ≤ i) (fun D' hD => ⟨Kp.new (fun _ _ e => e) hD, upd_same, [], .nil, by simp⟩) (fun D' i ys H' hD h => SqL.of (h.1 _ _ hM2)) ?_ ?_
  · rintro D' i x ys H' Qe Qn hD ev ⟨kp, hD', zs', rows', hl'⟩ hqe hqn
    have hi := (List.getElem?_eq_some_iff.mp ev).1
    obtain ⟨z, ez, p, x, rfl, hp, due, lz, vz⟩ := rows_at (rows_kp rows2 kp) ev
    have wl' := rows_len rows'
    refine ⟨_, rfl, p, _, 1, _, rfl, rfl, .inl (.inl hp), atI_nat (j := 1) rfl, 0, _, due_bad due, by omega, _, rfl, ?_⟩
    refine ite2 (fun _ => ?_) (fun _ => ?_)
    · exact ⟨_, rfl, hqe _ _ hD' (by rw [sizeLine_eq]; omega) ⟨Kp.at' kp hD, upd_same, zs' ++ [z], rows_lst (pr_app rows' (.cons ⟨p, x, rfl, hp, due, lz, vz⟩ .nil)) hD', by simp; omega⟩⟩
    · exact hqn _ ⟨kp, hD', zs', rows', by omega⟩
  rintro aF wsF H3 nF ⟨kp3, hF3, zsF, rowsF, hlF⟩
  refine ⟨by show 2 ≤ sizeLine; decide, fun pT nT => ?_⟩
  have k4 : Kp H3 (upd H3 pT (.tup [.ref aM, .ref aF])) := Kp.new (fun _ _ e => e) nT
  refine ⟨pT, rfl, ⟨_, SqT.of upd_same⟩, ?_⟩
  refine for_tup (xs := [.ref aM, .ref aF]) (fun i σ H' => Kp (upd H3 pT (.tup [.ref aM, .ref aF])) H' ∧ ∃ o4 o5 o6 o7 o8, σ = lσ a D (some (.ref aM)) o3 o4 o5 o6 o7 o8) ⟨fun _ _ e => e, none, none, none, none, none, rfl⟩ (fun i σ H' _ h => SqT.of (h.1 _ _ upd_same)) ?_ ?_
  · rintro i v σ H4 ev ⟨kp4, o4, o5, o6, o7, o8, rfl⟩
    have kM : Kp H2 H4 := fun b o e => kp4 _ _ (k4 _ _ (kp3 _ _ e))
    have kF : Kp H3 H4 := fun b o e => kp4 _ _ (k4 _ _ e)
    dsimp only [gName]
    match i, ev with
    | 0, ev =>
      obtain rfl : V.ref aM = v := by simpa using ev
      exact rb _ a aM D zs ws _ _ _ _ _ _ H4 (kM _ _ hM2) (rows_kp rows2 kM) (by omega) fun H' b' d' t2 e' kp => ⟨fun b o e => kp _ _ (kp4 _ _ e), _, _, _, _, _, rfl⟩
    | 1, ev =>
      obtain rfl : V.ref aF = v := by simpa using ev
      exact rb _ a aF D zsF wsF _ _ _ _ _ _ H4 (kF _ _ hF3) (rows_kp rowsF kF) (by omega) fun H' b' d' t2 e' kp => ⟨fun b o e => kp _ _ (kp4 _ _ e), _, _, _, _, _, rfl⟩
    | i + 2, ev => simp at ev
  · rintro σ H4 _
    exact q H4
end
end My
namespace My
open PySem L2
section
variable {P : Program} {w : World} {K : PySem.W.Frag} {mg : Str → Option Value} {base : Heap} {C cP cN cB : Addr}
structure Br9 (K : PySem.W.Frag) (mg : Str → Option Value) (C cB cP cN : Addr) : Prop where
  e : Ers9 K mg C cP cN
  st : XSet K C "row"
  rd : ClsRd K cB
  hB : mg "BookError" = some (.ref cB)
  xi : ∃ fi, XInit K C fi ∧ PySem.W.findIn K (.ref C) "__init__" = some (some (.ref fi))
  fg : ∃ t, mg "FIGURES" = some (.str "0123456789" t)
  mf : ∃ t, mg "MOST_FIGURES" = some (.int 9 t)
theorem br_ok (X : Br9 K mg C cB cP cN) (M : MethAt K C "__init__" "BadRow.__init__" mBRInit) : BrOk P w K mg base C := by
  obtain ⟨f, fd, h1, h2, h3⟩ := ok_brinit (P := P) (w := w) (mg := mg) (base := base) M X.e.xg.own X.st X.rd X.hB
  obtain ⟨fi, xi, e⟩ := X.xi
  have ef := h1.at_.symm.trans e
  injection ef with ef
  injection ef with ef
  injection ef with ef
  subst ef
  exact ⟨X.e.hR, f, fd, xi, h2, h3⟩
theorem all_ok {Pt : Addr} (F_ind : FunAt K mg "in_depth" sInD) (F_isk : FunAt K mg "is_key" sIsKey) (F_rdk : FunAt K mg "read_key" sReadKey) (F_rda : FunAt K mg "read_at" sReadAt) (F_rdr : FunAt K mg "read_row" sReadRow) (F_rrs : FunAt K mg "read_rows" sReadRows)
    (F_cell : FunAt K mg "_law_cell_at" sCell) (F_draw : FunAt K mg "_law_draw" sDraw) (F_text : FunAt K mg "_law_text" sLtext) (F_bad : FunAt K mg "_law_bad" sLbad) (F_row : FunAt K mg "_law_row" sLrow) (F_alone : FunAt K mg "_law_alone" sLalone) (F_law : FunAt K mg "law" sLaw)
    (ml : mg "len" = none) (mr : mg "range" = none) (mm : mg "min" = none) (mn : mg "int" = none) (ms : mg "str" = none) (ma : mg "all" = none) (me : mg "enumerate" = none)
    (X : Br9 K mg C cB cP cN) (M : MethAt K C "__init__" "BadRow.__init__" mBRInit) : FnP P w K mg base 100 "law" ["_law_script"] (spLaw K mg Pt) := by
  obtain ⟨tf, fg⟩ := X.fg
  obtain ⟨tm, mf⟩ := X.mf
  have B := br_ok (P := P) (w := w) (base := base) X M
  have Dr := ok_draw (P := P) (w := w) (base := base) F_draw
  have Tx' := ok_text F_text Dr ml mr
  have Bd := ok_bad F_bad Dr ml
  have Rw := ok_row F_row Dr Tx' Bd ms
  have Ik := ok_iskey (P := P) (w := w) (base := base) F_isk fg mf ml ma
  have Id := ok_ind (P := P) (w := w) (base := base) F_ind
  have Rk := ok_readkey F_rdk Ik Id B mn
  have Ra := ok_readat F_rda Rk B ml
  have Rr := ok_readrow F_rdr Ra
  have Rs := ok_readrows F_rrs Ra me
  have Al := ok_alone F_alone Rr X.e
  exact ok_law F_law (ok_cell F_cell ml) Rw Al Rs X.e ml mr mm
end
theorem reads_mk {K : PySem.W.Frag} {B : Addr} {d : Option Addr} {cd : ClassData} {sl : Array (Option Value)} (l : K.lookup B = some ⟨.type "type", d, .cls cd, sl⟩) (t1 : PySem.W.nsIn K cStatics "thirdparty.any" = some none)
    (t3 : PySem.W.findIn K (.type "type") "__getattribute__" = some (some (.builtin "type.__getattribute__"))) : PySem.W.readsIn K B (.type "type") = true := by
  unfold PySem.W.readsIn
  have e2 : PySem.W.typeIn K (.ref B) = some (.type "type") := by show Option.map (fun x => x.cls) (List.lookup B K) = _; rw [show List.lookup B K = _ from l]; rfl
  have e5 : PySem.W.subIn K (.type "type") (.type "type") = some true := by unfold PySem.W.subIn; kernel_rfl
  rw [t1, e2, t3, e5, if_neg (by decide)]
  simp
theorem find_mk {K : PySem.W.Frag} {B : Addr} {a1 g1 ta : Value} (f1 : PySem.W.findIn K (.type "type") "__init__" = some (some a1)) (s1 : PySem.W.specialIn K a1 "__get__" = some (some g1)) (tk1 : PySem.W.takesIn K a1 = some false)
    (f2 : PySem.W.findIn K (.ref B) "__init__" = some (some (.builtin "ValueError.__init__"))) (t : PySem.W.typeIn K (.builtin "ValueError.__init__") = some ta) (b : PySem.W.bareKinds.contains ta = true) :
    PySem.W.findCls K (.ref B) (.type "type") "__init__" = some (.val (.builtin "ValueError.__init__")) := by
  have hh : PySem.Builtin.heldUnderItsOwnName "__init__" (.builtin "ValueError.__init__") = false := by kernel_rfl
  unfold PySem.W.findCls
  rw [f1]
  show (PySem.W.specialIn K a1 "__get__").bind _ = _
  rw [s1]
  show (PySem.W.takesIn K a1).bind _ = _
  rw [tk1]
  show (PySem.W.findIn K (.ref B) "__init__").bind _ = _
  rw [f2]
  show (if PySem.Builtin.heldUnderItsOwnName "__init__" (.builtin "ValueError.__init__") = true then none else _) = _
  rw [hh, if_neg (by simp)]
  rw [t]
  show (if PySem.W.bareKinds.contains ta = true then _ else _) = _
  rw [if_pos b]
theorem br_mk {K : PySem.W.Frag} {mg : Str → Option Value} {h : Heap} (X : K.In h) (G : h.Ns mainGlobals mg) {C cB cP cN N fi : Addr} {nm q : Str} {bs : List Value} {sn : List Str} {sub : List Value} {ab : Bool} {col : Option Bool} {dd dB dP dN dn1 dn2 : Option Addr} {k0 k1 k2 k3 k5 : Option Value} {cdB cdP cdN : ClassData} {slB slP slN sn1 sn2 : Array (Option Value)} {cn1 cn2 : Value} {es1 es2 : Array DictEntry} {ep1 ep2 : Nat}
    {fo' : Obj} {tf tm : Tok} {a1' g1 : Value}
    (a1 : PySem.W.nsIn K mainGlobals "BadRow" = some (some (.ref C))) (a2 : PySem.W.nsIn K mainGlobals "BookError" = some (some (.ref cB))) (a3 : PySem.W.nsIn K mainGlobals "BadPaper" = some (some (.ref cP))) (a4 : PySem.W.nsIn K mainGlobals "NoPlace" = some (some (.ref cN)))
    (lB : K.lookup cB = some ⟨.type "type", dB, .cls cdB, slB⟩) (lP : K.lookup cP = some ⟨.type "type", dP, .cls cdP, slP⟩) (lN : K.lookup cN = some ⟨.type "type", dN, .cls cdN, slN⟩)
    (lk : K.lookup C = some (excClassObj nm q C N bs (.ref cB :: bmVE) true sn sub ab col dd k0 k1 k2 k3 k5 "ValueError.__new__"))
    (l1 : K.lookup N = some ⟨cn1, dn1, .dict es1 ep1, sn1⟩) (l2 : K.lookup cdB.ns = some ⟨cn2, dn2, .dict es2 ep2, sn2⟩) (e1 : (es1.toList.all fun e => match e.key with | .str _ _ => true | _ => false) = true) (e2 : (es2.toList.all fun e => match e.key with | .str _ _ => true | _ => false) = true)
    (b1 : PySem.W.nsIn K N "__init__" = some (some (.ref fi))) (f1 : PySem.W.findIn K (.ref C) "__init__" = some (some (.ref fi))) (lf : K.lookup fi = some fo') (cf : fo'.cls = .type "function") (kc : PySem.W.keepIn K (.ref C) = true)
    (c1 : PySem.W.nsIn K cdB.ns "__init__" = some none) (c2 : PySem.W.nsIn K cdB.ns "__getattribute__" = some none) (c3 : PySem.W.nsIn K cdB.ns "__getattr__" = some none) (c4 : PySem.W.nsIn K cdB.ns "args" = some none)
    (ga : PySem.W.findIn K (.ref C) "__getattribute__" = some (some (.builtin "BaseException.__getattribute__"))) (gn : PySem.W.findIn K (.ref C) "__getattr__" = some none)
    (fo : PySem.W.findIn K (.ref C) "__class__" = some (some (.builtin "object.__class__"))) (sp : PySem.W.specialIn K (.builtin "object.__class__") "__get__" = some (some (.builtin "getset_descriptor.__get__")))
    (tk : PySem.W.takesIn K (.builtin "object.__class__") = some true) (mo : PySem.W.mroIn K C (.type "object") = some true) (sa : PySem.W.findIn K (.ref C) "__setattr__" = some (some (.builtin "object.__setattr__"))) (no : PySem.W.findIn K (.ref C) "row" = some none)
    (kV : PySem.W.mroIn K C (.type "ValueError") = some true) (kP : PySem.W.mroIn K C (.ref cP) = some false) (kN : PySem.W.mroIn K C (.ref cN) = some false) (n2 : C ≠ cP) (n3 : C ≠ cN)
    (mV : PySem.W.nsIn K mainGlobals "ValueError" = some none) (mi : PySem.W.nsIn K mainGlobals "isinstance" = some none) (mt : PySem.W.nsIn K mainGlobals "tuple" = some none) (mli : PySem.W.nsIn K mainGlobals "list" = some none)
    (mf : PySem.W.nsIn K mainGlobals "FIGURES" = some (some (.str "0123456789" tf))) (mm : PySem.W.nsIn K mainGlobals "MOST_FIGURES" = some (some (.int 9 tm)))
    (sg : PySem.W.specialIn K (.ref cB) "__getattribute__" = some (some (.builtin "type.__getattribute__"))) (t1 : PySem.W.nsIn K cStatics "thirdparty.any" = some none) (t3 : PySem.W.findIn K (.type "type") "__getattribute__" = some (some (.builtin "type.__getattribute__")))
    (g2 : PySem.W.findIn K (.type "type") "__init__" = some (some a1')) (g3 : PySem.W.specialIn K a1' "__get__" = some (some g1)) (g4 : PySem.W.takesIn K a1' = some false) (g5 : PySem.W.findIn K (.ref cB) "__init__" = some (some (.builtin "ValueError.__init__"))) (g6 : PySem.W.typeIn K (.builtin "ValueError.__init__") = some (.type "wrapper_descriptor"))
    (M : MethAt K C "__init__" "BadRow.__init__" mBRInit) : ∃ C cB cP cN, Br9 K mg C cB cP cN ∧ MethAt K C "__init__" "BadRow.__init__" mBRInit := by
  obtain ⟨cd, cl, ch, cm⟩ : ∃ cd, PySem.W.clsIn K C = some cd ∧ cd.hasDict = true ∧ cd.mro = .ref C :: .ref cB :: bmVE := by
    unfold PySem.W.clsIn
    rw [show List.lookup C K = _ from lk]
    exact ⟨_, rfl, rfl, rfl⟩
  have tq : tailQ K bmVal (.ref cB :: bmVE) = true := tailQ_one lB ⟨nsOk_of l2 e2, c1, c2, c3, c4⟩
  have ow : XOwn K C := ⟨_, _, _, _, _, _, _, _, _, _, _, _, _, _, _, _, lk, tq, by simp⟩
  have kt : PySem.W.kitOne K (.type "tuple") (.type "tuple") = some true := by unfold PySem.W.kitOne; rw [if_pos (by simp)]
  refine ⟨C, cB, cP, cN, ⟨⟨⟨ow, ⟨cd, cl, ch⟩, ga, gn, fo, sp, tk, mo⟩, no, PySem.W.mg_of X G a1, PySem.W.mg_of X G a3, PySem.W.mg_of X G a4, kit_ref n2 lP kP, kit_ref n3 lN kN, kit_ty kitMeta_VE kV, PySem.W.mg_none_of X G mV, kt, kit_ll, PySem.W.mg_none_of X G mi, PySem.W.mg_none_of X G mt, PySem.W.mg_none_of X G mli⟩,
    ⟨⟨cd, cl, ch, fun x => ?_⟩, mo, sa, no⟩, ⟨sg, reads_mk lB t1 t3, find_mk g2 g3 g4 g5 g6 (by decide)⟩, PySem.W.mg_of X G a2, ⟨fi, ⟨⟨_, _, _, _, _, _, _, _, _, _, _, _, _, _, _, _, lk, tq, by simp, nsOk_of l1 e1, b1⟩, ⟨_, lf, cf⟩, kc⟩, f1⟩, ⟨tf, PySem.W.mg_of X G mf⟩, ⟨tm, PySem.W.mg_of X G mm⟩⟩, M⟩
  rw [cm, refuseLoop_ref, refuseLoop_ref]
  exact PySem.F.store_ValueError.passes _
end My
open PySem PySem.W PyProof.Rows
set_option maxRecDepth 100000 in
set_option maxHeartbeats 0 in
theorem PySem.Challenge.cw_growbook_k09_rows_read_holds : PySem.Challenge.rw_growbook_k09_rows_read.Holds := by
  w_on; o_law; k_head; (case hw => w_witness2)
  k_fill
  refine' L2.walk_ofT (l := PySem.Challenge.rw_growbook_k09_rows_read) (n := 63) (k := 100) (x := "_law_script") (xn := "law") (sp := My.spLaw) rfl (by decide) rfl ⟨rfl, by decide, by decide⟩ (fun w h Y => PySem.W.kIn_of Y) rfl ?ht ?hnt ?F ?S
  case ht =>
    intro w
    refine' L2.tabIn_mk ?a ?l ?c ?lc ?v
    (case a => k_is); (case l => k_is); (case c => exact rfl); (case lc => k_is); (case v => exact rfl)
  case hnt => intro w; kernel_rfl
  case F =>
    intro w mg fa h KX G hmg TB
    have F_ind : L2.FunAt (L2.KOf KX) mg "in_depth" My.sInD := by
      dsimp only [L2.KOf]
      refine' L2.funAt_mk KX G ?a ?l ?c ?k
      case a | l | c | k => k_is
    have F_isk : L2.FunAt (L2.KOf KX) mg "is_key" My.sIsKey := by
      dsimp only [L2.KOf]
      refine' L2.funAt_mk KX G ?a ?l ?c ?k
      case a | l | c | k => k_is
    have F_rdk : L2.FunAt (L2.KOf KX) mg "read_key" My.sReadKey := by
      dsimp only [L2.KOf]
      refine' L2.funAt_mk KX G ?a ?l ?c ?k
      case a | l | c | k => k_is
    have F_rda : L2.FunAt (L2.KOf KX) mg "read_at" My.sReadAt := by
      dsimp only [L2.KOf]
      refine' L2.funAt_mk KX G ?a ?l ?c ?k
      case a | l | c | k => k_is
    have F_rdr : L2.FunAt (L2.KOf KX) mg "read_row" My.sReadRow := by
      dsimp only [L2.KOf]
      refine' L2.funAt_mk KX G ?a ?l ?c ?k
      case a | l | c | k => k_is
    have F_rrs : L2.FunAt (L2.KOf KX) mg "read_rows" My.sReadRows := by
      dsimp only [L2.KOf]
      refine' L2.funAt_mk KX G ?a ?l ?c ?k
      case a | l | c | k => k_is
    have F_cell : L2.FunAt (L2.KOf KX) mg "_law_cell_at" My.sCell := by
      dsimp only [L2.KOf]
      refine' L2.funAt_mk KX G ?a ?l ?c ?k
      case a | l | c | k => k_is
    have F_draw : L2.FunAt (L2.KOf KX) mg "_law_draw" My.sDraw := by
      dsimp only [L2.KOf]
      refine' L2.funAt_mk KX G ?a ?l ?c ?k
      case a | l | c | k => k_is
    have F_text : L2.FunAt (L2.KOf KX) mg "_law_text" My.sLtext := by
      dsimp only [L2.KOf]
      refine' L2.funAt_mk KX G ?a ?l ?c ?k
      case a | l | c | k => k_is
    have F_bad : L2.FunAt (L2.KOf KX) mg "_law_bad" My.sLbad := by
      dsimp only [L2.KOf]
      refine' L2.funAt_mk KX G ?a ?l ?c ?k
      case a | l | c | k => k_is
    have F_row : L2.FunAt (L2.KOf KX) mg "_law_row" My.sLrow := by
      dsimp only [L2.KOf]
      refine' L2.funAt_mk KX G ?a ?l ?c ?k
      case a | l | c | k => k_is
    have F_alone : L2.FunAt (L2.KOf KX) mg "_law_alone" My.sLalone := by
      dsimp only [L2.KOf]
      refine' L2.funAt_mk KX G ?a ?l ?c ?k
      case a | l | c | k => k_is
    have F_law : L2.FunAt (L2.KOf KX) mg "law" My.sLaw := by
      dsimp only [L2.KOf]
      refine' L2.funAt_mk KX G ?a ?l ?c ?k
      case a | l | c | k => k_is
    have z0 : mg "len" = none := by
      refine' PySem.W.mg_none_of KX G ?z; (case z => k_is)
    have z1 : mg "range" = none := by
      refine' PySem.W.mg_none_of KX G ?z; (case z => k_is)
    have z2 : mg "min" = none := by
      refine' PySem.W.mg_none_of KX G ?z; (case z => k_is)
    have z3 : mg "int" = none := by
      refine' PySem.W.mg_none_of KX G ?z; (case z => k_is)
    have z4 : mg "str" = none := by
      refine' PySem.W.mg_none_of KX G ?z; (case z => k_is)
    have z5 : mg "all" = none := by
      refine' PySem.W.mg_none_of KX G ?z; (case z => k_is)
    have z6 : mg "enumerate" = none := by
      refine' PySem.W.mg_none_of KX G ?z; (case z => k_is)
    obtain ⟨C, cB, cP, cN, BR, M_init⟩ : ∃ C cB cP cN, My.Br9 (L2.KOf KX) mg C cB cP cN ∧ L2.MethAt (L2.KOf KX) C "__init__" "BadRow.__init__" My.mBRInit := by
      dsimp only [L2.KOf]
      refine' My.br_mk KX G ?a1 ?a2 ?a3 ?a4 ?lB ?lP ?lN ?lk ?l1 ?l2 ?e1 ?e2 ?b1 ?f1 ?lf ?cf ?kc ?c1 ?c2 ?c3 ?c4 ?ga ?gn ?fo ?sp ?tk ?mo ?sa ?no ?kV ?kP ?kN ?n2 ?n3 ?mV ?mi ?mt ?mli ?mf ?mm ?sg ?t1 ?t3 ?g2 ?g3 ?g4 ?g5 ?g6 ?m0
      (case a1 | a2 | a3 | a4 | lB | lP | lN | lk | l1 | l2 => k_is); (case e1 => rfl); (case e2 => rfl); (case b1 | f1 | lf => k_is); (case cf => rfl); (case kc | c1 | c2 | c3 | c4 | ga | gn | fo | sp | tk | mo | sa | no | kV | kP | kN => k_is); (case n2 => decide); (case n3 => decide); (case mV | mi | mt | mli | mf | mm | sg | t1 | t3 | g2 | g3 | g4 | g5 => k_is); (case g6 => kernel_rfl)
      case m0 =>
        refine' L2.methAt_mk ?a ?i ?l ?c ?k
        case a | i | l | c | k => k_is
    obtain ⟨fd, hb, hF⟩ := L2.law_fn (x := "_law_script") (ps := ["_law_script"]) hmg F_law (fun base kb nb hC hB => My.all_ok (P := PySem.Challenge.rw_growbook_k09_rows_read.prog) (w := w) (base := base) F_ind F_isk F_rdk F_rda F_rdr F_rrs F_cell F_draw F_text F_bad F_row F_alone F_law z0 z1 z2 z3 z4 z5 z6 BR M_init)
    exact ⟨fd, hb, hF⟩
  case S =>
    intro K mg Pt H a ns hl hS hScr hP
    exact ⟨a, ns, rfl, My.sqF_of hS hScr, hl, fun _ => rfl⟩
#print axioms PySem.Challenge.cw_growbook_k09_rows_read_holds
