import PyProof.Rows.All
import Wide.All
import OpenK.AllK
import Wide.FinOn
import PyProof.EqAt
import PyProof.EqKinds
import PyProof.TupleCall
import Lean
import PySem.Challenge.RW_figurewheel_k02_columns_of_places
set_option Elab.async false
set_option linter.all false
set_option maxRecDepth 100000
/-! THE HAND LAYER, for ints, bools, texts, own classes, LISTS and tuples (index, slices, in, append, pop ..), calls, loops. Paste it whole ahead of your own text; what your proof does not reach may be deleted. -/
namespace L2
open PySem PySem.Spec PyProof.Rows

/-- a key: an int or a str -/
abbrev Key := Sum Int Str
def keyIs : Key → Value → Bool
  | .inl k, v => Value.isInt k v
  | .inr x, v => Value.isStrOf x v
def keyH (w : World) : Key → Int
  | .inl k => hashInt k
  | .inr x => hashStr w x
theorem keyIs_shape : ∀ {k : Key} {v : Value}, keyIs k v = true → (∃ i t, k = Sum.inl i ∧ v = Value.int i t) ∨ (∃ x t, k = Sum.inr x ∧ v = Value.str x t)
  | .inl i, v, h => by
    obtain ⟨t, e⟩ := Value.isInt_shape (k := i) (v := v) h
    exact .inl ⟨i, t, rfl, e⟩
  | .inr x, v, h => by
    obtain ⟨t, e⟩ := Value.isStrOf_shape (x := x) (v := v) h
    exact .inr ⟨x, t, rfl, e⟩
theorem keyIs_int (i : Int) (t : Tok) : keyIs (.inl i) (.int i t) = true := by simp [keyIs, Value.isInt]
theorem keyIs_str (x : Str) (t : Tok) : keyIs (.inr x) (.str x t) = true := by simp [keyIs, Value.isStrOf]
theorem key_ll (a b : Int) : decide ((Sum.inl a : Key) = Sum.inl b) = (a == b) := by
  by_cases e : a = b
  · subst e; simp
  · have h : ¬ (Sum.inl a : Key) = Sum.inl b := fun q => e (Sum.inl.inj q)
    rw [decide_eq_false h]
    exact (beq_eq_false_iff_ne.mpr e).symm
theorem key_rr (a b : Str) : decide ((Sum.inr a : Key) = Sum.inr b) = decide (a = b) := by
  by_cases e : a = b
  · subst e; simp
  · have h : ¬ (Sum.inr a : Key) = Sum.inr b := fun q => e (Sum.inr.inj q)
    rw [decide_eq_false h, decide_eq_false e]
theorem key_lr (a : Int) (b : Str) : decide ((Sum.inl a : Key) = Sum.inr b) = false := decide_eq_false (fun q => nomatch q)
theorem key_rl (a : Str) (b : Int) : decide ((Sum.inr a : Key) = Sum.inl b) = false := decide_eq_false (fun q => nomatch q)

def mixKind (prog : Program) (w : World) : PySem.KeyKind prog w Key where
  is := keyIs
  hash := keyH w
  inj := fun v a b ha hb => by
    rcases keyIs_shape ha with ⟨i, t, rfl, rfl⟩ | ⟨x, t, rfl, rfl⟩
    · rcases keyIs_shape hb with ⟨j, u, rfl, e⟩ | ⟨y, u, rfl, e⟩
      · injection e with e1 _; rw [e1]
      · exact nomatch e
    · rcases keyIs_shape hb with ⟨j, u, rfl, e⟩ | ⟨y, u, rfl, e⟩
      · exact nomatch e
      · injection e with e1 _; rw [e1]
  byValue := fun k v h => by
    rcases keyIs_shape h with ⟨i, t, rfl, rfl⟩ | ⟨x, t, rfl, rfl⟩ <;> rfl
  pyHash := fun hv h => by
    rcases keyIs_shape hv with ⟨i, t, rfl, rfl⟩ | ⟨x, t, rfl, rfl⟩
    · exact wpAny_pyHash_int h
    · exact wpAny_pyHash_str h
  eqBool := fun hu hv h => by
    rcases keyIs_shape hu with ⟨i, t, rfl, rfl⟩ | ⟨x, t, rfl, rfl⟩
    · rcases keyIs_shape hv with ⟨j, u, rfl, rfl⟩ | ⟨y, u, rfl, rfl⟩
      · rw [key_ll] at h; exact wpAny_eqBool_int h
      · rw [key_lr] at h; exact SeqAt.EqAt.int_str i t y u _ _ _ _ h
    · rcases keyIs_shape hv with ⟨j, u, rfl, rfl⟩ | ⟨y, u, rfl, rfl⟩
      · rw [key_rl] at h; exact SeqAt.EqAt.str_int x t j u _ _ _ _ h
      · rw [key_rr] at h; exact wpAny_eqBool_str h
  «strs» := fun k x t v h => by
    rcases keyIs_shape h with ⟨i, u, rfl, e⟩ | ⟨y, u, rfl, e⟩
    · exact nomatch e
    · injection e with e1 _
      subst e1
      cases v <;> rfl

theorem mixKind_is (prog : Program) (w : World) (k : Key) (v : Value) : (mixKind prog w).is k v = keyIs k v := rfl
theorem mixKind_int (prog : Program) (w : World) (i : Int) (t : Tok) : (mixKind prog w).is (.inl i) (.int i t) = true := keyIs_int i t
theorem mixKind_str (prog : Program) (w : World) (x : Str) (t : Tok) : (mixKind prog w).is (.inr x) (.str x t) = true := keyIs_str x t
end L2

namespace L2
open PySem PySem.Spec PyProof.Rows

/-- a value, without the heap -/
inductive V where
  | non | bl (b : Bool) | int (i : Int) | str (x : Str) | byt (b : Array UInt8) | flt (b : UInt64) | ref (a : Addr) | ty (n : String)
  deriving DecidableEq

def RelV : V → Value → Prop
  | .non, u => u = Value.none
  | .bl b, u => u = Value.bool b
  | .int i, u => ∃ t, u = Value.int i t
  | .str x, u => ∃ t, u = Value.str x t
  | .byt b, u => ∃ t, u = Value.bytes b t
  | .flt b, u => ∃ t, u = Value.float b t
  | .ref a, u => u = Value.ref a
  | .ty n, u => u = Value.type n

abbrev Vals : List V → List Value → Prop := Paired RelV
theorem Vals.length {xs : List V} {us : List Value} (r : Vals xs us) : xs.length = us.length := Paired.length r
theorem Vals.get : ∀ {xs : List V} {us : List Value} {i : Nat} {x : V}, Vals xs us → xs[i]? = some x → ∃ u, us[i]? = some u ∧ RelV x u
  | _, _, _, _, .nil, e => by simp at e
  | _, _, 0, _, .cons r _, e => by simp at e; subst e; exact ⟨_, rfl, r⟩
  | _, _, i + 1, x, .cons _ t, e => by
    obtain ⟨u, h1, h2⟩ := Vals.get (i := i) (x := x) t (by simpa using e)
    exact ⟨u, by simpa using h1, h2⟩
theorem Vals.set {x : V} {u : Value} (r : RelV x u) : ∀ {xs : List V} {us : List Value} (i : Nat), Vals xs us → Vals (xs.set i x) (us.set i u)
  | _, _, _, .nil => .nil
  | _, _, 0, .cons _ t => .cons r t
  | _, _, i + 1, .cons q t => .cons q (Vals.set r i t)
theorem Vals.append : ∀ {xs ys : List V} {us ws : List Value}, Vals xs us → Vals ys ws → Vals (xs ++ ys) (us ++ ws)
  | _, _, _, _, .nil, s => s
  | _, _, _, _, .cons r t, s => .cons r (Vals.append t s)
theorem Vals.take : ∀ {xs : List V} {us : List Value} (n : Nat), Vals xs us → Vals (xs.take n) (us.take n)
  | _, _, 0, _ => .nil
  | _, _, _ + 1, .nil => .nil
  | _, _, n + 1, .cons r t => .cons r (Vals.take n t)
theorem Vals.drop : ∀ {xs : List V} {us : List Value} (n : Nat), Vals xs us → Vals (xs.drop n) (us.drop n)
  | _, _, 0, r => r
  | _, _, _ + 1, .nil => .nil
  | _, _, n + 1, .cons _ t => Vals.drop n t
theorem Vals.none_of : ∀ {xs : List V} {us : List Value} {i : Nat}, Vals xs us → xs[i]? = none → us[i]? = none := fun {xs us i} r e => by
  have h1 := r.length
  have h2 : xs.length ≤ i := List.getElem?_eq_none_iff.mp e
  exact List.getElem?_eq_none_iff.mpr (by omega)

def RelO : Option V → Option Value → Prop
  | some v, some u => RelV v u
  | none, none => True
  | _, _ => False
def KV {κ : Type} : List (κ × V) → List (κ × Value) → Prop := Paired fun (p : κ × V) (q : κ × Value) => p.1 = q.1 ∧ RelV p.2 q.2

/-- a key of a dict (00_mix): an int or a text -/
def kV : Key → V
  | .inl i => .int i
  | .inr x => .str x

/-- what stands at a tracked address -/
inductive HO where
  /-- a list -/
  | lst (xs : List V)
  /-- a tuple (never changes) -/
  | tup (xs : List V)
  /-- a dict whose keys are ints and texts; one whose keys are tuples of ints and texts (the empty one is both) -/
  | dK (kvs : List (Key × V)) | dT (kvs : List (List Key × V))
  /-- a set of ints: its members, its size -/
  | set (S : Int → Bool) (n : Nat)
  /-- an instance of the class at C, its dict at dx, its attributes -/
  | ins (C dx : Addr) (fs : List (Str × V))
  /-- the dict of the instance at x -/
  | own (x : Addr)
  /-- the dict of an exception -/
  | xd (fs : List (Str × V))
  /-- a bound method, f of x -/
  | met (f x : Addr)
  /-- a range object lo, lo + 1, .. below hi -/
  | rng (lo hi : Int)
  /-- a thing that is known to the object (the script; a dict while a loop walks it): read, never written while it is so -/
  | frz (o : Obj) (u : HO)
  /-- a code object's table -/
  | tbl (ps : Array Value)
  /-- any other thing, by what is true of its one object (a def of one's own: SetO a S n := HO.ext fun h => ..) -/
  | ext (φ : Heap → Prop)

abbrev Hp := Addr → Option HO
def upd (H : Hp) (a : Addr) (o : HO) : Hp := fun b => if b = a then some o else H b
theorem upd_same {H : Hp} {a : Addr} {o : HO} : upd H a o a = some o := by unfold upd; rw [if_pos rfl]
theorem upd_ne {H : Hp} {a b : Addr} {o : HO} (h : b ≠ a) : upd H a o b = H b := by unfold upd; rw [if_neg h]
theorem upd_upd {H : Hp} {a : Addr} {o u : HO} : upd (upd H a o) a u = upd H a u := by
  funext b; unfold upd; split <;> rfl
/-- two objects of different content stand apart -/
theorem ne_of {H : Hp} {a b : Addr} {o u : HO} (h : H a = some o) (h' : H b = some u) (d : o ≠ u) : a ≠ b := by
  intro e; subst e; rw [h] at h'; exact d (Option.some.inj h')
theorem ne_of_none {H : Hp} {a b : Addr} {o : HO} (h : H a = some o) (h' : H b = none) : a ≠ b := by
  intro e; subst e; rw [h] at h'; cases h'

section
variable (P : Program) (w : World)
def ObjOk (H : Hp) (h : Heap) (a : Addr) : HO → Prop
  | .lst xs => xs.length ≤ sizeLine ∧ ∃ (its : List Value) (n : Nat), Vals xs its ∧ h.get? a = some { cls := .type "list", data := .seq its.toArray n }
  | .tup xs => xs.length ≤ sizeLine ∧ ∃ its : List Value, Vals xs its ∧ IsTup h a its.toArray
  | .dK kvs => kvs.length ≤ sizeLine ∧ (a == sysModules) = false ∧ ∃ vs, KV kvs vs ∧ h.DictOf (mixKind P w) a vs
  | .dT kvs => kvs.length ≤ sizeLine ∧ (a == sysModules) = false ∧ ∃ xs : List (List Key × Addr × Value),
      Paired (fun (p : List Key × V) (q : List Key × Addr × Value) => p.1 = q.1 ∧ H q.2.1 = some (.tup (p.1.map kV)) ∧ RelV p.2 q.2.2) kvs xs ∧
      ∃ o es ep, h.get? a = some o ∧ o.ExactDict ∧ o.data = .dict es ep ∧ es.toList = xs.map (entryOfKey (tupleKind (mixKind P w))) ∧ (xs.map (·.1)).Nodup
  | .set S n => h.SetOf (intKind P w) a S n
  | .ins C dx fs => H dx = some (.own a) ∧ fs.length ≤ 1000 ∧ dx ≠ a ∧ h.get? a = some (PySem.W.instObj C dx) ∧
      ∃ mA, h.Ns1 dx mA ∧ (∀ f, RelO (fs.lookup f) (mA f)) ∧ PySem.Within mA (fs.map (·.1))
  | .own _ => ∃ o, h.get? a = some o
  | .xd fs => ∃ mA, h.Ns1 a mA ∧ ∀ f, RelO (fs.lookup f) (mA f)
  | .rng lo hi => ∃ t u v, h.get? a = some { cls := .type "range", data := .fields #[.int lo t, .int hi u, .int 1 v] }
  | .frz o u => h.get? a = some o ∧ ObjOk H h a u
  | .tbl ps => h.get? a = some { cls := .none, data := .fields ps }
  | .met f x => h.get? a = some (PySem.W.methodObj (.ref f) (.ref x))
  | .ext φ => φ h ∧ (∃ o, h.get? a = some o) ∧ ∀ h1 h2 : Heap, φ h1 → (∀ o, h1.get? a = some o → h2.get? a = some o) → φ h2
/-- the abstract heap is held -/
def HOk (H : Hp) (h : Heap) : Prop := ∀ a o, H a = some o → ObjOk P w H h a o
end

section
variable {P : Program} {w : World} {H H' : Hp} {h h' : Heap} {a : Addr} {o : HO}
theorem ObjOk.lt (x : ObjOk P w H h a o) : a < h.objs.size := by
  cases o with
  | lst xs => obtain ⟨_, _, _, _, e⟩ := x; exact Heap.lt_size e
  | tup xs => obtain ⟨_, _, _, p⟩ := x; exact p.lt
  | dK kvs => obtain ⟨_, _, _, _, o, _, _, e, _⟩ := x; exact Heap.lt_size e
  | dT kvs => obtain ⟨_, _, _, _, o, _, _, e, _⟩ := x; exact Heap.lt_size e
  | set S n => obtain ⟨o, _, _, _, e, _⟩ := x; exact Heap.lt_size e
  | ins C dx fs => obtain ⟨_, _, _, e, _⟩ := x; exact Heap.lt_size e
  | own y => obtain ⟨_, e⟩ := x; exact Heap.lt_size e
  | xd fs => obtain ⟨_, ⟨_, _, _, e, _⟩, _⟩ := x; exact Heap.lt_size e
  | rng lo hi => obtain ⟨_, _, _, e⟩ := x; exact Heap.lt_size e
  | frz ob u => obtain ⟨e, _⟩ := x; exact Heap.lt_size e
  | tbl ps => exact Heap.lt_size (show h.get? a = some _ from x)
  | met f y => exact Heap.lt_size (show h.get? a = some _ from x)
  | ext φ => obtain ⟨_, ⟨_, e⟩, _⟩ := x; exact Heap.lt_size e
theorem Paired.mapP {α β : Type} {F G : α → β → Prop} : ∀ {l₁ : List α} {l₂ : List β}, Paired F l₁ l₂ → (∀ a b, F a b → G a b) → Paired G l₁ l₂
  | _, _, .nil, _ => .nil
  | _, _, .cons r t, f => .cons (f _ _ r) (Paired.mapP t f)
theorem Paired.imp' {α β : Type} {F G : α → β → Prop} (f : ∀ a b, F a b → G a b) {l₁ : List α} {l₂ : List β} (r : Paired F l₁ l₂) : Paired G l₁ l₂ := Paired.mapP r f
/-- what an object's description leans on: its own object, its own dict, the tuples -/
theorem ObjOk.stay (x : ObjOk P w H h a o) (k : ∀ b u, (b = a ∨ H b = some (.own a)) → h.get? b = some u → h'.get? b = some u)
    (ho : ∀ b, H b = some (.own a) → H' b = some (.own a)) (ht : ∀ b xs, H b = some (.tup xs) → H' b = some (.tup xs)) : ObjOk P w H' h' a o := by
  induction o with
  | lst xs => obtain ⟨z, its, n, r, e⟩ := x; exact ⟨z, its, n, r, k _ _ (.inl rfl) e⟩
  | tup xs => obtain ⟨z, its, r, ob, e, c⟩ := x; exact ⟨z, its, r, ob, k _ _ (.inl rfl) e, c⟩
  | dK kvs => obtain ⟨z, y, vs, r, ob, es, ep, e, c⟩ := x; exact ⟨z, y, vs, r, ob, es, ep, k _ _ (.inl rfl) e, c⟩
  | dT kvs =>
    obtain ⟨z, y, xs, r, ob, es, ep, e, c⟩ := x
    exact ⟨z, y, xs, Paired.mapP r fun p q z => ⟨z.1, ht _ _ z.2.1, z.2.2⟩, ob, es, ep, k _ _ (.inl rfl) e, c⟩
  | set S n => obtain ⟨ob, es, ep, t, e, c⟩ := x; exact ⟨ob, es, ep, t, k _ _ (.inl rfl) e, c⟩
  | ins C dx fs =>
    obtain ⟨d, z, ne, e, mA, ⟨od, es, ep, e2, c⟩, r⟩ := x
    exact ⟨ho _ d, z, ne, k _ _ (.inl rfl) e, mA, ⟨od, es, ep, k _ _ (.inr d) e2, c⟩, r⟩
  | own y => obtain ⟨ob, e⟩ := x; exact ⟨ob, k _ _ (.inl rfl) e⟩
  | xd fs => obtain ⟨mA, ⟨od, es, ep, e, c⟩, r⟩ := x; exact ⟨mA, ⟨od, es, ep, k _ _ (.inl rfl) e, c⟩, r⟩
  | rng lo hi => obtain ⟨t, u, v, e⟩ := x; exact ⟨t, u, v, k _ _ (.inl rfl) e⟩
  | frz ob u ih => obtain ⟨e, q⟩ := x; exact ⟨k _ _ (.inl rfl) e, ih q⟩
  | tbl ps =>
    have e : h.get? a = some { cls := .none, data := .fields ps } := x
    show h'.get? a = some { cls := .none, data := .fields ps }
    exact k a _ (.inl rfl) e
  | met f y =>
    have e : h.get? a = some (PySem.W.methodObj (.ref f) (.ref y)) := x
    show h'.get? a = some (PySem.W.methodObj (.ref f) (.ref y))
    exact k a _ (.inl rfl) e
  | ext φ => obtain ⟨p, ⟨o, e⟩, st⟩ := x; exact ⟨st _ _ p fun o q => k _ _ (.inl rfl) q, ⟨o, k _ _ (.inl rfl) e⟩, st⟩
theorem HOk.lt (x : HOk P w H h) (e : H a = some o) : a < h.objs.size := (x a o e).lt
theorem HOk.fresh (x : HOk P w H h) (e : h.objs.size ≤ a) : H a = none := by
  cases q : H a with
  | none => rfl
  | some u => exact absurd (Nat.lt_of_lt_of_le (x.lt q) e) (Nat.lt_irrefl _)
/-- every object of the heap is kept -/
theorem HOk.kept (x : HOk P w H h) (k : ∀ b u, h.get? b = some u → h'.get? b = some u) : HOk P w H h' := fun a o e =>
  (x a o e).stay (fun b u _ q => k b u q) (fun _ q => q) fun _ _ q => q
/-- a new object is laid and tracked -/
theorem HOk.laid (x : HOk P w H h) (k : ∀ b u, h.get? b = some u → h'.get? b = some u) (hp : h.objs.size ≤ a) (new : ObjOk P w (upd H a o) h' a o) : HOk P w (upd H a o) h' := fun b u e => by
  have hn := x.fresh hp
  by_cases hb : b = a
  · subst hb; rw [upd_same] at e; cases e; exact new
  · rw [upd_ne hb] at e
    exact (x b u e).stay (fun c v _ q => k c v q) (fun c q => by rw [upd_ne (ne_of_none q hn)]; exact q) fun c xs q => by rw [upd_ne (ne_of_none q hn)]; exact q
end

/-- what may be read as u: it is u, or a known u -/
def Rd (H : Hp) (a : Addr) (u : HO) : Prop := H a = some u ∨ ∃ o, H a = some (.frz o u)
theorem Rd.of {H : Hp} {a : Addr} {u : HO} (h : H a = some u) : Rd H a u := .inl h
theorem Rd.ok {P : Program} {w : World} {H : Hp} {h : Heap} {a : Addr} {u : HO} (r : Rd H a u) (x : HOk P w H h) : ObjOk P w H h a u := by
  rcases r with r | ⟨o, r⟩
  · exact x a u r
  · obtain ⟨_, q⟩ := x a _ r
    exact q
/-- what may be written -/
def Mut : Option HO → Prop
  | some (.lst _) => True
  | some (.dK _) => True
  | some (.dT _) => True
  | some (.set _ _) => True
  | some (.ins _ _ _) => True
  | some (.ext _) => True
  | _ => False
section
variable {P : Program} {w : World} {H : Hp} {h h' : Heap} {x e : Addr} {o' : HO}
/-- the object at e is changed: x itself, or the dict of the instance x -/
theorem HOk.write (ok : HOk P w H h) (mu : Mut (H x)) (he : e = x ∨ H e = some (.own x)) (k : ∀ b u, b ≠ e → h.get? b = some u → h'.get? b = some u) (heo : ∃ u, h'.get? e = some u)
    (new : ObjOk P w (upd H x o') h' x o') : HOk P w (upd H x o') h' := fun b u q => by
  have nown : ∀ c y, H c = some (.own y) → c ≠ x := fun c y r z => by subst z; rw [r] at mu; exact mu
  have ntup : ∀ c xs, H c = some (.tup xs) → c ≠ x := fun c xs r z => by subst z; rw [r] at mu; exact mu
  by_cases hb : b = x
  · subst hb; rw [upd_same] at q; cases q; exact new
  · rw [upd_ne hb] at q
    by_cases hbe : b = e
    · have q' : H b = some (.own x) := by
        rcases he with z | z
        · exact absurd (hbe.trans z) hb
        · rw [hbe]; exact z
      rw [q] at q'; cases q'
      obtain ⟨v, hv⟩ := heo
      exact ⟨v, by rw [hbe]; exact hv⟩
    · refine (ok b u q).stay (fun c v hc r => k c v ?_ r) (fun c r => by rw [upd_ne (nown c b r)]; exact r) fun c xs r => by rw [upd_ne (ntup c xs r)]; exact r
      rcases hc with rfl | hc
      · exact hbe
      · rintro rfl
        rcases he with z | z
        · exact nown c b hc z
        · rw [hc] at z; cases z; exact hb rfl
end

/-! ### kept unless tracked; of the frames at fs (the callers') the slots may change (an exception that passes writes there); of the records at ex (iterators) nothing is said -/
structure Un (fs ex : List Addr) (H H' : Hp) (h h' : Heap) : Prop where
  keep : ∀ b o, h.get? b = some o → H b = none → b ∉ fs → b ∉ ex → h'.get? b = some o
  slot : ∀ b o, h.get? b = some o → H b = none → b ∈ fs → b ∉ ex → ∃ sl, h'.get? b = some { o with slots := sl }
  free : ∀ b o, h.get? b = some o → H b = none → b ∉ ex → H' b = none
  there : ∀ b o, h.get? b = some o → b ∉ ex → ∃ o', h'.get? b = some o'
  tups : ∀ b xs, H b = some (.tup xs) → H' b = some (.tup xs)
  frzs : ∀ b o u, H b = some (.frz o u) → H' b = some (.frz o u)
  tbls : ∀ b ps, H b = some (.tbl ps) → ∃ more, H' b = some (.tbl (ps ++ more))
section
variable {fs fs' ex ex' : List Addr} {H H1 H2 : Hp} {h h1 h2 h' : Heap} {a x e : Addr} {o : HO}
theorem Un.any (u : Un fs ex H H1 h h1) {b : Addr} {ob : Obj} (q : h.get? b = some ob) (n : H b = none) (hx : b ∉ ex) : ∃ sl, h1.get? b = some { ob with slots := sl } := by
  by_cases hb : b ∈ fs
  · exact u.slot b ob q n hb hx
  · exact ⟨ob.slots, u.keep b ob q n hb hx⟩
theorem Un.trans (a : Un fs ex H H1 h h1) (b : Un fs ex H1 H2 h1 h2) : Un fs ex H H2 h h2 where
  keep := fun c ob q n hc hx => b.keep c ob (a.keep c ob q n hc hx) (a.free c ob q n hx) hc hx
  slot := fun c ob q n hc hx => by
    obtain ⟨sl, e1⟩ := a.slot c ob q n hc hx
    obtain ⟨sl', e2⟩ := b.slot c _ e1 (a.free c ob q n hx) hc hx
    exact ⟨sl', e2⟩
  free := fun c ob q n hx => by
    obtain ⟨o', e1⟩ := a.there c ob q hx
    exact b.free c o' e1 (a.free c ob q n hx) hx
  there := fun c ob q hx => by
    obtain ⟨o', e1⟩ := a.there c ob q hx
    exact b.there c o' e1 hx
  tups := fun c xs q => b.tups c xs (a.tups c xs q)
  frzs := fun c ob xs q => b.frzs c ob xs (a.frzs c ob xs q)
  tbls := fun c ps q => by
    obtain ⟨m1, e1⟩ := a.tbls c ps q
    obtain ⟨m2, e2⟩ := b.tbls c _ e1
    exact ⟨m1 ++ m2, by rw [e2, Array.append_assoc]⟩
theorem Un.kept (k : ∀ b u, h.get? b = some u → h'.get? b = some u) : Un fs ex H H h h' :=
  ⟨fun b ob q _ _ _ => k b ob q, fun b ob q _ _ _ => ⟨ob.slots, k b ob q⟩, fun _ _ _ n _ => n, fun b ob q _ => ⟨ob, k b ob q⟩, fun _ _ q => q, fun _ _ _ q => q, fun _ ps q => ⟨#[], by rw [q]; simp⟩⟩
theorem Un.refl : Un fs ex H H h h := Un.kept fun _ _ q => q
theorem Un.laid (k : ∀ b u, h.get? b = some u → h'.get? b = some u) (hp : h.objs.size ≤ a) (hn : H a = none) : Un fs ex H (upd H a o) h h' where
  keep := fun b u q _ _ _ => k b u q
  slot := fun b u q _ _ _ => ⟨u.slots, k b u q⟩
  free := fun b u q n _ => by rw [upd_ne (Nat.ne_of_lt (Nat.lt_of_lt_of_le (Heap.lt_size q) hp))]; exact n
  there := fun b u q _ => ⟨u, k b u q⟩
  tups := fun b xs q => by rw [upd_ne (ne_of_none q hn)]; exact q
  frzs := fun b u xs q => by rw [upd_ne (ne_of_none q hn)]; exact q
  tbls := fun b ps q => ⟨#[], by rw [upd_ne (ne_of_none q hn), q]; simp⟩
theorem Un.write (mu : Mut (H x)) (he : e = x ∨ H e = some (.own x)) (k : ∀ b u, b ≠ e → h.get? b = some u → h'.get? b = some u) (heo : ∃ u, h'.get? e = some u) : Un fs ex H (upd H x o) h h' := by
  have hx : ∀ b, H b = none → b ≠ x := fun b n z => by subst z; rw [n] at mu; exact mu
  have hb : ∀ b, H b = none → b ≠ e := fun b n z => by
    subst z
    rcases he with r | r
    · exact hx b n r
    · rw [n] at r; cases r
  have hm : ∀ b u, H b = some u → ¬ Mut (some u) → b ≠ x := fun b u q nm z => by subst z; rw [q] at mu; exact nm mu
  refine ⟨fun b u q n _ _ => k b u (hb b n) q, fun b u q n _ _ => ⟨u.slots, k b u (hb b n) q⟩, fun b u q n _ => by rw [upd_ne (hx b n)]; exact n, fun b u q _ => ?_,
    fun b xs q => by rw [upd_ne (hm b _ q fun z => z)]; exact q, fun b u xs q => by rw [upd_ne (hm b _ q fun z => z)]; exact q, fun b ps q => ⟨#[], by rw [upd_ne (hm b _ q fun z => z), q]; simp⟩⟩
  by_cases hbe : b = e
  · subst hbe; exact heo
  · exact ⟨u, k b u hbe q⟩
theorem Un.mono (u : Un fs ex H H1 h h1) (hs : ∀ b ∈ fs, b ∈ fs') (hx : ∀ b ∈ ex, b ∈ ex') : Un fs' ex' H H1 h h1 :=
  ⟨fun b ob q n hb he => u.keep b ob q n (fun z => hb (hs b z)) fun z => he (hx b z), fun _ _ q n _ he => u.any q n fun z => he (hx _ z), fun b ob q n he => u.free b ob q n fun z => he (hx b z), fun b ob q he => u.there b ob q fun z => he (hx b z), u.tups, u.frzs, u.tbls⟩
end

/-! ### the heap without what is tracked -/
def trk (h : Heap) (H : Hp) : List Addr := (List.range h.objs.size).filter fun a => (H a).isSome
def hidT (h : Heap) (H : Hp) : Heap := PySem.W.hideAll h (trk h H)
theorem hidT_size (h : Heap) (H : Hp) : (hidT h H).objs.size = h.objs.size := PySem.W.hideAll_size _ _
theorem hidT_get {h : Heap} {H : Hp} {b : Addr} {o : Obj} (e : h.get? b = some o) (n : H b = none) : (hidT h H).get? b = some o :=
  PySem.W.hideAll_get _ e fun hm => by
    have q : (H b).isSome = true := (List.mem_filter.mp hm).2
    rw [n] at q; simp at q
theorem of_hidT {h : Heap} {H : Hp} {b : Addr} {o : Obj} (e : (hidT h H).get? b = some o) : h.get? b = some o ∧ H b = none := by
  have e' : h.get? b = some o := PySem.W.of_hideAll (trk h H) e
  refine ⟨e', ?_⟩
  cases q : H b with
  | none => rfl
  | some x =>
    have hm : b ∈ trk h H := List.mem_filter.mpr ⟨List.mem_range.mpr (Heap.lt_size e'), by simp [q]⟩
    have z : (hidT h H).get? b = none := PySem.W.hideAll_none (trk h H) hm
    rw [z] at e; cases e

/-! ### OpenK's ledger, filled with every new object but one -/
def allNews (g h : Heap) (L : Addr) : List (Addr × Obj) := (List.range h.objs.size).filterMap fun a => if a = L ∨ (g.get? a).isSome = true then none else (h.get? a).map fun o => (a, o)
theorem mem_allNews {g h : Heap} {L a : Addr} {o : Obj} (h1 : a ≠ L) (h2 : g.get? a = none) (h3 : h.get? a = some o) : (a, o) ∈ allNews g h L :=
  List.mem_filterMap.mpr ⟨a, List.mem_range.mpr (Heap.lt_size h3), by simp [h1, h2, h3]⟩
theorem of_mem_allNews {g h : Heap} {L : Addr} {p : Addr × Obj} (hp : p ∈ allNews g h L) : p.1 ≠ L ∧ g.get? p.1 = none ∧ h.get? p.1 = some p.2 := by
  obtain ⟨b, _, e⟩ := List.mem_filterMap.mp hp
  split at e
  · cases e
  · rename_i hn
    cases q : h.get? b with
    | none => rw [q] at e; simp at e
    | some u =>
      rw [q] at e
      simp only [Option.map_some, Option.some.injEq] at e
      subst e
      refine ⟨fun z => hn (.inl z), ?_, q⟩
      show g.get? b = none
      cases r : g.get? b with
      | none => rfl
      | some v => exact (hn (.inr (by simp [r]))).elim
def rest (g h : Heap) (L d : Addr) : List (Addr × Obj) := (allNews g h L).filter fun p => decide (p.1 ≠ d)
theorem rest_ne {g h : Heap} {L d : Addr} : ∀ p ∈ rest g h L d, p.1 ≠ d := fun p hp => of_decide_eq_true (List.mem_filter.mp hp).2
theorem mem_rest {g h : Heap} {L d a : Addr} {o : Obj} (h1 : a ≠ L) (h2 : g.get? a = none) (h3 : h.get? a = some o) (h4 : a ≠ d) : (a, o) ∈ rest g h L d :=
  List.mem_filter.mpr ⟨mem_allNews h1 h2 h3, decide_eq_true h4⟩
theorem news_all {g h : Heap} {L : Addr} : News g L h (allNews g h L) := fun p hp => let ⟨a, b, c⟩ := of_mem_allNews hp; ⟨c, a, b⟩
theorem news_at {g h : Heap} {L d : Addr} {o : Obj} (h1 : d ≠ L) (h2 : g.get? d = none) (h3 : h.get? d = some o) : News g L h ((d, o) :: rest g h L d) := fun p hp => by
  rcases List.mem_cons.mp hp with rfl | hp
  · exact ⟨h3, h1, h2⟩
  · exact news_all p (List.mem_filter.mp hp).1
/-- behind a rule that changed d alone: all else but the frame is kept -/
theorem kept_of_news {g h h' : Heap} {L d : Addr} {m : Str → Option Value} (k : ∀ b o, g.get? b = some o → h.get? b = some o) (F : Fr g L h' m) (N : News g L h' (rest g h L d)) :
    ∀ b o, b ≠ L → b ≠ d → h.get? b = some o → h'.get? b = some o := fun b o h1 h2 e => by
  cases q : g.get? b with
  | some u =>
    have := k b u q
    rw [e] at this; cases this
    exact F.keep b _ q
  | none => exact (N (b, o) (mem_rest h1 q e h2)).1
end L2

namespace L2
open PySem PySem.Spec PyProof.Rows

/-- the module's facts, over the base: the heap at the law's entry without what is tracked there -/
structure Mod (K : PySem.W.Frag) (mg : Str → Option Value) (base : Heap) : Prop where
  kin : K.In base
  glob : base.Ns mainGlobals mg
  blt : ∃ mb, base.Ns builtinsNs mb ∧ ∀ x : Str, x ≠ "__name__" → mb x = bootBuiltins x
  nolimit : base.NoLimit

/-- the context: a def's body (or a comprehension's block) running. base: fixed through the whole law; s₀, H₀: the entry; outer: the frames whose slots others may change (a def's callers); stack: all frames that run;
   ex: iterators that were made ahead of the entry and are walked here (a comprehension's); fn: the names whose cells were made at the entry (a def: all; a comprehension's block: its own); calm: not within an except suite; pn: pins that every state bears; xe: what is wanted of an exception that leaves the code -/
structure Cx where
  prog : Program
  w : World
  K : PySem.W.Frag
  mg : Str → Option Value
  base : Heap
  A : Around
  N : List Str
  s₀ : Shared
  H₀ : Hp
  env : Env
  outer : List Env
  stack : List Env
  ex : List Addr
  fn : Str → Bool
  calm : Bool
  pn : List (Addr × Obj)
  xe : Value → Shared → Prop
/-- the callers' frames -/
def frs (l : List Env) : List Addr := l.filterMap (·.frame)
abbrev Cx.fs (X : Cx) : List Addr := frs X.outer

def Vis (sc : Scope) (x : Str) : Prop := sc.names.lookup x = some .local ∨ sc.names.lookup x = some .cell ∨ sc.names.lookup x = some .free
def Loc (sc : Scope) (x : Str) : Prop := sc.names.lookup x = some .local ∨ sc.names.lookup x = some .cell
def Look (env : Env) (h : Heap) (m : Str → Option Value) (x : Str) (u : Value) : Prop :=
  (env.kindOf x = some .local ∧ m x = some u) ∨ ((env.kindOf x = some .cell ∨ env.kindOf x = some .free) ∧ ∃ c, env.cells.lookup x = some c ∧ h.IsCell c (some u))

structure Cx.Ok (X : Cx) : Prop where
  mod : Mod X.K X.mg X.base
  kind : X.env.scope.kind = .function
  glob : X.env.globals = mainGlobals
  blt : X.env.builtins = builtinsNs
  above : X.s₀.heap.objs.size ≤ X.env.locals
  inj : ∀ x y c, X.env.cells.lookup x = some c → X.env.cells.lookup y = some c → x = y
  has : ∀ x, (X.env.kindOf x = some .cell ∨ X.env.kindOf x = some .free) → ∃ c, X.env.cells.lookup x = some c
  cab : ∀ x c, X.fn x = true → X.env.cells.lookup x = some c → X.s₀.heap.objs.size ≤ c
  hd : X.calm = true → X.A.handled = none
  frames : X.A.frames = some X.stack
  stk : X.stack = X.outer ∨ (X.stack = X.env :: X.outer ∧ X.env.frame = some X.env.locals)
  exf : ∀ b ∈ X.ex, b ≠ X.env.locals ∧ ∀ x c, X.env.cells.lookup x = some c → c ≠ b
  bs : ∀ b o, X.base.get? b = some o → X.s₀.heap.get? b = some o ∧ X.H₀ b = none
  bsz : X.base.objs.size ≤ X.s₀.heap.objs.size
  noex : ∀ b o, X.base.get? b = some o → b ∉ X.ex
  exfs : ∀ b ∈ X.ex, b ∉ X.fs
  funs : X.s₀.heap.FunFrames X.base X.outer
  frf : ∀ b ∈ X.fs, X.H₀ b = none

structure Inv (X : Cx) (pins : List (Addr × Obj)) (σ : List (Option V)) (H : Hp) (s : Shared) : Prop where
  ok : X.Ok
  os : s.os = X.s₀.os
  bare : AllBare s.gens
  base : Un X.fs X.ex X.H₀ H X.s₀.heap s.heap
  loc : ∃ m, s.heap.Ns X.env.locals m ∧ ∀ (i : Nat) (x : Str) (v : V), X.N[i]? = some x → σ[i]? = some (some v) → Vis X.env.scope x → ∃ u, RelV v u ∧ Look X.env s.heap m x u
  cell : ∀ x c, X.env.cells.lookup x = some c → ∃ v, s.heap.IsCell c v
  free : H X.env.locals = none
  freeC : ∀ x c, X.env.cells.lookup x = some c → H c = none
  pin : ∀ p ∈ X.pn ++ pins, s.heap.get? p.1 = some p.2 ∧ H p.1 = none ∧ p.1 ≠ X.env.locals ∧ p.1 ∉ X.fs ∧ ∀ v, p.2.data ≠ .cell v
  hok : HOk X.prog X.w H s.heap
  len : σ.length = X.N.length

section
variable {X : Cx} {pins : List (Addr × Obj)} {σ : List (Option V)} {H H' : Hp} {s : Shared} {h' : Heap}

theorem Cx.Ok.nofr (ok : X.Ok) {b : Addr} {o : Obj} (e : X.base.get? b = some o) : b ∉ X.fs := fun hb => by
  have := (ok.funs.mem hb).1
  rw [e] at this; cases this
theorem Inv.bs (I : Inv X pins σ H s) : ∀ b o, X.base.get? b = some o → s.heap.get? b = some o ∧ H b = none := fun b o e =>
  ⟨I.base.keep b o (I.ok.bs b o e).1 (I.ok.bs b o e).2 (I.ok.nofr e) (I.ok.noex b o e), I.base.free b o (I.ok.bs b o e).1 (I.ok.bs b o e).2 (I.ok.noex b o e)⟩
theorem Inv.bk (I : Inv X pins σ H s) : ∀ b o, X.base.get? b = some o → s.heap.get? b = some o := fun b o e => (I.bs b o e).1
theorem Inv.mod (I : Inv X pins σ H s) : Mod X.K X.mg X.base := I.ok.mod
theorem Inv.kIn (I : Inv X pins σ H s) : X.K.In s.heap := I.ok.mod.kin.keeps I.bk
theorem Inv.nolimit (I : Inv X pins σ H s) : s.heap.NoLimit := I.ok.mod.nolimit.keeps I.bk
/-- the frame over the base: for OpenK's rules (K.In X.base is I.mod.kin) -/
theorem Inv.fr (I : Inv X pins σ H s) : ∃ m, Fr X.base X.env.locals s.heap m :=
  let ⟨m, hn, _⟩ := I.loc
  ⟨m, hn, I.bk, Nat.le_trans I.ok.bsz I.ok.above⟩
theorem Inv.lt (I : Inv X pins σ H s) : X.env.locals < s.heap.objs.size := let ⟨_, hn, _⟩ := I.loc; hn.lt
theorem Inv.sz (I : Inv X pins σ H s) : X.s₀.heap.objs.size ≤ s.heap.objs.size := Nat.le_trans I.ok.above (Nat.le_of_lt I.lt)
theorem Inv.nofs (I : Inv X pins σ H s) {a : Addr} (h : s.heap.objs.size ≤ a) : a ∉ X.fs := fun hb => by
  obtain ⟨_, o, ho, _⟩ := I.ok.funs.mem hb
  exact absurd (Nat.lt_of_lt_of_le (Heap.lt_size ho) (Nat.le_trans I.sz h)) (Nat.lt_irrefl _)
theorem Inv.cne (I : Inv X pins σ H s) : ∀ x c, X.env.cells.lookup x = some c → c ≠ X.env.locals := fun x c e z => by
  obtain ⟨v, o, ho, hd⟩ := I.cell x c e
  obtain ⟨m, ⟨o', es, ep, ho', hd', _⟩, _⟩ := I.loc
  rw [z, ho'] at ho; cases ho; rw [hd'] at hd; cases hd
theorem Inv.funs (I : Inv X pins σ H s) : s.heap.FunFrames X.base X.outer := by
  have all : ∀ (l : List Env), (∀ b ∈ frs l, b ∈ X.fs) → X.s₀.heap.FunFrames X.base l → s.heap.FunFrames X.base l := by
    intro l
    induction l with
    | nil => intro _ _; trivial
    | cons env r ih =>
      intro hs hl
      obtain ⟨hk, ⟨L, o, hf, hn, ho, hd⟩, hr⟩ := hl
      have hL : L ∈ X.fs := hs L (by unfold frs; rw [List.filterMap_cons, hf]; exact List.mem_cons_self)
      obtain ⟨sl, e⟩ := I.base.slot L o ho (I.ok.frf L hL) hL fun z => I.ok.exfs L z hL
      exact ⟨hk, ⟨L, _, hf, hn, e, hd⟩, ih (fun b hb => hs b (by unfold frs; rw [List.filterMap_cons, hf]; exact List.mem_cons_of_mem _ hb)) hr⟩
  exact all X.outer (fun _ hb => hb) I.ok.funs

/-- the frames that run, for a call -/
theorem Inv.stack (I : Inv X pins σ H s) : s.heap.FunFrames X.base X.stack := by
  rcases I.ok.stk with e | ⟨e, hf⟩
  · rw [e]; exact I.funs
  · rw [e]
    obtain ⟨m, hn, _⟩ := I.loc
    refine .cons (by rw [I.ok.kind]; decide) hf hn ?_ I.funs
    exact Heap.get?_none_of_le (Nat.le_trans I.ok.bsz I.ok.above)
theorem Inv.stkSub (I : Inv X pins σ H s) : ∀ b ∈ frs X.stack, b ∈ X.env.locals :: X.fs := fun b hb => by
  rcases I.ok.stk with e | ⟨e, hf⟩
  · rw [e] at hb; exact List.mem_cons_of_mem _ hb
  · rw [e] at hb
    unfold frs at hb
    rw [List.filterMap_cons, hf] at hb
    exact hb
theorem Inv.stkFree (I : Inv X pins σ H s) : ∀ b ∈ frs X.stack, H b = none := fun b hb => by
  rcases List.mem_cons.mp (I.stkSub b hb) with e | hb
  · rw [e]; exact I.free
  · obtain ⟨_, o, ho, _⟩ := I.ok.funs.mem hb
    exact I.base.free b o ho (I.ok.frf b hb) fun z => I.ok.exfs b z hb

/-- THE STEP: the untracked objects but the frame and the records at ch are kept (the callers' frames up to slots), the frame's map is kept, the new abstract heap is held -/
theorem Inv.step {g' : Array GenState} {t' : Nat} {d' : Drawn} {ch : List Addr} (I : Inv X pins σ H s)
    (hch : ∀ b ∈ ch, (b ∈ X.ex ∨ X.s₀.heap.objs.size ≤ b) ∧ b ≠ X.env.locals ∧ (∀ x c, X.env.cells.lookup x = some c → c ≠ b) ∧ ∀ p ∈ X.pn ++ pins, p.1 ≠ b)
    (keep : ∀ b o, b ≠ X.env.locals → b ∉ X.fs → b ∉ ch → s.heap.get? b = some o → H b = none → h'.get? b = some o)
    (slot : ∀ b o, b ≠ X.env.locals → b ∈ X.fs → b ∉ ch → s.heap.get? b = some o → H b = none → ∃ sl, h'.get? b = some { o with slots := sl }) (free : ∀ b o, b ∉ ch → s.heap.get? b = some o → H b = none → H' b = none)
    (there : ∀ b o, b ∉ ch → s.heap.get? b = some o → ∃ o', h'.get? b = some o')
    (tups : ∀ b xs, H b = some (.tup xs) → H' b = some (.tup xs)) (frzs : ∀ b o u, H b = some (.frz o u) → H' b = some (.frz o u)) (tbls : ∀ b ps, H b = some (.tbl ps) → ∃ more, H' b = some (.tbl (ps ++ more)))
    (ns : ∀ m, s.heap.Ns X.env.locals m → h'.Ns X.env.locals m) (hok : HOk X.prog X.w H' h') (hg : AllBare g') :
    Inv X pins σ H' { s with heap := h', gens := g', drawn := d', toks := t' } := by
  have neL : ∀ b o, X.s₀.heap.get? b = some o → b ≠ X.env.locals := fun b o e => Nat.ne_of_lt (Nat.lt_of_lt_of_le (Heap.lt_size e) I.ok.above)
  have neC : ∀ b o, X.s₀.heap.get? b = some o → b ∉ X.ex → b ∉ ch := fun b o e hx hb => by
    rcases (hch b hb).1 with z | z
    · exact hx z
    · exact absurd (Nat.lt_of_lt_of_le (Heap.lt_size e) z) (Nat.lt_irrefl _)
  have cellK : ∀ x c, X.env.cells.lookup x = some c → ∀ v, s.heap.IsCell c v → h'.IsCell c v := fun x c e v ⟨o, ho, hd⟩ => by
    have nch : c ∉ ch := fun z => (hch c z).2.2.1 x c e rfl
    by_cases hc : c ∈ X.fs
    · obtain ⟨sl, q⟩ := slot c o (I.cne x c e) hc nch ho (I.freeC x c e)
      exact ⟨_, q, hd⟩
    · exact ⟨o, keep c o (I.cne x c e) hc nch ho (I.freeC x c e), hd⟩
  refine ⟨I.ok, I.os, hg, ⟨fun b o e n hb hx => ?_, fun b o e n hb hx => ?_, fun b o e n hx => ?_, fun b o e hx => ?_, fun b xs e => tups b xs (I.base.tups b xs e), fun b o xs e => frzs b o xs (I.base.frzs b o xs e), fun b ps e => ?_⟩, ?_, fun x c e => ?_, ?_, fun x c e => ?_, fun p hp => ?_, hok, I.len⟩
  · exact keep b o (neL b o e) hb (neC b o e hx) (I.base.keep b o e n hb hx) (I.base.free b o e n hx)
  · obtain ⟨sl, e1⟩ := I.base.slot b o e n hb hx
    obtain ⟨sl', e2⟩ := slot b _ (neL b o e) hb (neC b o e hx) e1 (I.base.free b o e n hx)
    exact ⟨sl', e2⟩
  · obtain ⟨o', e1⟩ := I.base.there b o e hx
    exact free b o' (neC b o e hx) e1 (I.base.free b o e n hx)
  · obtain ⟨o', e1⟩ := I.base.there b o e hx
    exact there b o' (neC b o e hx) e1
  · obtain ⟨m1, e1⟩ := I.base.tbls b ps e
    obtain ⟨m2, e2⟩ := tbls b _ e1
    exact ⟨m1 ++ m2, by rw [e2, Array.append_assoc]⟩
  · obtain ⟨m, hn, hl⟩ := I.loc
    refine ⟨m, ns m hn, fun i x v e1 e2 e3 => ?_⟩
    obtain ⟨u, r, l⟩ := hl i x v e1 e2 e3
    refine ⟨u, r, ?_⟩
    rcases l with l | ⟨k, c, e, z⟩
    · exact .inl l
    · exact .inr ⟨k, c, e, cellK x c e _ z⟩
  · obtain ⟨v, z⟩ := I.cell x c e
    exact ⟨v, cellK x c e v z⟩
  · obtain ⟨m, ⟨o, _, _, ho, _⟩, _⟩ := I.loc
    exact free _ o (fun z => (hch _ z).2.1 rfl) ho I.free
  · obtain ⟨v, o, ho, hd⟩ := I.cell x c e
    exact free c o (fun z => (hch c z).2.2.1 x c e rfl) ho (I.freeC x c e)
  · obtain ⟨e, n, ne, nf, d⟩ := I.pin p hp
    have nch : p.1 ∉ ch := fun z => (hch p.1 z).2.2.2 p hp rfl
    exact ⟨keep p.1 p.2 ne nf nch e n, free p.1 p.2 nch e n, ne, nf, d⟩
/-- .. where the frame's own object is kept too -/
theorem Inv.un {t' : Nat} (I : Inv X pins σ H s) (u : Un X.fs [] H H' s.heap h') (hok : HOk X.prog X.w H' h') : Inv X pins σ H' { s with heap := h', toks := t' } := by
  obtain ⟨m, ⟨o, es, ep, ho, r⟩, _⟩ := id I.loc
  obtain ⟨sl, hL⟩ := u.any ho I.free (by simp)
  exact I.step (g' := s.gens) (d' := s.drawn) (ch := []) (fun _ z => nomatch z) (fun b o _ hb _ e n => u.keep b o e n hb (by simp)) (fun b o _ hb _ e n => u.slot b o e n hb (by simp)) (fun b o _ e n => u.free b o e n (by simp)) (fun b o _ e => u.there b o e (by simp)) u.tups u.frzs u.tbls (fun m' hm => by
    obtain ⟨o', es', ep', ho', r'⟩ := hm
    rw [ho] at ho'; cases ho'
    exact ⟨_, es', ep', hL, r'⟩) hok I.bare
/-- behind a call (or a comprehension's block): the slots of this frame may have changed too, the records at ch may have turned -/
theorem Inv.call {g' : Array GenState} {t' : Nat} {d' : Drawn} {ch : List Addr} (I : Inv X pins σ H s) (u : Un (frs X.stack) ch H H' s.heap h') (hok : HOk X.prog X.w H' h') (hg : AllBare g')
    (hch : ∀ b ∈ ch, (b ∈ X.ex ∨ X.s₀.heap.objs.size ≤ b) ∧ b ≠ X.env.locals ∧ (∀ x c, X.env.cells.lookup x = some c → c ≠ b) ∧ ∀ p ∈ X.pn ++ pins, p.1 ≠ b) :
    Inv X pins σ H' { s with heap := h', gens := g', drawn := d', toks := t' } := by
  obtain ⟨m, ⟨o, es, ep, ho, r⟩, _⟩ := id I.loc
  obtain ⟨sl, hL⟩ := u.any ho I.free fun z => (hch _ z).2.1 rfl
  exact I.step (ch := ch) hch (fun b o hL hb hc e n => u.keep b o e n (fun z => (List.mem_cons.mp (I.stkSub b z)).elim hL hb) hc) (fun b o _ _ hc e n => u.any e n hc) (fun b o hc e n => u.free b o e n hc) (fun b o hc e => u.there b o e hc) u.tups u.frzs u.tbls (fun m' hm => by
    obtain ⟨o', es', ep', ho', r'⟩ := hm
    rw [ho] at ho'; cases ho'
    exact ⟨_, es', ep', hL, r'⟩) hok hg
/-- an untracked record of ours (an iterator) has turned -/
theorem Inv.turned {t' : Nat} {it : Addr} (I : Inv X pins σ H s) (k : ∀ b o, b ≠ it → s.heap.get? b = some o → h'.get? b = some o) (hn : H it = none) (hL : it ≠ X.env.locals)
    (h1 : it ∈ X.ex ∨ X.s₀.heap.objs.size ≤ it) (h2 : ∀ x c, X.env.cells.lookup x = some c → c ≠ it) (h3 : ∀ p ∈ X.pn ++ pins, p.1 ≠ it) : Inv X pins σ H { s with heap := h', toks := t' } := by
  have nit : ∀ b u, H b = some u → b ≠ it := fun b u e z => by rw [z, hn] at e; cases e
  refine I.step (g' := s.gens) (d' := s.drawn) (ch := [it]) (fun b hb => ?_) (fun b o _ _ hc e _ => k b o (fun z => hc (by simp [z])) e) (fun b o _ _ hc e _ => ⟨o.slots, k b o (fun z => hc (by simp [z])) e⟩) (fun _ _ _ _ n => n)
    (fun b o hc e => ⟨o, k b o (fun z => hc (by simp [z])) e⟩) (fun _ _ e => e) (fun _ _ _ e => e) (fun b ps e => ⟨#[], by rw [e]; simp⟩) (fun m hm => ?_) (fun b u e => ?_) I.bare
  · have e : b = it := by simpa using hb
    subst e
    exact ⟨h1, hL, h2, h3⟩
  · obtain ⟨o, es, ep, ho, r⟩ := hm
    exact ⟨o, es, ep, k _ o (Ne.symm hL) ho, r⟩
  · refine (I.hok b u e).stay (fun c v hc q => k c v ?_ q) (fun _ q => q) fun _ _ q => q
    rcases hc with z | z
    · rw [z]; exact nit b u e
    · exact nit c _ z
theorem Inv.tok (I : Inv X pins σ H s) (t : Nat) : Inv X pins σ H { s with toks := t } := I.un (h' := s.heap) (t' := t) Un.refl I.hok
/-- all objects kept -/
theorem Inv.kept {t' : Nat} (I : Inv X pins σ H s) (k : ∀ b u, s.heap.get? b = some u → h'.get? b = some u) : Inv X pins σ H { s with heap := h', toks := t' } := I.un (Un.kept k) (I.hok.kept k)
/-- a new object laid and tracked -/
theorem Inv.laid {a : Addr} {o : HO} {t' : Nat} (I : Inv X pins σ H s) (k : ∀ b u, s.heap.get? b = some u → h'.get? b = some u) (hp : s.heap.objs.size ≤ a) (new : ObjOk X.prog X.w (upd H a o) h' a o) :
    Inv X pins σ (upd H a o) { s with heap := h', toks := t' } := I.un (Un.laid k hp (I.hok.fresh hp)) (I.hok.laid k hp new)
/-- an object written -/
theorem Inv.write {x e : Addr} {o : HO} {t' : Nat} (I : Inv X pins σ H s) (mu : Mut (H x)) (he : e = x ∨ H e = some (.own x)) (k : ∀ b u, b ≠ e → s.heap.get? b = some u → h'.get? b = some u) (heo : ∃ u, h'.get? e = some u)
    (new : ObjOk X.prog X.w (upd H x o) h' x o) : Inv X pins σ (upd H x o) { s with heap := h', toks := t' } := I.un (Un.write mu he k heo) (I.hok.write mu he k heo new)
/-- forgetting slots, pins -/
theorem Inv.weak {σ' : List (Option V)} (I : Inv X pins σ H s) (hl : σ'.length = σ.length) (w : ∀ (i : Nat) v, σ'[i]? = some (some v) → σ[i]? = some (some v)) : Inv X pins σ' H s :=
  ⟨I.ok, I.os, I.bare, I.base, let ⟨m, hn, hl'⟩ := I.loc; ⟨m, hn, fun i x v e1 e2 e3 => hl' i x v e1 (w i v e2) e3⟩, I.cell, I.free, I.freeC, I.pin, I.hok, hl.trans I.len⟩
theorem Inv.pins_of {pins' : List (Addr × Obj)} (I : Inv X pins σ H s) (h : ∀ p ∈ pins', s.heap.get? p.1 = some p.2 ∧ H p.1 = none ∧ p.1 ≠ X.env.locals ∧ p.1 ∉ X.fs ∧ ∀ v, p.2.data ≠ .cell v) : Inv X pins' σ H s :=
  ⟨I.ok, I.os, I.bare, I.base, I.loc, I.cell, I.free, I.freeC, fun p hp => (List.mem_append.mp hp).elim (fun z => I.pin p (List.mem_append_left _ z)) (h p), I.hok, I.len⟩

theorem nodup_ix {N : List Str} (hN : N.Nodup) {i j : Nat} {x : Str} (a : N[i]? = some x) (b : N[j]? = some x) : i = j := by
  obtain ⟨h1, e1⟩ := List.getElem?_eq_some_iff.mp a
  obtain ⟨h2, e2⟩ := List.getElem?_eq_some_iff.mp b
  exact (List.getElem_inj hN).mp (e1.trans e2.symm)

/-- a name is stored; what changed -/
theorem store_ok2 {M : Model} {A : Around} {E : Value → Shared → Prop} {i : Nat} {x : Str} {v : V} {u : Value} {Q : Unit → Shared → Prop} (I : Inv X pins σ H s) (hN : X.N.Nodup) (hi : X.N[i]? = some x) (hx : Loc X.env.scope x) (r : RelV v u)
    (h : ∀ s', Inv X pins (σ.set i (some v)) H s' → (∃ a, Heap.SameBut a s.heap s'.heap ∧ (a = X.env.locals ∨ X.env.cells.lookup x = some a)) → Q () s') (hf : X.fn x = true ∨ X.env.scope.names.lookup x = some .local := by first | exact .inl rfl | exact .inr rfl | assumption) : wpAny M A (storeName X.env x u) Q E s := by
  obtain ⟨m, hn, hl⟩ := id I.loc
  have hcls : (X.env.scope.kind == .class || (X.env.scope.kind == .module && X.env.locals != X.env.globals)) = false := by rw [I.ok.kind]; rfl
  have hiσ : i < σ.length := by rw [I.len]; exact (List.getElem?_eq_some_iff.mp hi).1
  have cne := I.cne
  have tracked : ∀ {a : Addr} {h' : Heap}, (∃ o, s.heap.get? a = some o ∧ H a = none) → Heap.SameBut a s.heap h' → HOk X.prog X.w H h' := fun {a h'} ha hs b ob e => by
    obtain ⟨_, _, hfree⟩ := ha
    refine (I.hok b ob e).stay (fun c w' hc q => (hs.2 c ?_).trans q) (fun _ q => q) fun _ _ q => q
    rintro rfl
    rcases hc with rfl | hc
    · rw [hfree] at e; cases e
    · rw [hfree] at hc; cases hc
  rcases hx with hk | hk
  · refine wpAny_storeName_local hk hn (fun h' hn' hs => ?_) hcls
    obtain ⟨oL, _, _, hoL, _⟩ := id hn
    refine h _ ⟨I.ok, I.os, I.bare, ⟨fun b o e n hb hx => ?_, fun b o e n hb hx => ?_, I.base.free, fun b o e hx => ?_, I.base.tups, I.base.frzs, I.base.tbls⟩, ⟨_, hn', fun j y v' e1 e2 e3 => ?_⟩, fun y c e => ?_, I.free, I.freeC, fun p hp => ?_, tracked ⟨oL, hoL, I.free⟩ hs, by simpa using I.len⟩ ⟨_, hs, .inl rfl⟩
    · exact (hs.2 b (Nat.ne_of_lt (Nat.lt_of_lt_of_le (Heap.lt_size e) I.ok.above))).trans (I.base.keep b o e n hb hx)
    · obtain ⟨sl, e1⟩ := I.base.slot b o e n hb hx
      exact ⟨sl, (hs.2 b (Nat.ne_of_lt (Nat.lt_of_lt_of_le (Heap.lt_size e) I.ok.above))).trans e1⟩
    · obtain ⟨o', e1⟩ := I.base.there b o e hx
      exact ⟨o', (hs.2 b (Nat.ne_of_lt (Nat.lt_of_lt_of_le (Heap.lt_size e) I.ok.above))).trans e1⟩
    · by_cases hj : j = i
      · subst hj
        rw [hi] at e1; cases e1
        rw [List.getElem?_set_self hiσ] at e2
        cases e2
        exact ⟨u, r, .inl ⟨hk, by simp⟩⟩
      · rw [List.getElem?_set_ne (Ne.symm hj)] at e2
        obtain ⟨u', r', q⟩ := hl j y v' e1 e2 e3
        refine ⟨u', r', ?_⟩
        rcases q with ⟨k, e⟩ | ⟨k, c, e, z⟩
        · refine .inl ⟨k, ?_⟩
          have : y ≠ x := fun e => hj (nodup_ix hN e1 (e ▸ hi))
          simp [this, e]
        · exact .inr ⟨k, c, e, z.sameBut hs (cne y c e)⟩
    · obtain ⟨w', z⟩ := I.cell y c e
      exact ⟨w', z.sameBut hs (cne y c e)⟩
    · obtain ⟨e, n, ne, nf, d⟩ := I.pin p hp
      exact ⟨(hs.2 p.1 ne).trans e, n, ne, nf, d⟩
  · have hfn : X.fn x = true := by
      rcases hf with z | z
      · exact z
      · rw [z] at hk; cases hk
    obtain ⟨c, hc⟩ := I.ok.has x (.inl hk)
    obtain ⟨w', z⟩ := I.cell x c hc
    refine wpAny_storeName_cell I.ok.kind hk hc z (fun h' hc' hs => ?_)
    obtain ⟨oc, hoc, hocd⟩ := id z
    refine h { s with heap := h' } ⟨I.ok, I.os, I.bare, ⟨fun b o e n hb hx => ?_, fun b o e n hb hx => ?_, I.base.free, fun b o e hx => ?_, I.base.tups, I.base.frzs, I.base.tbls⟩, ⟨m, hn.sameBut hs (Ne.symm (cne x c hc)), fun j y v' e1 e2 e3 => ?_⟩, fun y c' e => ?_, I.free, I.freeC, fun p hp => ?_, tracked ⟨oc, hoc, I.freeC x c hc⟩ hs, by simpa using I.len⟩ ⟨c, hs, .inr hc⟩
    · exact (hs.2 b (Nat.ne_of_lt (Nat.lt_of_lt_of_le (Heap.lt_size e) (I.ok.cab x c hfn hc)))).trans (I.base.keep b o e n hb hx)
    · obtain ⟨sl, e1⟩ := I.base.slot b o e n hb hx
      exact ⟨sl, (hs.2 b (Nat.ne_of_lt (Nat.lt_of_lt_of_le (Heap.lt_size e) (I.ok.cab x c hfn hc)))).trans e1⟩
    · obtain ⟨o', e1⟩ := I.base.there b o e hx
      exact ⟨o', (hs.2 b (Nat.ne_of_lt (Nat.lt_of_lt_of_le (Heap.lt_size e) (I.ok.cab x c hfn hc)))).trans e1⟩
    · by_cases hj : j = i
      · subst hj
        rw [hi] at e1; cases e1
        rw [List.getElem?_set_self hiσ] at e2
        cases e2
        exact ⟨u, r, .inr ⟨.inl hk, c, hc, hc'⟩⟩
      · rw [List.getElem?_set_ne (Ne.symm hj)] at e2
        obtain ⟨u', r', q⟩ := hl j y v' e1 e2 e3
        refine ⟨u', r', ?_⟩
        rcases q with q | ⟨k, c', e, z'⟩
        · exact .inl q
        · refine .inr ⟨k, c', e, z'.sameBut hs ?_⟩
          rintro rfl
          exact hj (nodup_ix hN e1 (I.ok.inj _ _ _ e hc ▸ hi))
    · by_cases hcc : c' = c
      · subst hcc; exact ⟨_, hc'⟩
      · obtain ⟨w2, z2⟩ := I.cell y c' e
        exact ⟨w2, z2.sameBut hs hcc⟩
    · obtain ⟨e, n, ne, nf, d⟩ := I.pin p hp
      refine ⟨(hs.2 p.1 ?_).trans e, n, ne, nf, d⟩
      intro q
      rw [q, hoc] at e
      have q' : oc = p.2 := Option.some.inj e
      exact d w' (by rw [← q']; exact hocd)
theorem store_ok {M : Model} {A : Around} {E : Value → Shared → Prop} {i : Nat} {x : Str} {v : V} {u : Value} {Q : Unit → Shared → Prop} (I : Inv X pins σ H s) (hN : X.N.Nodup) (hi : X.N[i]? = some x) (hx : Loc X.env.scope x) (r : RelV v u)
    (h : ∀ s', Inv X pins (σ.set i (some v)) H s' → Q () s') (hf : X.fn x = true ∨ X.env.scope.names.lookup x = some .local := by first | exact .inl rfl | exact .inr rfl | assumption) : wpAny M A (storeName X.env x u) Q E s :=
  store_ok2 I hN hi hx r (fun s' I' _ => h s' I') hf
/-- behind a call or a block, the state as it is -/
theorem Inv.call' {s' : Shared} {ch : List Addr} (I : Inv X pins σ H s) (ho : s'.os = s.os) (u : Un (frs X.stack) ch H H' s.heap s'.heap) (hok : HOk X.prog X.w H' s'.heap) (hg : AllBare s'.gens)
    (hch : ∀ b ∈ ch, (b ∈ X.ex ∨ X.s₀.heap.objs.size ≤ b) ∧ b ≠ X.env.locals ∧ (∀ x c, X.env.cells.lookup x = some c → c ≠ b) ∧ ∀ p ∈ X.pn ++ pins, p.1 ≠ b) : Inv X pins σ H' s' := by
  obtain ⟨h', g', d', t', o'⟩ := s'
  have e : o' = s.os := ho
  subst e
  exact I.call (g' := g') (t' := t') (d' := d') u hok hg hch
end

/-! ### the judgements -/
/-- an exception: its class, its own dict's address (where it has one), the abstract heap behind it -/
abbrev XK := Value → Option Addr → Hp → Prop
abbrev St := List (Option V)
abbrev VK := V → Hp → Prop
/-- an expression's reading; a test's; an argument list's -/
abbrev TE := St → Hp → VK → Prop
abbrev TT := St → Hp → (Bool → Hp → Prop) → Prop
abbrev TA := St → Hp → (List V → Hp → Prop) → Prop
/-- what is wanted behind a statement -/
structure Ends where
  nx : St → Hp → Prop
  rt : VK
  bk : St → Hp → Prop := fun _ _ => False
  ct : St → Hp → Prop := fun _ _ => False
abbrev TS := Ends → St → Hp → Prop

def EP (X : Cx) (pins : List (Addr × Obj)) (σ : St) (Q : VK) (u : Value) (s' : Shared) : Prop := ∃ v H', Inv X pins σ H' s' ∧ RelV v u ∧ Q v H'
def TP (X : Cx) (pins : List (Addr × Obj)) (σ : St) (Q : Bool → Hp → Prop) (b : Bool) (s' : Shared) : Prop := ∃ H', Inv X pins σ H' s' ∧ Q b H'
def AP (X : Cx) (pins : List (Addr × Obj)) (σ : St) (Q : List V → Hp → Prop) (us : List Value) (s' : Shared) : Prop := ∃ vs H', Inv X pins σ H' s' ∧ Vals vs us ∧ Q vs H'
def SP (X : Cx) (pins : List (Addr × Obj)) (D : Ends) (f : Flow) (s' : Shared) : Prop :=
  match f with
  | .next => ∃ σ' H', Inv X pins σ' H' s' ∧ D.nx σ' H'
  | .brk => ∃ σ' H', Inv X pins σ' H' s' ∧ D.bk σ' H'
  | .cont => ∃ σ' H', Inv X pins σ' H' s' ∧ D.ct σ' H'
  | .ret u => ∃ v σ' H', Inv X pins σ' H' s' ∧ RelV v u ∧ D.rt v H'

def PE (X : Cx) (e : Expr) (t : TE) : Prop :=
  ∀ (pins : List (Addr × Obj)) (s : Shared) (σ : St) (H : Hp) (Q : VK), Inv X pins σ H s → t σ H Q → wpAny (model X.prog X.w) X.A (eval e X.env) (EP X pins σ Q) X.xe s
def PT (X : Cx) (e : Expr) (t : TT) : Prop :=
  ∀ (pins : List (Addr × Obj)) (s : Shared) (σ : St) (H : Hp) (Q : Bool → Hp → Prop), Inv X pins σ H s → t σ H Q → wpAny (model X.prog X.w) X.A (isTrue e X.env (eval e X.env)) (TP X pins σ Q) X.xe s
/-- a test whatever its 'whole' is (and, or) -/
def PW (X : Cx) (e : Expr) (t : TT) : Prop :=
  ∀ (whole : Sem Value) (pins : List (Addr × Obj)) (s : Shared) (σ : St) (H : Hp) (Q : Bool → Hp → Prop), Inv X pins σ H s → t σ H Q → wpAny (model X.prog X.w) X.A (isTrue e X.env whole) (TP X pins σ Q) X.xe s
theorem PW.pt {X : Cx} {e : Expr} {t : TT} (h : PW X e t) : PT X e t := h _
/-- an argument list (no star), from the left -/
def PA (X : Cx) (es : List Expr) (t : TA) : Prop :=
  ∀ (pos : Pos) (pins : List (Addr × Obj)) (s : Shared) (σ : St) (H : Hp) (Q : List V → Hp → Prop), Inv X pins σ H s → t σ H Q → wpAny (model X.prog X.w) X.A (spliced (backTo pos (starEach es X.env))) (AP X pins σ Q) X.xe s
def PS (X : Cx) (st : Stmt) (t : TS) : Prop :=
  ∀ (pins : List (Addr × Obj)) (s : Shared) (σ : St) (H : Hp) (D : Ends), Inv X pins σ H s → t D σ H → wpAny (model X.prog X.w) X.A (exec st X.env) (SP X pins D) X.xe s
def PSs (X : Cx) (st : List Stmt) (t : TS) : Prop :=
  ∀ (pins : List (Addr × Obj)) (s : Shared) (σ : St) (H : Hp) (D : Ends), Inv X pins σ H s → t D σ H → wpAny (model X.prog X.w) X.A (execs st X.env) (SP X pins D) X.xe s
/-- weaken the end -/
theorem thn {α : Type} {t : Sem α} {Q Q' : α → Shared → Prop} {M : Model} {A : Around} {E : Value → Shared → Prop} {s : Shared} (h : wpAny M A t Q E s) (hQ : ∀ a s, Q a s → Q' a s) : wpAny M A t Q' E s := wpAny_mono h hQ fun _ _ x => x
end L2

namespace L2
open PySem PySem.Spec PyProof.Rows
section
variable {X : Cx}

/-- two expressions in a row -/
theorem bin {a b : Expr} {ta tb : TE} (ha : PE X a ta) (hb : PE X b tb) {pins : List (Addr × Obj)} {s : Shared} {σ : St} {H : Hp} {R : V → V → Hp → Prop} (I : Inv X pins σ H s) (h : ta σ H fun x H1 => tb σ H1 fun y H2 => R x y H2)
    {α : Type} {Q : α → Shared → Prop} {f : Value → Value → Sem α}
    (hf : ∀ v u s2 x y H2, Inv X pins σ H2 s2 → RelV x v → RelV y u → R x y H2 → wpAny (model X.prog X.w) X.A (f v u) Q X.xe s2) :
    wpAny (model X.prog X.w) X.A (eval a X.env) (fun v s₁ => wpAny (model X.prog X.w) X.A (eval b X.env) (fun u s₂ => wpAny (model X.prog X.w) X.A (f v u) Q X.xe s₂) X.xe s₁) X.xe s := by
  refine thn (ha pins s σ H _ I h) fun v s1 ⟨x, H1, I1, r1, q1⟩ => ?_
  refine thn (hb pins s1 σ H1 _ I1 q1) fun u s2 ⟨y, H2, I2, r2, q2⟩ => ?_
  exact hf v u s2 x y H2 I2 r1 r2 q2

/-! ### names and constants -/
def tVar (i : Nat) : TE := fun σ H Q => ∃ v, σ[i]? = some (some v) ∧ Q v H
def tC (v : V) : TE := fun _ H Q => Q v H
theorem pe_var {i : Nat} {x : Str} {pos : Pos} (hN : X.N[i]? = some x) (hv : Vis X.env.scope x) (hd : (x == ("__debug__" : Str)) = false := by decide) (hcd : (x == ("__classdict__" : Str)) = false := by decide) : PE X (.Name x pos) (tVar i) := by
  intro pins s σ H Q I h
  obtain ⟨v, e, h⟩ := h
  obtain ⟨m, hn, hl⟩ := I.loc
  obtain ⟨u, r, l⟩ := hl i x v hN e hv
  have fin : EP X pins σ Q u s := ⟨v, H, I, r, h⟩
  rcases l with ⟨hk, hm⟩ | ⟨hk, c, hc, hcell⟩
  · exact wpAny_Name (wpAny_loadName_local I.ok.kind hk hn hm fin) hd
  · rcases hk with hk | hk
    · exact wpAny_Name (wpAny_loadName_cell I.ok.kind hk hc hcell fin) hd
    · exact wpAny_Name (wpAny_loadName_free I.ok.kind hk hc hcell fin hcd) hd
theorem pe_int {i j pos} : PE X (.Constant (.int i) j pos) (tC (.int i)) := fun _ _ _ H _ I h => wpAny_Constant_int ⟨.int i, H, I.tok _, ⟨_, rfl⟩, h⟩
theorem pe_bl {b j pos} : PE X (.Constant (.bool b) j pos) (tC (.bl b)) := fun _ _ _ H _ I h => Constant_bool ⟨.bl b, H, I, rfl, h⟩
theorem pe_non {j pos} : PE X (.Constant .none j pos) (tC .non) := fun _ _ _ H _ I h => Constant_none ⟨.non, H, I, rfl, h⟩
theorem pe_str {x j pos} : PE X (.Constant (.str x) j pos) (tC (.str x)) := fun _ _ _ H _ I h => Calls.Constant_str ⟨.str x, H, I.tok _, ⟨_, rfl⟩, h⟩

/-- a global name of the def -/
def Gl (X : Cx) (x : Str) : Prop := X.env.kindOf x = some .globalImplicit
theorem ld_glob {E : Value → Shared → Prop} {pins : List (Addr × Obj)} {s : Shared} {σ : St} {H : Hp} {x : Str} {u : Value} {pos : Pos} {Q : Value → Shared → Prop} (I : Inv X pins σ H s) (hg : Gl X x) (hm : X.mg x = some u) (h : Q u s)
    (hd : (x == ("__debug__" : Str)) = false := by decide) : wpAny (model X.prog X.w) X.A (eval (.Name x pos) X.env) Q E s :=
  Calls.Name_function_global I.ok.kind hg (Calls.loadGlobal_global (by rw [I.ok.glob]; exact I.mod.glob.keeps I.bk) hm h) hd
theorem ld_blt {E : Value → Shared → Prop} {pins : List (Addr × Obj)} {s : Shared} {σ : St} {H : Hp} {x : Str} {u : Value} {pos : Pos} {Q : Value → Shared → Prop} (I : Inv X pins σ H s) (hg : Gl X x) (hm : X.mg x = none) (hv : bootBuiltins x = some u) (h : Q u s)
    (hn : x ≠ "__name__" := by decide) (hd : (x == ("__debug__" : Str)) = false := by decide) : wpAny (model X.prog X.w) X.A (eval (.Name x pos) X.env) Q E s := by
  obtain ⟨mb, h1, h2⟩ := I.mod.blt
  exact Calls.Name_function_global I.ok.kind hg (Calls.loadGlobal_builtin (by rw [I.ok.glob]; exact I.mod.glob.keeps I.bk) hm (by rw [I.ok.blt]; exact h1.keeps I.bk) ((h2 x hn).trans hv) h) hd
/-- a module's constant, a class, a function, as a value -/
theorem pe_glob {x : Str} {v : V} {u : Value} {pos : Pos} (hg : Gl X x) (hm : X.mg x = some u) (r : RelV v u) (hd : (x == ("__debug__" : Str)) = false := by decide) : PE X (.Name x pos) (tC v) :=
  fun _ _ _ H _ I h => ld_glob I hg hm ⟨v, H, I, r, h⟩ hd
theorem pe_bltn {x : Str} {v : V} {u : Value} {pos : Pos} (hg : Gl X x) (hm : X.mg x = none) (hv : bootBuiltins x = some u) (r : RelV v u) (hn : x ≠ "__name__" := by decide) (hd : (x == ("__debug__" : Str)) = false := by decide) : PE X (.Name x pos) (tC v) :=
  fun _ _ _ H _ I h => ld_blt I hg hm hv ⟨v, H, I, r, h⟩ hn hd

/-! ### arithmetic -/
/-- two ints -/
def t2I (ta tb : TE) (k : Int → Int → Hp → Prop) : St → Hp → Prop := fun σ H => ta σ H fun x H1 => tb σ H1 fun y H2 => ∃ i j, x = .int i ∧ y = .int j ∧ k i j H2
def tAdd (ta tb : TE) : TE := fun σ H Q => t2I ta tb (fun i j H2 => Q (.int (i + j)) H2) σ H
def tSub (ta tb : TE) : TE := fun σ H Q => t2I ta tb (fun i j H2 => Q (.int (i - j)) H2) σ H
/-- the left factor below 2^64 -/
def tMul (ta tb : TE) : TE := fun σ H Q => t2I ta tb (fun i j H2 => (-(2 ^ 64) < i ∧ i < 2 ^ 64) ∧ Q (.int (i * j)) H2) σ H
variable {a b : Expr} {ta tb : TE} {pos : Pos}
theorem pe_add (ha : PE X a ta) (hb : PE X b tb) : PE X (.BinOp a .Add b pos) (tAdd ta tb) := by
  intro pins s σ H Q I h
  refine wpAny_BinOp (bin ha hb I h fun v u s2 x y H2 I2 rx ry q => ?_)
  obtain ⟨i, j, rfl, rfl, q⟩ := q
  obtain ⟨t, rfl⟩ := rx
  obtain ⟨t', rfl⟩ := ry
  exact add_int ⟨.int _, H2, I2.tok _, ⟨_, rfl⟩, q⟩
theorem pe_sub (ha : PE X a ta) (hb : PE X b tb) : PE X (.BinOp a .Sub b pos) (tSub ta tb) := by
  intro pins s σ H Q I h
  refine wpAny_BinOp (bin ha hb I h fun v u s2 x y H2 I2 rx ry q => ?_)
  obtain ⟨i, j, rfl, rfl, q⟩ := q
  obtain ⟨t, rfl⟩ := rx
  obtain ⟨t', rfl⟩ := ry
  exact sub_int ⟨.int _, H2, I2.tok _, ⟨_, rfl⟩, q⟩
theorem pe_mul (ha : PE X a ta) (hb : PE X b tb) : PE X (.BinOp a .Mult b pos) (tMul ta tb) := by
  intro pins s σ H Q I h
  refine wpAny_BinOp (bin ha hb I h fun v u s2 x y H2 I2 rx ry q => ?_)
  obtain ⟨i, j, rfl, rfl, ⟨q1, q2⟩, q⟩ := q
  obtain ⟨t, rfl⟩ := rx
  obtain ⟨t', rfl⟩ := ry
  exact mul_int ⟨.int _, H2, I2.tok _, ⟨_, rfl⟩, q⟩ (.of_left (intBits_le_64 q1 q2))

/-! ### comparisons -/
def PC (X : Cx) (op : CmpOp) (a b : Expr) (t : TE) : Prop :=
  ∀ (pins : List (Addr × Obj)) (s : Shared) (σ : St) (H : Hp) (Q : VK), Inv X pins σ H s → t σ H Q →
    wpAny (model X.prog X.w) X.A (eval a X.env) (fun v s₁ => wpAny (model X.prog X.w) X.A (eval b X.env) (fun u s₂ => wpAny (model X.prog X.w) X.A (compareOp op v u) (EP X pins σ Q) X.xe s₂) X.xe s₁) X.xe s
theorem nobehind (b : Expr) {op : CmpOp} (h : op ≠ .In) (h2 : op ≠ .NotIn) : behindInMarks op b = false := by
  have e1 : (op == CmpOp.In) = false := by cases op <;> first | rfl | exact absurd rfl h
  have e2 : (op == CmpOp.NotIn) = false := by cases op <;> first | rfl | exact absurd rfl h2
  cases b <;> simp [behindInMarks, e1, e2]
def tCmp (p : Int → Int → Bool) (ta tb : TE) : TE := fun σ H Q => t2I ta tb (fun i j H2 => Q (.bl (p i j)) H2) σ H
abbrev tLt : TE → TE → TE := tCmp fun i j => decide (i < j)
abbrev tLe : TE → TE → TE := tCmp fun i j => decide (i ≤ j)
abbrev tGt : TE → TE → TE := tCmp fun i j => decide (j < i)
abbrev tGe : TE → TE → TE := tCmp fun i j => decide (j ≤ i)
abbrev tEqI : TE → TE → TE := tCmp fun i j => decide (i = j)
abbrev tNeI : TE → TE → TE := tCmp fun i j => !decide (i = j)
/-- a comparison of two ints, by its rule -/
theorem pc_int {op : CmpOp} {p : Int → Int → Bool} (ha : PE X a ta) (hb : PE X b tb)
    (rule : ∀ (i j : Int) (t u : Tok) (Q : Value → Shared → Prop) (s : Shared), Q (.bool (p i j)) s → wpAny (model X.prog X.w) X.A (compareOp op (.int i t) (.int j u)) Q X.xe s) : PC X op a b (tCmp p ta tb) := by
  intro pins s σ H Q I h
  refine bin ha hb I h fun v u s2 x y H2 I2 rx ry q => ?_
  obtain ⟨i, j, rfl, rfl, q⟩ := q
  obtain ⟨t, rfl⟩ := rx
  obtain ⟨t', rfl⟩ := ry
  exact rule i j t t' _ s2 ⟨.bl _, H2, I2, rfl, q⟩
theorem pc_lt (ha : PE X a ta) (hb : PE X b tb) : PC X .Lt a b (tLt ta tb) := pc_int ha hb fun _ _ _ _ _ _ h => lt_int h
theorem pc_le (ha : PE X a ta) (hb : PE X b tb) : PC X .LtE a b (tLe ta tb) := pc_int ha hb fun _ _ _ _ _ _ h => le_int h
theorem pc_gt (ha : PE X a ta) (hb : PE X b tb) : PC X .Gt a b (tGt ta tb) := pc_int ha hb fun _ _ _ _ _ _ h => gt_int h
theorem pc_ge (ha : PE X a ta) (hb : PE X b tb) : PC X .GtE a b (tGe ta tb) := pc_int ha hb fun _ _ _ _ _ _ h => ge_int h
theorem pc_eqI (ha : PE X a ta) (hb : PE X b tb) : PC X .Eq a b (tEqI ta tb) := pc_int ha hb fun _ _ _ _ _ _ h => eq_int (by rw [Bool.beq_eq_decide_eq]; exact h)
theorem pc_neI (ha : PE X a ta) (hb : PE X b tb) : PC X .NotEq a b (tNeI ta tb) := pc_int ha hb fun _ _ _ _ _ _ h => ne_int (by rw [bne, Bool.beq_eq_decide_eq]; exact h)
/-- is None -/
def tIsN (ta : TE) : TE := fun σ H Q => ta σ H fun x H1 => Q (.bl (decide (x = .non))) H1
def tNotN (ta : TE) : TE := fun σ H Q => ta σ H fun x H1 => Q (.bl (!decide (x = .non))) H1
theorem RelV.none_iff {x : V} {v : Value} (r : RelV x v) : (v == Value.none) = decide (x = .non) := by
  cases x with
  | non => cases r; rfl
  | bl _ => cases r; rfl
  | int _ => obtain ⟨t, rfl⟩ := r; rfl
  | str _ => obtain ⟨t, rfl⟩ := r; rfl
  | byt _ => obtain ⟨t, rfl⟩ := r; rfl
  | flt _ => obtain ⟨t, rfl⟩ := r; rfl
  | ref _ => cases r; rfl
  | ty _ => cases r; rfl
theorem pc_isN {j pos'} (ha : PE X a ta) : PC X .Is a (.Constant .none j pos') (tIsN ta) := by
  intro pins s σ H Q I h
  refine thn (ha pins s σ H _ I h) fun v s1 ⟨x, H1, I1, r1, q1⟩ => ?_
  exact Constant_none (is_none_gen ⟨.bl _, H1, I1, by rw [r1.none_iff]; rfl, q1⟩)
theorem pc_notN {j pos'} (ha : PE X a ta) : PC X .IsNot a (.Constant .none j pos') (tNotN ta) := by
  intro pins s σ H Q I h
  refine thn (ha pins s σ H _ I h) fun v s1 ⟨x, H1, I1, r1, q1⟩ => ?_
  exact Constant_none (isnot_none_gen ⟨.bl _, H1, I1, by rw [r1.none_iff]; rfl, q1⟩)
/-- a comparison as a value, as a test -/
def tB (t : TE) : TT := fun σ H Q => t σ H fun x H1 => ∃ c, x = .bl c ∧ Q c H1
theorem pe_cmp {op : CmpOp} {t : TE} (h : PC X op a b t) (h1 : behindInMarks op b = false := by first | exact nobehind _ (by decide) (by decide) | rfl) : PE X (.Compare a [op] [b] pos) t := fun pins s σ H Q I hw => wpAny_Compare1 (h pins s σ H Q I hw) h1
theorem pt_cmp {op : CmpOp} {t : TE} (h : PC X op a b t) (h1 : behindInMarks op b = false := by first | exact nobehind _ (by decide) (by decide) | rfl) : PT X (.Compare a [op] [b] pos) (tB t) := by
  intro pins s σ H Q I hw
  refine wpAny_isTrue_Compare1 (thn (h pins s σ H _ I hw) fun v s1 h1 => thn h1 fun u s2 h2 => thn h2 fun c s3 ⟨x, H1, I1, r1, q1⟩ => ?_) h1
  obtain ⟨d, rfl, q⟩ := q1
  cases r1
  exact wpAny_truthy_bool ⟨H1, I1, q⟩
/-- an expression whose value is a bool, as a test -/
theorem pt_val {e : Expr} {t : TE} (h : PE X e t) (he : ∀ whole, isTrue e X.env whole = (do let v ← whole; standAt e.pos; holding [v] (truthy v)) := by intro _; rfl) : PT X e (tB t) := by
  intro pins s σ H Q I hw
  refine isTrue_plain (thn (h pins s σ H _ I hw) fun v s1 ⟨x, H1, I1, r1, q1⟩ => ?_) (he _)
  obtain ⟨d, rfl, q⟩ := q1
  cases r1
  exact wpAny_truthy_bool ⟨H1, I1, q⟩

/-! ### and, or, not -/
variable {tA tB' : TT} {rest : List Expr}
def tAnd (t u : TT) : TT := fun σ H Q => t σ H fun c H1 => if c = true then u σ H1 Q else Q false H1
def tOr (t u : TT) : TT := fun σ H Q => t σ H fun c H1 => if c = true then Q true H1 else u σ H1 Q
def tNot (t : TT) : TT := fun σ H Q => t σ H fun c H1 => Q (!c) H1
theorem pw_and1 (ha : PT X a tA) : PW X (.BoolOp .And [a] pos) tA := by
  intro wh pins s σ H Q I h
  refine isTrue_and (thn (ha pins s σ H Q I h) fun c s1 e => ?_)
  cases c with
  | true => exact isTrue_and_nil e
  | false => exact e
theorem pw_or1 (ha : PT X a tA) : PW X (.BoolOp .Or [a] pos) tA := by
  intro wh pins s σ H Q I h
  refine isTrue_or (thn (ha pins s σ H Q I h) fun c s1 e => ?_)
  cases c with
  | false => exact isTrue_or_nil e
  | true => exact e
theorem pw_and (ha : PT X a tA) (hb : PW X (.BoolOp .And (b :: rest) pos) tB') : PW X (.BoolOp .And (a :: b :: rest) pos) (tAnd tA tB') := by
  intro wh pins s σ H Q I h
  refine isTrue_and (thn (ha pins s σ H _ I h) fun c s1 ⟨H1, I1, q1⟩ => ?_)
  cases c with
  | true => exact hb wh pins s1 σ H1 Q I1 q1
  | false => exact ⟨H1, I1, q1⟩
theorem pw_or (ha : PT X a tA) (hb : PW X (.BoolOp .Or (b :: rest) pos) tB') : PW X (.BoolOp .Or (a :: b :: rest) pos) (tOr tA tB') := by
  intro wh pins s σ H Q I h
  refine isTrue_or (thn (ha pins s σ H _ I h) fun c s1 ⟨H1, I1, q1⟩ => ?_)
  cases c with
  | true => exact ⟨H1, I1, q1⟩
  | false => exact hb wh pins s1 σ H1 Q I1 q1
theorem pt_not (ha : PT X a tA) : PT X (.UnaryOp .Not a pos) (tNot tA) := by
  intro pins s σ H Q I h
  exact isTrue_not (ha pins s σ H (fun c H1 => Q (!c) H1) I h)
/-- .. as values (bools) -/
def tAndV (ta tb : TE) : TE := fun σ H Q => ta σ H fun x H1 => ∃ c, x = .bl c ∧ if c = true then tb σ H1 Q else Q (.bl false) H1
def tOrV (ta tb : TE) : TE := fun σ H Q => ta σ H fun x H1 => ∃ c, x = .bl c ∧ if c = true then Q (.bl true) H1 else tb σ H1 Q
def tNotV (ta : TE) : TE := fun σ H Q => ta σ H fun x H1 => ∃ c, x = .bl c ∧ Q (.bl (!c)) H1
theorem pe_one {op} {t : TE} (h : PE X a t) : PE X (.BoolOp op [a] pos) t := fun pins s σ H Q I hw => BoolOp_one (h pins s σ H Q I hw)
theorem pe_and (ha : PE X a ta) (hb : PE X (.BoolOp .And (b :: rest) pos) tb) : PE X (.BoolOp .And (a :: b :: rest) pos) (tAndV ta tb) := by
  intro pins s σ H Q I h
  refine BoolOp_and (thn (ha pins s σ H _ I h) fun v s1 ⟨x, H1, I1, r1, q1⟩ => ?_)
  obtain ⟨c, rfl, q1⟩ := q1
  cases r1
  refine wpAny_truthy_bool ?_
  cases c with
  | true => exact hb pins s1 σ H1 Q I1 q1
  | false => exact ⟨.bl false, H1, I1, rfl, q1⟩
theorem pe_or (ha : PE X a ta) (hb : PE X (.BoolOp .Or (b :: rest) pos) tb) : PE X (.BoolOp .Or (a :: b :: rest) pos) (tOrV ta tb) := by
  intro pins s σ H Q I h
  refine BoolOp_or (thn (ha pins s σ H _ I h) fun v s1 ⟨x, H1, I1, r1, q1⟩ => ?_)
  obtain ⟨c, rfl, q1⟩ := q1
  cases r1
  refine wpAny_truthy_bool ?_
  cases c with
  | false => exact hb pins s1 σ H1 Q I1 q1
  | true => exact ⟨.bl true, H1, I1, rfl, q1⟩
theorem pe_not (ha : PE X a ta) : PE X (.UnaryOp .Not a pos) (tNotV ta) := by
  intro pins s σ H Q I h
  refine UnaryOp_ (thn (ha pins s σ H _ I h) fun v s1 ⟨x, H1, I1, r1, q1⟩ => ?_)
  obtain ⟨c, rfl, q1⟩ := q1
  cases r1
  exact not_of (wpAny_truthy_bool ⟨.bl (!c), H1, I1, rfl, q1⟩)
/-- a if t else b -/
def tIf (t : TT) (ta tb : TE) : TE := fun σ H Q => t σ H fun c H1 => if c = true then ta σ H1 Q else tb σ H1 Q
theorem pe_ifExp {c : Expr} (hc : PT X c tA) (ha : PE X a ta) (hb : PE X b tb) : PE X (.IfExp c a b pos) (tIf tA ta tb) := by
  intro pins s σ H Q I h
  refine wpAny_IfExp (thn (hc pins s σ H _ I h) fun d s1 ⟨H1, I1, q1⟩ => ?_)
  cases d with
  | true => exact ha pins s1 σ H1 Q I1 q1
  | false => exact hb pins s1 σ H1 Q I1 q1
end
end L2

namespace L2
open PySem PySem.Spec PyProof.Rows

/-! ### a list, a tuple that is read: tracked, frozen, or an object of the module -/
def SqL (K : PySem.W.Frag) (H : Hp) (a : Addr) (xs : List V) : Prop :=
  Rd H a (.lst xs) ∨
    ∃ (o : Obj) (its : Array Value) (n : Nat), K.lookup a = some o ∧ o.cls = .type "list" ∧ o.dict = none ∧ o.data = .seq its n ∧ its.size ≤ sizeLine ∧ Vals xs its.toList
def SqT (K : PySem.W.Frag) (H : Hp) (a : Addr) (xs : List V) : Prop :=
  Rd H a (.tup xs) ∨
    ∃ (o : Obj) (its : Array Value) (n : Nat), K.lookup a = some o ∧ o.cls = .type "tuple" ∧ o.data = .seq its n ∧ its.size ≤ sizeLine ∧ Vals xs its.toList
def absV : Value → Option V
  | .none => some .non
  | .bool b => some (.bl b)
  | .int i _ => some (.int i)
  | .str x _ => some (.str x)
  | .bytes b _ => some (.byt b)
  | .float b _ => some (.flt b)
  | .ref a => some (.ref a)
  | .type n => some (.ty n)
  | _ => none
theorem RelV.abs {x : V} {u : Value} (r : RelV x u) : absV u = some x := by
  cases x with
  | non => cases r; rfl
  | bl _ => cases r; rfl
  | int _ => obtain ⟨t, rfl⟩ := r; rfl
  | str _ => obtain ⟨t, rfl⟩ := r; rfl
  | byt _ => obtain ⟨t, rfl⟩ := r; rfl
  | flt _ => obtain ⟨t, rfl⟩ := r; rfl
  | ref _ => cases r; rfl
  | ty _ => cases r; rfl
theorem RelV.inj {x y : V} {u : Value} (r : RelV x u) (q : RelV y u) : x = y := Option.some.inj (r.abs.symm.trans q.abs)
theorem Vals.inj : ∀ {xs ys : List V} {us : List Value}, Vals xs us → Vals ys us → xs = ys
  | _, _, _, .nil, .nil => rfl
  | _, _, _, .cons r t, .cons r' t' => by rw [r.inj r', Vals.inj t t']
section
variable {X : Cx} {pins : List (Addr × Obj)} {σ : St} {H : Hp} {s : Shared} {a : Addr} {xs ys : List V}
theorem SqL.of {K : PySem.W.Frag} (h : H a = some (.lst xs)) : SqL K H a xs := .inl (.inl h)
theorem SqT.of {K : PySem.W.Frag} (h : H a = some (.tup xs)) : SqT K H a xs := .inl (.inl h)
theorem Inv.list (I : Inv X pins σ H s) (h : SqL X.K H a xs) : ∃ its : List Value, Vals xs its ∧ PlainL s.heap a its.toArray ∧ xs.length ≤ sizeLine := by
  rcases h with h | ⟨o, its, n, hk, hc, hd, hs, hz, r⟩
  · obtain ⟨z, its, n, r, e⟩ := h.ok I.hok
    exact ⟨its, r, ⟨_, n, e, rfl, rfl, rfl⟩, z⟩
  · refine ⟨its.toList, r, ⟨o, n, I.kIn a o hk, hc, hd, by simpa using hs⟩, ?_⟩
    have e := r.length
    simp only [Array.length_toList] at e
    omega
theorem Inv.tuple (I : Inv X pins σ H s) (h : SqT X.K H a xs) : ∃ its : List Value, Vals xs its ∧ IsTup s.heap a its.toArray ∧ xs.length ≤ sizeLine := by
  rcases h with h | ⟨o, its, n, hk, hc, hs, hz, r⟩
  · obtain ⟨z, its, r, p⟩ := h.ok I.hok
    exact ⟨its, r, p, z⟩
  · refine ⟨its.toList, r, ⟨o, I.kIn a o hk, hc, n, by simpa using hs⟩, ?_⟩
    have e := r.length
    simp only [Array.length_toList] at e
    omega
theorem Inv.list_inj (I : Inv X pins σ H s) (h : SqL X.K H a xs) (h' : SqL X.K H a ys) : xs = ys := by
  obtain ⟨its, r, ⟨o, n, e, _, _, d⟩, _⟩ := I.list h
  obtain ⟨its', r', ⟨o', n', e', _, _, d'⟩, _⟩ := I.list h'
  rw [e] at e'; cases e'
  rw [d] at d'
  injection d' with d1 _
  have : its = its' := by simpa using congrArg Array.toList d1
  subst this
  exact r.inj r'
theorem Inv.tuple_inj (I : Inv X pins σ H s) (h : SqT X.K H a xs) (h' : SqT X.K H a ys) : xs = ys := by
  obtain ⟨its, r, ⟨o, e, _, n, d⟩, _⟩ := I.tuple h
  obtain ⟨its', r', ⟨o', e', _, n', d'⟩, _⟩ := I.tuple h'
  rw [e] at e'; cases e'
  rw [d] at d'
  injection d' with d1 _
  have : its = its' := by simpa using congrArg Array.toList d1
  subst this
  exact r.inj r'
end

/-! ### another wish about exceptions -/
abbrev Cx.wish (X : Cx) (E : Value → Shared → Prop) : Cx := { X with xe := E }
/-- no exception leaves -/
abbrev Cx.nox (X : Cx) : Cx := X.wish fun _ _ => False
theorem Cx.Ok.wish {X : Cx} (ok : X.Ok) (E : Value → Shared → Prop) : (X.wish E).Ok :=
  ⟨ok.mod, ok.kind, ok.glob, ok.blt, ok.above, ok.inj, ok.has, ok.cab, ok.hd, ok.frames, ok.stk, ok.exf, ok.bs, ok.bsz, ok.noex, ok.exfs, ok.funs, ok.frf⟩
theorem Cx.Ok.unwish {X : Cx} {E : Value → Shared → Prop} (ok : (X.wish E).Ok) : X.Ok :=
  ⟨ok.mod, ok.kind, ok.glob, ok.blt, ok.above, ok.inj, ok.has, ok.cab, ok.hd, ok.frames, ok.stk, ok.exf, ok.bs, ok.bsz, ok.noex, ok.exfs, ok.funs, ok.frf⟩
section
variable {X : Cx} {pins : List (Addr × Obj)} {σ : St} {H : Hp} {s : Shared} {E : Value → Shared → Prop}
theorem Inv.wish (I : Inv X pins σ H s) (E : Value → Shared → Prop) : Inv (X.wish E) pins σ H s := ⟨I.ok.wish E, I.os, I.bare, I.base, I.loc, I.cell, I.free, I.freeC, I.pin, I.hok, I.len⟩
theorem Inv.unwish (I : Inv (X.wish E) pins σ H s) : Inv X pins σ H s := ⟨I.ok.unwish, I.os, I.bare, I.base, I.loc, I.cell, I.free, I.freeC, I.pin, I.hok, I.len⟩
theorem SP.unwish {D : Ends} {f : Flow} {s' : Shared} (h : SP (X.wish E) pins D f s') : SP X pins D f s' := by
  cases f with
  | next => obtain ⟨σ', H', I, q⟩ := h; exact ⟨σ', H', I.unwish, q⟩
  | brk => obtain ⟨σ', H', I, q⟩ := h; exact ⟨σ', H', I.unwish, q⟩
  | cont => obtain ⟨σ', H', I, q⟩ := h; exact ⟨σ', H', I.unwish, q⟩
  | ret u => obtain ⟨v, σ', H', I, r, q⟩ := h; exact ⟨v, σ', H', I.unwish, r, q⟩
theorem PE.nox {e : Expr} {t : TE} (h : PE X.nox e t) : PE X e t := fun pins s σ H Q I hw =>
  wpAny_mono (h pins s σ H Q (I.wish _) hw) (fun _ _ ⟨v, H', I', r, q⟩ => ⟨v, H', I'.unwish, r, q⟩) fun _ _ z => False.elim z
theorem PT.nox {e : Expr} {t : TT} (h : PT X.nox e t) : PT X e t := fun pins s σ H Q I hw =>
  wpAny_mono (h pins s σ H Q (I.wish _) hw) (fun _ _ ⟨H', I', q⟩ => ⟨H', I'.unwish, q⟩) fun _ _ z => False.elim z
theorem PSs.nox {st : List Stmt} {t : TS} (h : PSs X.nox st t) : PSs X st t := fun pins s σ H D I hw =>
  wpAny_mono (h pins s σ H D (I.wish _) hw) (fun _ _ q => q.unwish) fun _ _ z => False.elim z
end

/-! ### blocks and small statements -/
section
variable {X : Cx} {st : Stmt} {rest : List Stmt} {t u : TS} {e : Expr} {te : TE} {pos : Pos}
def tNext : TS := fun D σ H => D.nx σ H
def tSeq (t u : TS) : TS := fun D σ H => t { D with nx := u D } σ H
theorem pss_nil : PSs X [] tNext := fun _ _ σ H _ I h => wpAny_execs_nil ⟨σ, H, I, h⟩
theorem pss_cons (h1 : PS X st t) (h2 : PSs X rest u) : PSs X (st :: rest) (tSeq t u) := by
  intro pins s σ H D I h
  refine wpAny_execs_cons (thn (h1 pins s σ H { D with nx := u D } I h) fun f s1 q => ?_)
  cases f with
  | next =>
    obtain ⟨σ', H', I', q⟩ := q
    exact h2 pins s1 σ' H' D I' q
  | ret v => exact q
  | brk => exact q
  | cont => exact q
theorem pss_one (h1 : PS X st t) : PSs X [st] t := by
  intro pins s σ H D I h
  refine wpAny_execs_cons (thn (h1 pins s σ H D I h) fun f s1 q => ?_)
  cases f with
  | next => exact wpAny_execs_nil q
  | ret v => exact q
  | brk => exact q
  | cont => exact q
def tBreak : TS := fun D σ H => D.bk σ H
def tCont : TS := fun D σ H => D.ct σ H
theorem ps_pass : PS X (.Pass pos) tNext := fun _ _ σ H _ I h => wpAny_Pass ⟨σ, H, I, h⟩
theorem ps_break : PS X (.Break pos) tBreak := fun _ _ σ H _ I h => wpAny_Break ⟨σ, H, I, h⟩
theorem ps_continue : PS X (.Continue pos) tCont := fun _ _ σ H _ I h => wpAny_Continue ⟨σ, H, I, h⟩
/-- in a def's body nothing is shown -/
theorem Inv.quiet {pins : List (Addr × Obj)} {σ : St} {H : Hp} {s : Shared} (I : Inv X pins σ H s) : interactive X.env = false := by simp [interactive, I.ok.kind]
/-- a docstring -/
theorem ps_doc {x j pos pos'} : PS X (.Expr (.Constant (.str x) j pos) pos') tNext := fun _ s σ H _ I h => wpAny_Expr (Calls.Constant_str (show SP X _ _ .next { s with toks := s.toks + 1 } from ⟨σ, H, I.tok _, h⟩)) I.quiet
/-- an expression whose value is dropped -/
def tDrop (te : TE) : TS := fun D σ H => te σ H fun _ H1 => D.nx σ H1
theorem ps_expr (he : PE X e te) (hs : swapsWith e none pos.line X.env = pure false := by rfl) : PS X (.Expr e pos) (tDrop te) := by
  intro pins s σ H D I h
  exact wpAny_Expr_any (thn (he pins s σ H _ I h) fun v s1 ⟨x, H1, I1, r1, q1⟩ => ⟨σ, H1, I1, q1⟩) I.quiet hs
def tRet (te : TE) : TS := fun D σ H => te σ H D.rt
theorem ps_ret (he : PE X e te) : PS X (.Return (some e) pos) (tRet te) := by
  intro pins s σ H D I h
  exact wpAny_Return_some (thn (he pins s σ H _ I h) fun v s1 ⟨x, H1, I1, r1, q1⟩ => ⟨x, σ, H1, I1, r1, q1⟩)
def tRetN : TS := fun D _ H => D.rt .non H
theorem ps_retN : PS X (.Return none pos) tRetN := fun _ _ σ H _ I h => wpAny_Return_none ⟨.non, σ, H, I, rfl, h⟩
def tIfS (c : TT) (t u : TS) : TS := fun D σ H => c σ H fun b H1 => if b = true then t D σ H1 else u D σ H1
theorem ps_if {c : Expr} {a b : List Stmt} {tc : TT} (hc : PT X c tc) (ha : PSs X a t) (hb : PSs X b u) : PS X (.If c a b pos) (tIfS tc t u) := by
  intro pins s σ H D I h
  refine wpAny_If (thn (hc pins s σ H _ I h) fun d s1 ⟨H1, I1, q1⟩ => ?_)
  cases d with
  | true => exact ha pins s1 σ H1 D I1 q1
  | false => exact hb pins s1 σ H1 D I1 q1
/-- code that the proof never comes to -/
def tNever : TS := fun _ _ _ => False
theorem ps_never : PS X st tNever := fun _ _ _ _ _ _ h => h.elim
theorem pss_never {sts : List Stmt} : PSs X sts tNever := fun _ _ _ _ _ _ h => h.elim
end

/-! ### targets -/
abbrev TG := V → St → Hp → (St → Hp → Prop) → Prop
abbrev TGs := List V → St → Hp → (St → Hp → Prop) → Prop
def PG (X : Cx) (target : Expr) (t : TG) : Prop :=
  ∀ (pins : List (Addr × Obj)) (s : Shared) (σ : St) (H : Hp) (v : V) (u : Value) (Q : St → Hp → Prop), Inv X pins σ H s → RelV v u → t v σ H Q →
    wpAny (model X.prog X.w) X.A (assign target X.env u) (fun _ s' => ∃ σ' H', Inv X pins σ' H' s' ∧ Q σ' H') X.xe s
/-- several targets, one after another -/
def PGs (X : Cx) (ts : List Expr) (t : TGs) : Prop :=
  ∀ (pins : List (Addr × Obj)) (s : Shared) (σ : St) (H : Hp) (vs : List V) (us : List Value) (Q : St → Hp → Prop), Inv X pins σ H s → Vals vs us → t vs σ H Q →
    wpAny (model X.prog X.w) X.A (assignInOrder ((assignEach ts X.env).map (·.2)) us) (fun _ s' => ∃ σ' H', Inv X pins σ' H' s' ∧ Q σ' H') X.xe s
/-- o[i] = v, by values -/
abbrev TSet := V → V → V → Hp → (Hp → Prop) → Prop
def PSet (X : Cx) (t : TSet) : Prop :=
  ∀ (pins : List (Addr × Obj)) (s : Shared) (σ : St) (H : Hp) (o i v : V) (ov iv u : Value) (Q : Hp → Prop), Inv X pins σ H s → RelV o ov → RelV i iv → RelV v u → t o i v H Q →
    wpAny (model X.prog X.w) X.A (setItem ov iv u) (fun _ s' => ∃ H', Inv X pins σ H' s' ∧ Q H') X.xe s
/-- a op= b, by values -/
abbrev TIp := V → V → Hp → VK → Prop
def PIp (X : Cx) (op : Operator) (t : TIp) : Prop :=
  ∀ (pins : List (Addr × Obj)) (s : Shared) (σ : St) (H : Hp) (x y : V) (v u : Value) (Q : VK), Inv X pins σ H s → RelV x v → RelV y u → t x y H Q →
    wpAny (model X.prog X.w) X.A (inplaceOp op v u) (EP X pins σ Q) X.xe s
section
variable {X : Cx} {pos : Pos}
def gName (i : Nat) : TG := fun v σ H Q => Q (σ.set i (some v)) H
theorem pg_name {i : Nat} {x : Str} (hN : X.N.Nodup) (hi : X.N[i]? = some x) (hx : Loc X.env.scope x) (hf : X.fn x = true ∨ X.env.scope.names.lookup x = some .local := by first | exact .inl rfl | exact .inr rfl | assumption) : PG X (.Name x pos) (gName i) := by
  intro pins s σ H v u Q I r h
  exact wpAny_assign_Name (store_ok I hN hi hx r (fun s' I' => ⟨_, H, I', h⟩) hf)
def gNil : TGs := fun vs σ H Q => vs = [] ∧ Q σ H
def gCons (t : TG) (u : TGs) : TGs := fun vs σ H Q => ∃ v r, vs = v :: r ∧ t v σ H fun σ' H' => u r σ' H' Q
theorem pgs_nil : PGs X [] gNil := by
  intro pins s σ H vs us Q I r h
  obtain ⟨e, h⟩ := h
  subst e
  cases r
  exact assignInOrder_nil ⟨σ, H, I, h⟩
theorem pgs_cons {e : Expr} {es : List Expr} {t : TG} {u : TGs} (h1 : PG X e t) (h2 : PGs X es u)
    (hs : (assignEach (e :: es) X.env).map (·.2) = assign e X.env :: (assignEach es X.env).map (·.2) := by rfl) : PGs X (e :: es) (gCons t u) := by
  intro pins s σ H vs us Q I r h
  obtain ⟨v, vr, e1, h⟩ := h
  subst e1
  cases r with
  | cons r rr =>
    rw [hs]
    refine assignInOrder_cons (thn (h1 pins s σ H _ _ _ I r h) fun _ s1 ⟨σ1, H1, I1, q1⟩ => ?_)
    exact h2 pins s1 σ1 H1 _ _ Q I1 rr q1
/-- (a, b, ..) = a tuple of that length -/
def gTup (K : PySem.W.Frag) (n : Nat) (t : TGs) : TG := fun v σ H Q => ∃ a xs, v = .ref a ∧ SqT K H a xs ∧ xs.length = n ∧ t xs σ H Q
theorem pg_tup {es : List Expr} {k : Nat} {t : TGs} {n : Nat} (hc : X.calm = true) (h : PGs X es t)
    (hn : (assignEach es X.env).length = n := by rfl) (hst : (assignEach es X.env).findIdx? (·.1) = none := by rfl) : PG X (.Tuple es k pos) (gTup X.K n t) := by
  intro pins s σ H v u Q I r hw
  obtain ⟨a, xs, e1, hq, hl, hw⟩ := hw
  subst e1
  cases r
  obtain ⟨its, rv, ht, hz⟩ := I.tuple hq
  refine assign_Tuple_tuple (I.ok.hd hc) ht (by simp [hn, ← hl, rv.length]) hst fun h' hx => ?_
  have I1 : Inv X pins σ H { s with heap := h' } := I.kept (t' := s.toks) fun b o e => hx b o (Nat.ne_of_lt (Heap.lt_size e)) e
  exact h pins _ σ H xs _ Q I1 (by simpa using rv) hw
/-- o[i] = .. -/
def gSub (to ti : TE) (t : TSet) : TG := fun v σ H Q => to σ H fun o H1 => ti σ H1 fun i H2 => t o i v H2 fun H3 => Q σ H3
theorem pg_sub {o i : Expr} {to ti : TE} {t : TSet} (ho : PE X o to) (hi : PE X i ti) (hs : PSet X t)
    (ha : ∀ v, assign (.Subscript o i pos) X.env v = (do
      let ov ← holding [v] (eval o X.env)
      let iv ← holding [v, ov] (eval i X.env)
      standAt pos
      holding [v, ov, iv] (setItem ov iv v)
      release [v, ov, iv] []) := by intro _; rfl) : PG X (.Subscript o i pos) (gSub to ti t) := by
  intro pins s σ H v u Q I r h
  rw [ha]
  refine wpAny_bind (wpAny_holding (thn (ho pins s σ H _ I h) fun ov s1 ⟨x, H1, I1, r1, q1⟩ => ?_))
  refine wpAny_bind (wpAny_holding (thn (hi pins s1 σ H1 _ I1 q1) fun iv s2 ⟨y, H2, I2, r2, q2⟩ => ?_))
  refine wpAny_bind (wpAny_standAt (wpAny_bind (wpAny_holding (thn (hs pins s2 σ H2 x y v ov iv u _ I2 r1 r2 r q2) fun _ s3 ⟨H3, I3, q3⟩ => ?_))))
  exact wpAny_release ⟨σ, H3, I3, q3⟩
/-- target = value -/
def tAsg (te : TE) (g : TG) : TS := fun D σ H => te σ H fun x H1 => g x σ H1 D.nx
theorem ps_asg {tg e : Expr} {te : TE} {g : TG} (he : PE X e te) (hg : PG X tg g) (hs : swapsWithSole [tg] e pos.line X.env = pure false := by rfl) (hw : swappedStores [tg] e X.env = pure none := by rfl)
    (h1 : (assignEach [tg] X.env).map (·.2) = [assign tg X.env] := by rfl) : PS X (.Assign [tg] e pos) (tAsg te g) := by
  intro pins s σ H D I h
  refine wpAny_Assign_stores (thn (he pins s σ H _ I h) fun v s1 ⟨x, H1, I1, r1, q1⟩ => ?_) hs hw
  rw [h1]
  exact thn (hg pins s1 σ H1 x v _ I1 r1 q1) fun _ s2 q => q
/-- name = value -/
theorem ps_set {i : Nat} {x : Str} {e : Expr} {te : TE} {pos' : Pos} (hN : X.N.Nodup) (hi : X.N[i]? = some x) (hx : Loc X.env.scope x) (he : PE X e te) (hs : swapsWith e (some (.Name x pos')) pos.line X.env = pure false := by rfl) (hf : X.fn x = true ∨ X.env.scope.names.lookup x = some .local := by first | exact .inl rfl | exact .inr rfl | assumption) :
    PS X (.Assign [.Name x pos'] e pos) (tAsg te (gName i)) := by
  intro pins s σ H D I h
  refine wpAny_Assign_Name (thn (he pins s σ H _ I h) fun v s1 ⟨y, H1, I1, r1, q1⟩ => ?_) hs
  exact store_ok I1 hN hi hx r1 (fun s2 I2 => ⟨_, H1, I2, q1⟩) hf
/-- a, b = x, y with plain local names: stored from the right; the pair itself is not tracked (the opening rows as in PyProof/Rows/TupAssign.lean:23) -/
def tPar (i j : Nat) (ta : TA) : TS := fun D σ H => ta σ H fun vs H1 => ∃ v w, vs = [v, w] ∧ D.nx ((σ.set i (some v)).set j (some w)) H1
theorem ps_par {i j : Nat} {x y : Str} {a b : Expr} {ta : TA} {px py pt : Pos} {kt k2 pt2} (hc : X.calm = true) (hN : X.N.Nodup) (hi : X.N[i]? = some x) (hj : X.N[j]? = some y) (hij : i ≠ j)
    (hx : X.env.scope.names.lookup x = some .local) (hy : X.env.scope.names.lookup y = some .local) (ha : PA X [a, b] ta)
    (hw : swappedStores [.Tuple [.Name x px, .Name y py] kt pt] (.Tuple [a, b] k2 pt2) X.env = pure (some [x, y]))
    (hs : swapsWithSole [.Tuple [.Name x px, .Name y py] kt pt] (.Tuple [a, b] k2 pt2) pos.line X.env = pure false := by rfl) :
    PS X (.Assign [.Tuple [.Name x px, .Name y py] kt pt] (.Tuple [a, b] k2 pt2) pos) (tPar i j ta) := by
  intro pins s σ H D I h
  rw [exec_Assign_arm]
  refine wpAny_bind (wpAny_standAt ?_)
  rw [hs]
  refine wpAny_bind (wpAny_pure ?_)
  rw [if_neg (by decide)]
  refine wpAny_bind (Tuple_ (thn (ha _ pins s σ H _ I h) fun us s1 ⟨vs, H1, I1, r1, q1⟩ => ?_))
  obtain ⟨v, w, e1, q1⟩ := q1
  subst e1
  obtain ⟨u1, u2, rfl, rv, rw'⟩ : ∃ u1 u2, us = [u1, u2] ∧ RelV v u1 ∧ RelV w u2 := by
    cases r1 with
    | cons p q =>
      cases q with
      | cons p' q' =>
        cases q'
        exact ⟨_, _, rfl, p, p'⟩
  refine wpAny_newObj_type ?_ (by show 2 ≤ sizeLine; decide)
  have I2 : Inv X pins σ H1 { s1 with heap := s1.heap.push { cls := .type "tuple", data := .seq [u1, u2].toArray } } := I1.kept (t' := s1.toks) fun b o e => Heap.get?_push_of_some _ e
  rw [hw]
  refine wpAny_bind (wpAny_pure ?_)
  show wpAny (model X.prog X.w) X.A (do rule "assign.swapped-stores"; let items ← unpackItems (.ref s1.heap.objs.size) 2 none; assignInOrder [fun v => bindName X.env y v, fun v => bindName X.env x v] items.reverse; pure Flow.next) _ _ _
  refine wpAny_bind (wpAny_rule (wpAny_bind (unpackItems_tuple (items := #[u1, u2]) (I.ok.hd hc) (IsTup.new s1.heap _) fun h' hx' => ?_)))
  have I3 := I2.kept (h' := h') (t' := s1.toks) fun b o e => hx' b o (Nat.ne_of_lt (Heap.lt_size e)) e
  show wpAny _ _ (assignInOrder [fun v => bindName X.env y v, fun v => bindName X.env x v] [u2, u1] >>= fun _ => pure Flow.next) _ _ _
  refine wpAny_bind (assignInOrder_cons (wpAny_bindName (store_ok I3 hN hj (.inl hy) rw' (fun s2 I4 => ?_) (.inr hy))))
  refine assignInOrder_cons (wpAny_bindName (store_ok I4 hN hi (.inl hx) rv (fun s3 I5 => assignInOrder_nil (wpAny_pure ?_)) (.inr hx)))
  rw [List.set_comm _ _ (Ne.symm hij)] at I5
  exact ⟨_, H1, I5, q1⟩
/-- name op= e -/
def tAug (i : Nat) (te : TE) (ti : TIp) : TS := fun D σ H => ∃ x, σ[i]? = some (some x) ∧ te σ H fun y H1 => ti x y H1 fun z H2 => D.nx (σ.set i (some z)) H2
theorem ps_aug {i : Nat} {x : Str} {e : Expr} {te : TE} {op : Operator} {ti : TIp} {pos' : Pos} (hN : X.N.Nodup) (hi : X.N[i]? = some x) (hx : Loc X.env.scope x) (he : PE X e te) (ho : PIp X op ti) (hf : X.fn x = true ∨ X.env.scope.names.lookup x = some .local := by first | exact .inl rfl | exact .inr rfl | assumption) :
    PS X (.AugAssign (.Name x pos') op e pos) (tAug i te ti) := by
  intro pins s σ H D I h
  obtain ⟨v, e1, h⟩ := h
  obtain ⟨m, hn, hl⟩ := I.loc
  have vis : Vis X.env.scope x := by rcases hx with k | k; exact .inl k; exact .inr (.inl k)
  obtain ⟨u, r, l⟩ := hl i x v hi e1 vis
  refine wpAny_AugAssign_Name ?_
  have go : wpAny (model X.prog X.w) X.A (eval e X.env) (fun w s₂ => wpAny (model X.prog X.w) X.A (inplaceOp op u w) (fun r s₃ => wpAny (model X.prog X.w) X.A (storeName X.env x r) (fun _ => SP X pins D .next) X.xe s₃) X.xe s₂) X.xe s := by
    refine thn (he pins s σ H _ I h) fun w s1 ⟨y, H1, I1, r1, q1⟩ => ?_
    refine thn (ho pins s1 σ H1 v y u w _ I1 r r1 q1) fun z s2 ⟨zv, H2, I2, r2, q2⟩ => ?_
    exact store_ok I2 hN hi hx r2 (fun s3 I3 => ⟨_, H2, I3, q2⟩) hf
  rcases l with ⟨hk, hm⟩ | ⟨hk, c, hc, hcell⟩
  · exact wpAny_loadName_local I.ok.kind hk hn hm go
  · rcases hk with hk | hk
    · exact wpAny_loadName_cell I.ok.kind hk hc hcell go
    · rcases hx with k | k
      · have : X.env.scope.names.lookup x = some .free := hk
        rw [k] at this; cases this
      · have : X.env.scope.names.lookup x = some .free := hk
        rw [k] at this; cases this
/-- o[i] op= e -/
def tAugS (to ti te : TE) (tget : V → V → Hp → VK → Prop) (tip : TIp) (tset : TSet) : TS := fun D σ H => to σ H fun o H1 => ti σ H1 fun i H2 => tget o i H2 fun x H3 => te σ H3 fun y H4 => tip x y H4 fun z H5 => tset o i z H5 fun H6 => D.nx σ H6
/-- o[i], by values -/
def PGet (X : Cx) (t : V → V → Hp → VK → Prop) : Prop :=
  ∀ (pins : List (Addr × Obj)) (s : Shared) (σ : St) (H : Hp) (o i : V) (ov iv : Value) (Q : VK), Inv X pins σ H s → RelV o ov → RelV i iv → t o i H Q →
    wpAny (model X.prog X.w) X.A (getItem ov iv) (EP X pins σ Q) X.xe s
theorem ps_augS {o i e : Expr} {to ti te : TE} {tget : V → V → Hp → VK → Prop} {tip : TIp} {tset : TSet} {op : Operator} {tpos : Pos} (ho : PE X o to) (hi : PE X i ti) (hg : PGet X tget) (he : PE X e te) (hp : PIp X op tip) (hs : PSet X tset)
    (ha : ∀ ov iv new, augStore i ov iv new = (do holding [new, ov, iv] (setItem ov iv new); release [new, ov, iv] []; pure .next) := by intros; rfl) : PS X (.AugAssign (.Subscript o i tpos) op e pos) (tAugS to ti te tget tip tset) := by
  intro pins s σ H D I h
  refine wpAny_AugAssign_SubscriptAny (thn (ho pins s σ H _ I h) fun ov s1 ⟨x1, H1, I1, r1, q1⟩ => ?_) ha
  refine thn (hi pins s1 σ H1 _ I1 q1) fun iv s2 ⟨x2, H2, I2, r2, q2⟩ => ?_
  refine thn (hg pins s2 σ H2 x1 x2 ov iv _ I2 r1 r2 q2) fun old s3 ⟨x3, H3, I3, r3, q3⟩ => ?_
  refine thn (he pins s3 σ H3 _ I3 q3) fun v s4 ⟨x4, H4, I4, r4, q4⟩ => ?_
  refine thn (hp pins s4 σ H4 x3 x4 old v _ I4 r3 r4 q4) fun new s5 ⟨x5, H5, I5, r5, q5⟩ => ?_
  exact thn (hs pins s5 σ H5 x1 x2 x5 ov iv new _ I5 r1 r2 r5 q5) fun _ s6 ⟨H6, I6, q6⟩ => ⟨σ, H6, I6, q6⟩
/-- ints -/
def ipI (f : Int → Int → Int) : TIp := fun x y H Q => ∃ i j, x = .int i ∧ y = .int j ∧ Q (.int (f i j)) H
theorem ip_add : PIp X .Add (ipI fun i j => i + j) := by
  intro pins s σ H x y v u Q I r1 r2 h
  obtain ⟨i, j, e1, e2, q⟩ := h
  subst e1; subst e2
  obtain ⟨t, rfl⟩ := r1
  obtain ⟨t', rfl⟩ := r2
  exact iadd_int ⟨.int _, H, I.tok _, ⟨_, rfl⟩, q⟩
theorem ip_sub : PIp X .Sub (ipI fun i j => i - j) := by
  intro pins s σ H x y v u Q I r1 r2 h
  obtain ⟨i, j, e1, e2, q⟩ := h
  subst e1; subst e2
  obtain ⟨t, rfl⟩ := r1
  obtain ⟨t', rfl⟩ := r2
  exact isub_int ⟨.int _, H, I.tok _, ⟨_, rfl⟩, q⟩
end

/-! ### while -/
section
variable {X : Cx} {pos : Pos}
/-- the invariant W with its measure -/
def tWhile (c : TT) (tb : TS) : TS := fun D σ H => ∃ W : Nat → St → Hp → Prop, (∃ m, W m σ H) ∧ ∀ m σ H, W m σ H →
  c σ H fun b H1 => if b = true then ∃ N : St → Hp → Prop, (∀ σ' H', N σ' H' → ∃ m', m' < m ∧ W m' σ' H') ∧ tb { D with nx := N, ct := N, bk := D.nx } σ H1 else D.nx σ H1
theorem ps_while {c : Expr} {body : List Stmt} {tc : TT} {tb : TS} (hp : PassesOwn (model X.prog X.w) X.A X.env X.xe) (hc : PT X c tc) (hb : PSs X body tb) : PS X (.While c body [] pos) (tWhile tc tb) := by
  intro pins s σ H D I h
  obtain ⟨W, ⟨m0, w0⟩, turn⟩ := h
  refine wpAny_While (codeAny_whileLoop (fun n s' => ∃ σ' H', Inv X pins σ' H' s' ∧ W n σ' H') ?_ m0 ⟨σ, H, I, w0⟩)
  rintro n s1 ⟨σ1, H1, I1, w1⟩
  refine wpAny_passesOwn hp (thn (hc pins s1 σ1 H1 _ I1 (turn n σ1 H1 w1)) fun b s2 ⟨H2, I2, q2⟩ => ?_)
  cases b with
  | true =>
    obtain ⟨N, hN, q2⟩ := q2
    rw [if_pos rfl]
    refine wpAny_passesOwn hp (thn (hb pins s2 σ1 H2 _ I2 q2) fun f s3 q3 => ?_)
    cases f with
    | next =>
      obtain ⟨σ3, H3, I3, n3⟩ := q3
      obtain ⟨m', hm, w3⟩ := hN σ3 H3 n3
      exact ⟨m', hm, σ3, H3, I3, w3⟩
    | cont =>
      obtain ⟨σ3, H3, I3, n3⟩ := q3
      obtain ⟨m', hm, w3⟩ := hN σ3 H3 n3
      exact ⟨m', hm, σ3, H3, I3, w3⟩
    | brk => exact q3
    | ret v => exact q3
  | false =>
    rw [if_neg Bool.false_ne_true]
    exact wpAny_execs_nil ⟨σ1, H2, I2, q2⟩
end

/-! ### what a loop or a comprehension walks -/
/-- at turn i: it yields x (the heap may grow), or it stops -/
structure It where
  go : Nat → Hp → Prop
  yld : Nat → Hp → V → Hp → Prop
  stop : Nat → Hp → Prop
/-- the iterator's own objects may turn: they are not the frame's, not pinned, younger than the entry (or a comprehension's own) -/
def FpOk (X : Cx) (pins : List (Addr × Obj)) (H : Hp) (b : Addr) : Prop :=
  H b = none ∧ b ≠ X.env.locals ∧ b ∉ X.fs ∧ (b ∈ X.ex ∨ X.s₀.heap.objs.size ≤ b) ∧ (∀ x c, X.env.cells.lookup x = some c → c ≠ b) ∧ ∀ p ∈ X.pn ++ pins, p.1 ≠ b
theorem Inv.fpOk {X : Cx} {pins : List (Addr × Obj)} {σ : St} {H H' : Hp} {s : Shared} {b : Addr} (I : Inv X pins σ H s) (hb : s.heap.objs.size ≤ b) (hn : H' b = none) : FpOk X pins H' b := by
  refine ⟨hn, Nat.ne_of_gt (Nat.lt_of_lt_of_le I.lt hb), I.nofs hb, .inr (Nat.le_trans I.sz hb), fun x c e z => ?_, fun p hp z => ?_⟩
  · obtain ⟨v, q⟩ := I.cell x c e
    exact absurd (Nat.lt_of_lt_of_le q.lt (by rw [z]; exact hb)) (Nat.lt_irrefl _)
  · exact absurd (Nat.lt_of_lt_of_le (Heap.lt_size (I.pin p hp).1) (by rw [z]; exact hb)) (Nat.lt_irrefl _)
structure Turn (P : Program) (w : World) (K : PySem.W.Frag) (tg : Expr) (J : It) (fp : List Addr) (it : Addr) (tn : Nat → Heap → Prop) : Prop where
  mem : it ∈ fp
  obj : ∀ i h, tn i h → ∀ b ∈ fp, ∃ o, h.get? b = some o ∧ ∀ v, o.data ≠ .cell v
  keep : ∀ i h h', tn i h → (∀ b ∈ fp, ∀ o, h.get? b = some o → h'.get? b = some o) → tn i h'
  item : ∀ (X : Cx), X.prog = P → X.w = w → X.K = K → X.calm = true → ∀ (i : Nat) (pins : List (Addr × Obj)) (s : Shared) (σ : St) (H : Hp) (E : Value → Shared → Prop), Inv X pins σ H s → (∀ b ∈ fp, FpOk X pins H b) → tn i s.heap → J.go i H →
    wpAny (model P w) X.A (pyNext (.ref it)) (fun r s1 => ∃ u, r = some u ∧
      wpAny (model P w) X.A (letOwnedTupleGo tg (.ref it) u) (fun _ s2 => ∃ x H', Inv X pins σ H' s2 ∧ RelV x u ∧ J.yld i H x H' ∧ tn (i + 1) s2.heap ∧ ∀ b ∈ fp, H' b = none) E s1) E s
  done : ∀ (X : Cx), X.prog = P → X.w = w → X.K = K → X.calm = true → ∀ (i : Nat) (pins : List (Addr × Obj)) (s : Shared) (σ : St) (H : Hp) (E : Value → Shared → Prop), Inv X pins σ H s → (∀ b ∈ fp, FpOk X pins H b) → tn i s.heap → J.stop i H →
    wpAny (model P w) X.A (pyNext (.ref it)) (fun r s1 => r = none ∧ Inv X pins σ H s1) E s
  self : ∀ (A : Around) (i : Nat) (s : Shared) (Q : Value → Shared → Prop) (E : Value → Shared → Prop), tn i s.heap → Q (.ref it) s → wpAny (model P w) A (pyIter (.ref it)) Q E s
abbrev TI := St → Hp → (It → Hp → Prop) → Prop
/-- an iterator has come -/
def PIE (X : Cx) (pins : List (Addr × Obj)) (σ : St) (tg : Expr) (R : It → Hp → Prop) (itv : Value) (s2 : Shared) : Prop :=
  ∃ (it : Addr) (fp : List Addr) (tn : Nat → Heap → Prop) (J : It) (H' : Hp), itv = .ref it ∧ Inv X pins σ H' s2 ∧ Turn X.prog X.w X.K tg J fp it tn ∧ tn 0 s2.heap ∧ (∀ b ∈ fp, FpOk X pins H' b) ∧ R J H'
def PI (X : Cx) (tg iter : Expr) (wi : TI) : Prop :=
  ∀ (pins : List (Addr × Obj)) (s : Shared) (σ : St) (H : Hp) (R : It → Hp → Prop), Inv X pins σ H s → wi σ H R →
    wpAny (model X.prog X.w) X.A (eval iter X.env) (fun v s1 => wpAny (model X.prog X.w) X.A (pyIter v) (PIE X pins σ tg R) X.xe s1) X.xe s

/-- the step ahead of the store is nothing for an iterator that keeps no tuple -/
theorem go_of {M : Model} {A : Around} {E : Value → Shared → Prop} {s : Shared} {tg : Expr} {it : Addr} {u : Value} {o : Obj} {n : String} {vs : Array Value} {Q : Unit → Shared → Prop} (ho : s.heap.get? it = some o) (hc : o.cls = .type n) (hd : o.data = .fields vs)
    (hn : ["enumerate", "zip", "dict_itemiterator", "dict_reverseitemiterator", "odict_iterator", "itertools.zip_longest", "itertools.pairwise"].contains n = false) (hQ : Q () s) : wpAny M A (letOwnedTupleGo tg (.ref it) u) Q E s := by
  unfold letOwnedTupleGo
  cases tg <;> first
    | exact wpAny_pure hQ
    | (cases u <;> first
        | exact wpAny_pure hQ
        | (refine wpAny_bind (wpAny_load ho ?_)
           rw [hc, hd]
           show wpAny M A (if (["enumerate", "zip", "dict_itemiterator", "dict_reverseitemiterator", "odict_iterator", "itertools.zip_longest", "itertools.pairwise"].contains n && vs[0]? == some (rawInt _)) = true then _ else _) Q E s
           rw [if_neg (by intro h; rw [hn, Bool.false_and] at h; cases h)]
           exact wpAny_pure hQ))

/-- the list at a, as it stands at each turn (a loop may append to it) -/
def Itl (K : PySem.W.Frag) (a : Addr) : It :=
  ⟨fun i H => ∃ xs x, SqL K H a xs ∧ xs[i]? = some x, fun i H x H' => H' = H ∧ ∀ xs, SqL K H a xs → xs[i]? = some x, fun i H => ∃ xs, SqL K H a xs ∧ xs.length ≤ i⟩
def Itt (K : PySem.W.Frag) (a : Addr) : It :=
  ⟨fun i H => ∃ xs x, SqT K H a xs ∧ xs[i]? = some x, fun i H x H' => H' = H ∧ ∀ xs, SqT K H a xs → xs[i]? = some x, fun i H => ∃ xs, SqT K H a xs ∧ xs.length ≤ i⟩
/-- lo, lo + 1, .. (n of them) -/
def Itr (lo : Int) (n : Nat) : It := ⟨fun i _ => i < n, fun i H x H' => H' = H ∧ x = .int (lo + i), fun i _ => n ≤ i⟩
theorem turn_list {P : Program} {w : World} {K : PySem.W.Frag} {tg : Expr} (a it : Addr) : Turn P w K tg (Itl K a) [it] it (fun i h => h.IsListIter it a i) where
  mem := by simp
  obj := fun i h st b hb => by
    have e : b = it := by simpa using hb
    subst e
    obtain ⟨o, e, c, d⟩ := st
    exact ⟨o, e, fun v z => by rw [d] at z; cases z⟩
  keep := fun i h h' st k => st.at fun o e => k it (by simp) o e
  item := by
    intro X hP hw hK hc i pins s σ H E I hf st hg
    subst hP hw hK
    obtain ⟨xs, x, hq, hx⟩ := hg
    obtain ⟨its, rv, p, hz⟩ := I.list hq
    obtain ⟨u, hu, ru⟩ := rv.get hx
    obtain ⟨f0, f1, f2, f3, f4, f5⟩ := hf it (by simp)
    refine wpAny_pyNext_list_item st p.isList (x := u) (by simpa using hu) fun h' st' sb => ?_
    have I1 : Inv X pins σ H { s with heap := h' } := I.turned (t' := s.toks) (fun b o hb e => (sb.2 b hb).trans e) f0 f1 f3 f4 f5
    obtain ⟨o, e, c, d⟩ := id st'
    exact ⟨u, rfl, go_of (s := { s with heap := h' }) e c d (by decide) ⟨x, H, I1, ru, ⟨rfl, fun ys hy => by rw [I.list_inj hy hq]; exact hx⟩, st', fun b hb => (hf b hb).1⟩⟩
  done := by
    intro X hP hw hK hc i pins s σ H E I hf st hg
    subst hP hw hK
    obtain ⟨xs, hq, hx⟩ := hg
    obtain ⟨its, rv, p, hz⟩ := I.list hq
    obtain ⟨f0, f1, f2, f3, f4, f5⟩ := hf it (by simp)
    have hl := rv.length
    exact wpAny_pyNext_list_end (I.ok.hd hc) st p.isList (by simp; omega) fun h' eb => ⟨rfl, I.turned (t' := s.toks) (fun b o hb e => eb b o hb e) f0 f1 f3 f4 f5⟩
  self := fun _ _ _ _ _ st h => wpAny_pyIter_listiter st h
theorem turn_tuple {P : Program} {w : World} {K : PySem.W.Frag} {tg : Expr} (a it : Addr) : Turn P w K tg (Itt K a) [it] it (fun i h => h.IsTupleIter it a i) where
  mem := by simp
  obj := fun i h st b hb => by
    have e : b = it := by simpa using hb
    subst e
    obtain ⟨o, e, c, d⟩ := st
    exact ⟨o, e, fun v z => by rw [d] at z; cases z⟩
  keep := fun i h h' st k => st.at fun o e => k it (by simp) o e
  item := by
    intro X hP hw hK hc i pins s σ H E I hf st hg
    subst hP hw hK
    obtain ⟨xs, x, hq, hx⟩ := hg
    obtain ⟨its, rv, p, hz⟩ := I.tuple hq
    obtain ⟨u, hu, ru⟩ := rv.get hx
    obtain ⟨f0, f1, f2, f3, f4, f5⟩ := hf it (by simp)
    refine wpAny_pyNext_tuple_item st (show s.heap.IsTuple a its.toArray from p) (x := u) (by simpa using hu) fun h' st' sb => ?_
    have I1 : Inv X pins σ H { s with heap := h' } := I.turned (t' := s.toks) (fun b o hb e => (sb.2 b hb).trans e) f0 f1 f3 f4 f5
    obtain ⟨o, e, c, d⟩ := id st'
    exact ⟨u, rfl, go_of (s := { s with heap := h' }) e c d (by decide) ⟨x, H, I1, ru, ⟨rfl, fun ys hy => by rw [I.tuple_inj hy hq]; exact hx⟩, st', fun b hb => (hf b hb).1⟩⟩
  done := by
    intro X hP hw hK hc i pins s σ H E I hf st hg
    subst hP hw hK
    obtain ⟨xs, hq, hx⟩ := hg
    obtain ⟨its, rv, p, hz⟩ := I.tuple hq
    obtain ⟨f0, f1, f2, f3, f4, f5⟩ := hf it (by simp)
    have hl := rv.length
    exact wpAny_pyNext_tuple_end (I.ok.hd hc) st (show s.heap.IsTuple a its.toArray from p) (by simp; omega) fun h' eb => ⟨rfl, I.turned (t' := s.toks) (fun b o hb e => eb b o hb e) f0 f1 f3 f4 f5⟩
  self := fun _ _ _ _ _ st h => wpAny_pyIter_tupleiter st h
theorem turn_range {P : Program} {w : World} {K : PySem.W.Frag} {tg : Expr} (it : Addr) (lo : Int) (n : Nat) : Turn P w K tg (Itr lo n) [it] it (fun i h => IsRangeIter h it (lo + (i : Nat) * 1) ((n : Int) - (i : Nat)) 1) where
  mem := by simp
  obj := fun i h st b hb => by
    have e : b = it := by simpa using hb
    subst e
    exact ⟨_, st, fun v z => by
      have z' : Data.fields _ = Data.cell v := z
      cases z'⟩
  keep := fun i h h' st k => k it (by simp) _ st
  item := by
    intro X hP hw hK hc i pins s σ H E I hf st hg
    subst hP hw hK
    obtain ⟨f0, f1, f2, f3, f4, f5⟩ := hf it (by simp)
    have W := Walks.range (prog := X.prog) (w := X.w) (I.ok.hd hc) it lo 1 n
    refine W.item i s _ _ hg st fun v h' tk hv st' kk => ?_
    obtain ⟨t, rfl⟩ := hv
    have I1 : Inv X pins σ H { s with heap := h', toks := tk } := I.turned (fun b o hb e => kk b o (by simpa using hb) e) f0 f1 f3 f4 f5
    refine ⟨_, rfl, go_of (s := { s with heap := h', toks := tk }) (n := "range_iterator") st' rfl rfl (by decide) ⟨.int (lo + i), H, I1, ⟨t, ?_⟩, ⟨rfl, rfl⟩, st', fun b hb => (hf b hb).1⟩⟩
    rw [Int.mul_one]
  done := by
    intro X hP hw hK hc i pins s σ H E I hf st hg
    subst hP hw hK
    obtain ⟨f0, f1, f2, f3, f4, f5⟩ := hf it (by simp)
    exact wpAny_pyNext_range_end (I.ok.hd hc) st (by have : n ≤ i := hg; omega) fun h' eb => ⟨rfl, I.turned (t' := s.toks) (fun b o hb e => eb b o hb e) f0 f1 f3 f4 f5⟩
  self := fun _ _ _ _ _ st h => wpAny_pyIter_rangeiter st h
end L2

namespace L2
open PySem PySem.Spec PyProof.Rows
section
variable {X : Cx} {tg : Expr}
def iList (K : PySem.W.Frag) (tl : TE) : TI := fun σ H R => tl σ H fun x H1 => ∃ a, x = .ref a ∧ (∃ xs, SqL K H1 a xs) ∧ R (Itl K a) H1
def iTup (K : PySem.W.Frag) (tl : TE) : TI := fun σ H R => tl σ H fun x H1 => ∃ a, x = .ref a ∧ (∃ xs, SqT K H1 a xs) ∧ R (Itt K a) H1
theorem pi_list {l : Expr} {tl : TE} (hl : PE X l tl) : PI X tg l (iList X.K tl) := by
  intro pins s σ H R I h
  refine thn (hl pins s σ H _ I h) fun v s1 ⟨x, H1, I1, r1, q1⟩ => ?_
  obtain ⟨a, e, ⟨xs, hq⟩, q⟩ := q1
  subst e
  cases r1
  obtain ⟨its, rv, p, hz⟩ := I1.list hq
  refine wpAny_pyIter_list p.isList ?_
  refine ⟨s1.heap.objs.size, [s1.heap.objs.size], _, _, H1, rfl, I1.kept (t' := s1.toks) fun b o e => Heap.get?_push_of_some _ e, turn_list a _, ⟨_, Heap.get?_push_size _ rfl, rfl, rfl⟩, fun b hb => ?_, q⟩
  have e : b = s1.heap.objs.size := by simpa using hb
  subst e
  exact I1.fpOk (Nat.le_refl _) (I1.hok.fresh (Nat.le_refl _))
theorem pi_tup {l : Expr} {tl : TE} (hl : PE X l tl) : PI X tg l (iTup X.K tl) := by
  intro pins s σ H R I h
  refine thn (hl pins s σ H _ I h) fun v s1 ⟨x, H1, I1, r1, q1⟩ => ?_
  obtain ⟨a, e, ⟨xs, hq⟩, q⟩ := q1
  subst e
  cases r1
  obtain ⟨its, rv, p, hz⟩ := I1.tuple hq
  refine wpAny_pyIter_tuple (show s1.heap.IsTuple a its.toArray from p) ?_
  refine ⟨s1.heap.objs.size, [s1.heap.objs.size], _, _, H1, rfl, I1.kept (t' := s1.toks) fun b o e => Heap.get?_push_of_some _ e, turn_tuple a _, ⟨_, Heap.get?_push_size _ rfl, rfl, rfl⟩, fun b hb => ?_, q⟩
  have e : b = s1.heap.objs.size := by simpa using hb
  subst e
  exact I1.fpOk (Nat.le_refl _) (I1.hok.fresh (Nat.le_refl _))
/-- a range object just made, walked -/
theorem range_it {pins : List (Addr × Obj)} {σ : St} {H : Hp} {s : Shared} {R : It → Hp → Prop} {E : Value → Shared → Prop} {lo hi : Int} {t u v : Tok} {tk : Nat} (I : Inv X pins σ H s) (h1 : -(2 ^ 62) ≤ lo) (h2 : lo < 2 ^ 62) (h3 : -(2 ^ 62) ≤ hi) (h4 : hi < 2 ^ 62)
    (q : R (Itr lo (hi - lo).toNat) H) : wpAny (model X.prog X.w) X.A (pyIter (.ref s.heap.objs.size)) (PIE X pins σ tg R) E { s with heap := s.heap.push { cls := .type "range", data := .fields #[.int lo t, .int hi u, .int 1 v] }, toks := tk } := by
  refine wpAny_pyIter_range (IsRange.new ..) (small_one h1 h2 h3 h4) ?_
  have I1 : Inv X pins σ H { s with heap := s.heap.push { cls := .type "range", data := .fields #[.int lo t, .int hi u, .int 1 v] }, toks := tk } := I.kept fun b o e => Heap.get?_push_of_some _ e
  refine ⟨(s.heap.push { cls := .type "range", data := .fields #[.int lo t, .int hi u, .int 1 v] }).objs.size, [(s.heap.push { cls := .type "range", data := .fields #[.int lo t, .int hi u, .int 1 v] }).objs.size], _, _, H, rfl,
    I1.kept (t' := tk) fun b o e => Heap.get?_push_of_some _ e, turn_range _ lo (hi - lo).toNat, ?_, fun b hb => ?_, q⟩
  · have e1 : lo + ((0 : Nat) : Int) * 1 = lo := by simp
    have e2 : (((hi - lo).toNat : Nat) : Int) - ((0 : Nat) : Int) = Builtin.Range.rangeSize lo hi 1 := by rw [rangeSize_one]; split <;> omega
    show IsRangeIter _ _ (lo + ((0 : Nat) : Int) * 1) ((((hi - lo).toNat : Nat) : Int) - ((0 : Nat) : Int)) 1
    rw [e1, e2]
    exact Heap.get?_push_size _ rfl
  · have e : b = (s.heap.push { cls := .type "range", data := .fields #[.int lo t, .int hi u, .int 1 v] }).objs.size := by simpa using hb
    subst e
    exact I1.fpOk (Nat.le_refl _) (I1.hok.fresh (Nat.le_refl _))
def iRng1 (ta : TA) : TI := fun σ H R => ta σ H fun vs H1 => ∃ j : Int, vs = [.int j] ∧ -(2 ^ 62) ≤ j ∧ j < 2 ^ 62 ∧ R (Itr 0 j.toNat) H1
def iRng2 (ta : TA) : TI := fun σ H R => ta σ H fun vs H1 => ∃ i j : Int, vs = [.int i, .int j] ∧ (-(2 ^ 62) ≤ i ∧ i < 2 ^ 62 ∧ -(2 ^ 62) ≤ j ∧ j < 2 ^ 62) ∧ R (Itr i (j - i).toNat) H1
theorem pi_range1 {a : Expr} {ta : TA} {p pos : Pos} (hg : Gl X "range") (hm : X.mg "range" = none) (ha : PA X [a] ta) (hs : starEach [a] X.env = [(false, eval a X.env)] := by rfl) : PI X tg (.Call (.Name "range" p) [a] [] pos) (iRng1 ta) := by
  intro pins s σ H R I h
  refine Call_ (ld_blt I hg hm boot_range (PyProof.Rows.callWith_type1 (thn (ha pos pins s σ H _ I h) fun us s1 ⟨vs, H1, I1, r1, q1⟩ => ?_) hs rfl))
  obtain ⟨j, e, q1, q2, q⟩ := q1
  subst e
  cases r1 with
  | cons r rr =>
    cases rr
    obtain ⟨t, rfl⟩ := r
    exact call_range_1 (range_it I1 (by omega) (by omega) q1 q2 (by simpa using q))
theorem pi_range2 {a b : Expr} {ta : TA} {p pos : Pos} (hg : Gl X "range") (hm : X.mg "range" = none) (ha : PA X [a, b] ta) (hs : starEach [a, b] X.env = [(false, eval a X.env), (false, eval b X.env)] := by rfl) (hs2 : starEach [b] X.env = [(false, eval b X.env)] := by rfl) :
    PI X tg (.Call (.Name "range" p) [a, b] [] pos) (iRng2 ta) := by
  intro pins s σ H R I h
  refine Call_ (ld_blt I hg hm boot_range (PyProof.Rows.callWith_type1 (thn (ha pos pins s σ H _ I h) fun us s1 ⟨vs, H1, I1, r1, q1⟩ => ?_) (by rw [hs, hs2]) (by rw [hs2]; rfl)))
  obtain ⟨i, j, e, ⟨q1, q2, q3, q4⟩, q⟩ := q1
  subst e
  cases r1 with
  | cons r rr =>
    cases rr with
    | cons r' rr =>
      cases rr
      obtain ⟨t, rfl⟩ := r
      obtain ⟨t', rfl⟩ := r'
      exact call_range_2 (range_it I1 q1 q2 q3 q4 q)

/-! ### for -/
/-- W: the invariant by the turn and a measure; N: what the body is to reach -/
def tFor (wi : TI) (g : TG) (tb : TS) : TS := fun D σ H => wi σ H fun J H1 => ∃ W : Nat → Nat → St → Hp → Prop, (∃ m, W 0 m σ H1) ∧ ∀ i m σ H, W i m σ H →
  (J.stop i H ∧ D.nx σ H) ∨ (J.go i H ∧ ∃ N : St → Hp → Prop, (∀ σ' H', N σ' H' → ∃ m', m' < m ∧ W (i + 1) m' σ' H') ∧ ∀ x H', J.yld i H x H' → g x σ H' fun σ2 H2 => tb { D with nx := N, ct := N, bk := D.nx } σ2 H2)
/-- the records at fp as they stand -/
def pinsAt (fp : List Addr) (h : Heap) : List (Addr × Obj) := fp.filterMap fun b => (h.get? b).map fun o => (b, o)
theorem mem_pinsAt {fp : List Addr} {h : Heap} {b : Addr} {o : Obj} (hb : b ∈ fp) (e : h.get? b = some o) : (b, o) ∈ pinsAt fp h := List.mem_filterMap.mpr ⟨b, hb, by rw [e]; rfl⟩
theorem of_pinsAt {fp : List Addr} {h : Heap} {p : Addr × Obj} (hp : p ∈ pinsAt fp h) : p.1 ∈ fp ∧ h.get? p.1 = some p.2 := by
  obtain ⟨b, hb, e⟩ := List.mem_filterMap.mp hp
  cases q : h.get? b with
  | none => rw [q] at e; cases e
  | some o =>
    rw [q] at e
    have e' : (b, o) = p := Option.some.inj e
    subst e'
    exact ⟨hb, q⟩
theorem Inv.pinned {pins : List (Addr × Obj)} {σ : St} {H : Hp} {s : Shared} {fp : List Addr} (I : Inv X pins σ H s) (hf : ∀ b ∈ fp, FpOk X pins H b) (ho : ∀ b ∈ fp, ∃ o, s.heap.get? b = some o ∧ ∀ v, o.data ≠ .cell v) : Inv X (pins ++ pinsAt fp s.heap) σ H s :=
  I.pins_of fun p hp => (List.mem_append.mp hp).elim (fun z => I.pin p (List.mem_append_right _ z)) fun z => by
    obtain ⟨hb, e⟩ := of_pinsAt z
    obtain ⟨f0, f1, f2, _⟩ := hf p.1 hb
    obtain ⟨o, e', d⟩ := ho p.1 hb
    rw [e] at e'; cases e'
    exact ⟨e, f0, f1, f2, d⟩
theorem Inv.unpinned {pins pl : List (Addr × Obj)} {σ : St} {H : Hp} {s : Shared} (I : Inv X (pins ++ pl) σ H s) : Inv X pins σ H s := I.pins_of fun p hp => I.pin p (List.mem_append_right _ (List.mem_append_left _ hp))
theorem ps_for {iter : Expr} {body : List Stmt} {wi : TI} {g : TG} {tb : TS} {pos : Pos} (hp : PassesOwn (model X.prog X.w) X.A X.env X.xe) (hc : X.calm = true) (hi : PI X tg iter wi) (hg : PG X tg g) (hb : PSs X body tb)
    (hs : ∀ x, foldedSetIterable iter X.env x = pure x := by intro _; rfl) : PS X (.For tg iter body [] pos) (tFor wi g tb) := by
  intro pins s σ H D I h
  refine wpAny_For (thn (hi pins s σ H _ I h) fun v s1 h1 => thn h1 fun itv s2 h2 => ?_) hs
  obtain ⟨it, fp, tn, J, H2, e, I2, T, st2, f2, W, ⟨m0, w0⟩, turn⟩ := h2
  subst e
  -- what stays true of the iterator's objects through the loop
  have stat : ∀ {H' : Hp}, (∀ b ∈ fp, H' b = none) → ∀ b ∈ fp, FpOk X pins H' b := fun hn b hb => ⟨hn b hb, (f2 b hb).2⟩
  refine codeAny_forLoop_any (fun n s' => ∃ i σ' H', Inv X pins σ' H' s' ∧ tn i s'.heap ∧ (∀ b ∈ fp, H' b = none) ∧ W i n σ' H') ?_ m0 ⟨0, σ, H2, I2, st2, fun b hb => (f2 b hb).1, w0⟩
  rintro n s3 ⟨i, σ3, H3, I3, st3, fr3, w3⟩
  rcases turn i n σ3 H3 w3 with ⟨stop, qn⟩ | ⟨go, N, hN, step⟩
  · refine wpAny_passesOwn hp (thn (T.done X rfl rfl rfl hc i pins s3 σ3 H3 X.xe I3 (stat fr3) st3 stop) fun r s4 ⟨hr, I4⟩ => ?_)
    subst hr
    exact wpAny_execs_nil ⟨σ3, H3, I4, qn⟩
  · refine wpAny_passesOwn hp (thn (T.item X rfl rfl rfl hc i pins s3 σ3 H3 X.xe I3 (stat fr3) st3 go) fun r s4 ⟨u, hr, h4⟩ => ?_)
    subst hr
    refine wpAny_passesOwn hp (thn h4 fun _ s5 ⟨x, H5, I5, r5, y5, st5, fr5⟩ => ?_)
    have I5' := I5.pinned (stat fr5) (T.obj _ _ st5)
    refine wpAny_passesOwn hp (thn (hg _ s5 σ3 H5 x u _ I5' r5 (step x H5 y5)) fun _ s6 ⟨σ6, H6, I6, q6⟩ => ?_)
    refine wpAny_passesOwn hp (thn (hb _ s6 σ6 H6 _ I6 q6) fun f s7 q7 => ?_)
    have again : ∀ {σ7 : St} {H7 : Hp}, Inv X (pins ++ pinsAt fp s5.heap) σ7 H7 s7 → N σ7 H7 → ∃ m, m < n ∧ ∃ i σ' H', Inv X pins σ' H' s7 ∧ tn i s7.heap ∧ (∀ b ∈ fp, H' b = none) ∧ W i m σ' H' := fun {σ7 H7} I7 n7 => by
      obtain ⟨m', hm, w7⟩ := hN σ7 H7 n7
      refine ⟨m', hm, i + 1, σ7, H7, I7.unpinned, T.keep _ _ _ st5 fun b hb o e => (I7.pin (b, o) (List.mem_append_right _ (List.mem_append_right _ (mem_pinsAt hb e)))).1, fun b hb => ?_, w7⟩
      obtain ⟨o, e, d⟩ := T.obj _ _ st5 b hb
      exact (I7.pin (b, o) (List.mem_append_right _ (List.mem_append_right _ (mem_pinsAt hb e)))).2.1
    cases f with
    | next => obtain ⟨σ7, H7, I7, n7⟩ := q7; exact again I7 n7
    | cont => obtain ⟨σ7, H7, I7, n7⟩ := q7; exact again I7 n7
    | brk => obtain ⟨σ7, H7, I7, q7⟩ := q7; exact ⟨σ7, H7, I7.unpinned, q7⟩
    | ret v => obtain ⟨x7, σ7, H7, I7, r7, q7⟩ := q7; exact ⟨x7, σ7, H7, I7.unpinned, r7, q7⟩
end

/-! ### the forms one uses -/
/-- over a list that the body leaves as it is -/
theorem for_list {K : PySem.W.Frag} {a : Addr} {xs : List V} {g : TG} {tb : TS} {D : Ends} {σ : St} {H : Hp} (Pv : Nat → St → Hp → Prop) (h0 : Pv 0 σ H) (hl : ∀ i σ H, i ≤ xs.length → Pv i σ H → SqL K H a xs)
    (hs : ∀ i x σ H, xs[i]? = some x → Pv i σ H → g x σ H fun σ2 H2 => tb { D with nx := Pv (i + 1), ct := Pv (i + 1), bk := D.nx } σ2 H2) (hd : ∀ σ H, Pv xs.length σ H → D.nx σ H) :
    ∃ W : Nat → Nat → St → Hp → Prop, (∃ m, W 0 m σ H) ∧ ∀ i m σ H, W i m σ H →
      ((Itl K a).stop i H ∧ D.nx σ H) ∨ ((Itl K a).go i H ∧ ∃ N : St → Hp → Prop, (∀ σ' H', N σ' H' → ∃ m', m' < m ∧ W (i + 1) m' σ' H') ∧ ∀ x H', (Itl K a).yld i H x H' → g x σ H' fun σ2 H2 => tb { D with nx := N, ct := N, bk := D.nx } σ2 H2) := by
  refine ⟨fun i m σ H => m = xs.length - i ∧ i ≤ xs.length ∧ Pv i σ H, ⟨xs.length, by simp, Nat.zero_le _, h0⟩, ?_⟩
  rintro i m σ H ⟨rfl, hi, p⟩
  have q := hl i σ H hi p
  by_cases hlt : i < xs.length
  · refine .inr ⟨⟨xs, xs[i], q, by simp [hlt]⟩, Pv (i + 1), fun σ' H' p' => ⟨xs.length - (i + 1), by omega, rfl, hlt, p'⟩, fun x H' y => ?_⟩
    obtain ⟨e, y⟩ := y
    subst e
    exact hs i x σ _ (y xs q) p
  · have e : i = xs.length := by omega
    subst e
    exact .inl ⟨⟨xs, q, Nat.le_refl _⟩, hd σ H p⟩
theorem for_tup {K : PySem.W.Frag} {a : Addr} {xs : List V} {g : TG} {tb : TS} {D : Ends} {σ : St} {H : Hp} (Pv : Nat → St → Hp → Prop) (h0 : Pv 0 σ H) (hl : ∀ i σ H, i ≤ xs.length → Pv i σ H → SqT K H a xs)
    (hs : ∀ i x σ H, xs[i]? = some x → Pv i σ H → g x σ H fun σ2 H2 => tb { D with nx := Pv (i + 1), ct := Pv (i + 1), bk := D.nx } σ2 H2) (hd : ∀ σ H, Pv xs.length σ H → D.nx σ H) :
    ∃ W : Nat → Nat → St → Hp → Prop, (∃ m, W 0 m σ H) ∧ ∀ i m σ H, W i m σ H →
      ((Itt K a).stop i H ∧ D.nx σ H) ∨ ((Itt K a).go i H ∧ ∃ N : St → Hp → Prop, (∀ σ' H', N σ' H' → ∃ m', m' < m ∧ W (i + 1) m' σ' H') ∧ ∀ x H', (Itt K a).yld i H x H' → g x σ H' fun σ2 H2 => tb { D with nx := N, ct := N, bk := D.nx } σ2 H2) := by
  refine ⟨fun i m σ H => m = xs.length - i ∧ i ≤ xs.length ∧ Pv i σ H, ⟨xs.length, by simp, Nat.zero_le _, h0⟩, ?_⟩
  rintro i m σ H ⟨rfl, hi, p⟩
  have q := hl i σ H hi p
  by_cases hlt : i < xs.length
  · refine .inr ⟨⟨xs, xs[i], q, by simp [hlt]⟩, Pv (i + 1), fun σ' H' p' => ⟨xs.length - (i + 1), by omega, rfl, hlt, p'⟩, fun x H' y => ?_⟩
    obtain ⟨e, y⟩ := y
    subst e
    exact hs i x σ _ (y xs q) p
  · have e : i = xs.length := by omega
    subst e
    exact .inl ⟨⟨xs, q, Nat.le_refl _⟩, hd σ H p⟩
theorem for_range {lo : Int} {n : Nat} {g : TG} {tb : TS} {D : Ends} {σ : St} {H : Hp} (Pv : Nat → St → Hp → Prop) (h0 : Pv 0 σ H)
    (hs : ∀ i σ H, i < n → Pv i σ H → g (.int (lo + i)) σ H fun σ2 H2 => tb { D with nx := Pv (i + 1), ct := Pv (i + 1), bk := D.nx } σ2 H2) (hd : ∀ σ H, Pv n σ H → D.nx σ H) :
    ∃ W : Nat → Nat → St → Hp → Prop, (∃ m, W 0 m σ H) ∧ ∀ i m σ H, W i m σ H →
      ((Itr lo n).stop i H ∧ D.nx σ H) ∨ ((Itr lo n).go i H ∧ ∃ N : St → Hp → Prop, (∀ σ' H', N σ' H' → ∃ m', m' < m ∧ W (i + 1) m' σ' H') ∧ ∀ x H', (Itr lo n).yld i H x H' → g x σ H' fun σ2 H2 => tb { D with nx := N, ct := N, bk := D.nx } σ2 H2) := by
  refine ⟨fun i m σ H => m = n - i ∧ i ≤ n ∧ Pv i σ H, ⟨n, by simp, Nat.zero_le _, h0⟩, ?_⟩
  rintro i m σ H ⟨rfl, hi, p⟩
  by_cases hlt : i < n
  · refine .inr ⟨hlt, Pv (i + 1), fun σ' H' p' => ⟨n - (i + 1), by omega, rfl, hlt, p'⟩, fun x H' y => ?_⟩
    obtain ⟨e, y⟩ := y
    subst e y
    exact hs i σ _ hlt p
  · have e : i = n := by omega
    subst e
    exact .inl ⟨Nat.le_refl _, hd σ H p⟩
/-- while, by a word and a measure of the state -/
theorem while_by {c : TT} {tb : TS} {D : Ends} {σ : St} {H : Hp} (Pv : St → Hp → Prop) (μ : St → Hp → Nat) (h0 : Pv σ H)
    (hs : ∀ σ H, Pv σ H → c σ H fun b H1 => if b = true then tb { D with nx := fun σ' H' => Pv σ' H' ∧ μ σ' H' < μ σ H, ct := fun σ' H' => Pv σ' H' ∧ μ σ' H' < μ σ H, bk := D.nx } σ H1 else D.nx σ H1)
    (mono : ∀ σ H Q Q', (∀ b H1, Q b H1 → Q' b H1) → c σ H Q → c σ H Q') : tWhile c tb D σ H := by
  refine ⟨fun m σ H => m = μ σ H ∧ Pv σ H, ⟨_, rfl, h0⟩, ?_⟩
  rintro m σ H ⟨rfl, p⟩
  refine mono σ H _ _ (fun b H1 q => ?_) (hs σ H p)
  cases b with
  | true => exact ⟨_, fun σ' H' ⟨p', l⟩ => ⟨_, l, rfl, p'⟩, q⟩
  | false => exact q
end L2

namespace L2
open PySem PySem.Spec PyProof.Rows

abbrev R2 := V → V → Hp → VK → Prop
/-- a two-place operation on values: f is binaryOp op, inplaceOp op or compareOp op -/
def OpR (X : Cx) (f : Value → Value → Sem Value) (r : R2) : Prop :=
  ∀ (pins : List (Addr × Obj)) (s : Shared) (σ : St) (H : Hp) (x y : V) (v u : Value) (Q : VK), Inv X pins σ H s → RelV x v → RelV y u → r x y H Q →
    wpAny (model X.prog X.w) X.A (f v u) (EP X pins σ Q) X.xe s
/-- a one-place operation -/
def UnR (X : Cx) (f : Value → Sem Value) (r : V → Hp → VK → Prop) : Prop :=
  ∀ (pins : List (Addr × Obj)) (s : Shared) (σ : St) (H : Hp) (x : V) (v : Value) (Q : VK), Inv X pins σ H s → RelV x v → r x H Q →
    wpAny (model X.prog X.w) X.A (f v) (EP X pins σ Q) X.xe s
/-- a call of a value that is known (a builtin, a type) with values -/
def CallR (X : Cx) (f : Value) (r : List V → Hp → VK → Prop) : Prop :=
  ∀ (pins : List (Addr × Obj)) (s : Shared) (σ : St) (H : Hp) (xs : List V) (us : List Value) (Q : VK), Inv X pins σ H s → Vals xs us → r xs H Q →
    wpAny (model X.prog X.w) X.A (call f us) (EP X pins σ Q) X.xe s
/-- a value's truth -/
def TruR (X : Cx) (r : V → Hp → (Bool → Hp → Prop) → Prop) : Prop :=
  ∀ (pins : List (Addr × Obj)) (s : Shared) (σ : St) (H : Hp) (x : V) (v : Value) (Q : Bool → Hp → Prop), Inv X pins σ H s → RelV x v → r x H Q →
    wpAny (model X.prog X.w) X.A (truthy v) (TP X pins σ Q) X.xe s

def tOp (r : R2) (ta tb : TE) : TE := fun σ H Q => ta σ H fun x H1 => tb σ H1 fun y H2 => r x y H2 Q
def tUn (r : V → Hp → VK → Prop) (ta : TE) : TE := fun σ H Q => ta σ H fun x H1 => r x H1 Q
/-- ints in, under C, and a value out -/
def rI (C : Int → Int → Prop) (g : Int → Int → V) : R2 := fun x y H Q => ∃ i j, x = .int i ∧ y = .int j ∧ C i j ∧ Q (g i j) H
def rI0 (g : Int → Int → V) : R2 := fun x y H Q => ∃ i j, x = .int i ∧ y = .int j ∧ Q (g i j) H
def rU (g : Int → V) : V → Hp → VK → Prop := fun x H Q => ∃ i, x = .int i ∧ Q (g i) H

section
variable {X : Cx} {a b c : Expr} {ta tb tc : TE} {pos : Pos}

theorem binT (ha : PE X a ta) (hb : PE X b tb) {pins : List (Addr × Obj)} {s : Shared} {σ : St} {H : Hp} {R : V → V → Hp → Prop} (I : Inv X pins σ H s)
    (h : ta σ H fun x H1 => tb σ H1 fun y H2 => R x y H2) {Q : Value → Shared → Prop} {f : Value → Value → Sem Value}
    (hf : ∀ v u s2 x y H2, Inv X pins σ H2 s2 → RelV x v → RelV y u → R x y H2 → wpAny (model X.prog X.w) X.A (f v u) Q X.xe s2) :
    wpAny (model X.prog X.w) X.A (eval a X.env) (fun v s₁ => wpAny (model X.prog X.w) X.A (eval b X.env) (fun u s₂ => wpAny (model X.prog X.w) X.A (f v u) Q X.xe s₂) X.xe s₁) X.xe s := by
  refine thn (ha pins s σ H _ I h) fun v s1 ⟨x, H1, I1, r1, q1⟩ => ?_
  refine thn (hb pins s1 σ H1 _ I1 q1) fun u s2 ⟨y, H2, I2, r2, q2⟩ => ?_
  exact hf v u s2 x y H2 I2 r1 r2 q2

theorem pe_op {op : Operator} {r : R2} (ho : OpR X (binaryOp op) r) (ha : PE X a ta) (hb : PE X b tb) : PE X (.BinOp a op b pos) (tOp r ta tb) := by
  intro pins s σ H Q I h
  exact wpAny_BinOp (binT ha hb I h fun v u s2 x y H2 I2 rx ry q => ho pins s2 σ H2 x y v u Q I2 rx ry q)
theorem pe_un {op : UnaryOp} {r : V → Hp → VK → Prop} (ho : UnR X (unaryOp op) r) (ha : PE X a ta) : PE X (.UnaryOp op a pos) (tUn r ta) := by
  intro pins s σ H Q I h
  exact UnaryOp_ (thn (ha pins s σ H _ I h) fun v s1 ⟨x, H1, I1, r1, q1⟩ => ho pins s1 σ H1 x v Q I1 r1 q1)
/-- a op= e at a name: the name's slot i -/
theorem augR {op : Operator} {r : R2} (ho : OpR X (inplaceOp op) r) {pins : List (Addr × Obj)} {s : Shared} {σ : St} {H : Hp} {x y : V} {v u : Value} {Q : VK} (I : Inv X pins σ H s)
    (rx : RelV x v) (ry : RelV y u) (q : r x y H Q) : wpAny (model X.prog X.w) X.A (inplaceOp op v u) (EP X pins σ Q) X.xe s := ho pins s σ H x y v u Q I rx ry q

/-! ### ints -/
theorem opI {f : Value → Value → Sem Value} {C : Int → Int → Prop} {g : Int → Int → Int}
    (rule : ∀ (i j : Int) (t u : Tok) (s : Shared) (Q : Value → Shared → Prop) (E : Value → Shared → Prop), C i j → Q (.int (g i j) s.toks) { s with toks := s.toks + 1 } → wpAny (model X.prog X.w) X.A (f (.int i t) (.int j u)) Q E s) :
    OpR X f (rI C fun i j => .int (g i j)) := by
  intro pins s σ H x y v u Q I rx ry h
  obtain ⟨i, j, rfl, rfl, hc, q⟩ := h
  obtain ⟨t, rfl⟩ := rx
  obtain ⟨t', rfl⟩ := ry
  exact rule i j t t' s _ _ hc ⟨.int (g i j), H, I.tok _, ⟨_, rfl⟩, q⟩
theorem opI0 {f : Value → Value → Sem Value} {g : Int → Int → Int}
    (rule : ∀ (i j : Int) (t u : Tok) (s : Shared) (Q : Value → Shared → Prop) (E : Value → Shared → Prop), Q (.int (g i j) s.toks) { s with toks := s.toks + 1 } → wpAny (model X.prog X.w) X.A (f (.int i t) (.int j u)) Q E s) :
    OpR X f (rI0 fun i j => .int (g i j)) := by
  intro pins s σ H x y v u Q I rx ry h
  obtain ⟨i, j, rfl, rfl, q⟩ := h
  obtain ⟨t, rfl⟩ := rx
  obtain ⟨t', rfl⟩ := ry
  exact rule i j t t' s _ _ ⟨.int (g i j), H, I.tok _, ⟨_, rfl⟩, q⟩
theorem opB0 {f : Value → Value → Sem Value} {g : Int → Int → Bool}
    (rule : ∀ (i j : Int) (t u : Tok) (s : Shared) (Q : Value → Shared → Prop) (E : Value → Shared → Prop), Q (.bool (g i j)) s → wpAny (model X.prog X.w) X.A (f (.int i t) (.int j u)) Q E s) :
    OpR X f (rI0 fun i j => .bl (g i j)) := by
  intro pins s σ H x y v u Q I rx ry h
  obtain ⟨i, j, rfl, rfl, q⟩ := h
  obtain ⟨t, rfl⟩ := rx
  obtain ⟨t', rfl⟩ := ry
  exact rule i j t t' s _ _ ⟨.bl (g i j), H, I, rfl, q⟩

def CDiv (i j : Int) : Prop := 0 < j ∧ j < 1073741824
def CDivN (i j : Int) : Prop := j ≠ 0 ∧ j.natAbs < 1073741824
def CPow (i j : Int) : Prop := 0 ≤ j ∧ j ≤ 1000000 ∧ i.natAbs < 2 ^ 64
def CMul (i j : Int) : Prop := (-(2 ^ 64) < i ∧ i < 2 ^ 64) ∨ (-(2 ^ 64) < j ∧ j < 2 ^ 64)
theorem CMul.ok {i j : Int} (h : CMul i j) : IntMulOk i j := by
  rcases h with ⟨h1, h2⟩ | ⟨h1, h2⟩
  · exact .of_left (intBits_le_64 h1 h2)
  · exact .of_right (intBits_le_64 h1 h2)
theorem two_pow_nn (k : Nat) : (0 : Int) ≤ 2 ^ k := by
  rw [two_pow_cast]
  exact Int.natCast_nonneg _

theorem op_add : OpR X (binaryOp .Add) (rI0 fun i j => .int (i + j)) := opI0 fun _ _ _ _ _ _ _ q => add_int q
theorem op_sub : OpR X (binaryOp .Sub) (rI0 fun i j => .int (i - j)) := opI0 fun _ _ _ _ _ _ _ q => sub_int q
theorem op_mul : OpR X (binaryOp .Mult) (rI CMul fun i j => .int (i * j)) := opI fun _ _ _ _ _ _ _ hc q => mul_int q hc.ok
/-- // by a positive divisor -/
theorem op_fdiv : OpR X (binaryOp .FloorDiv) (rI CDiv fun i j => .int (i / j)) := opI fun i j _ _ _ _ _ hc q => by
  have h1 : (0 : Int) < j := hc.1
  have h2 : j < 1073741824 := hc.2
  exact floordiv_int (by omega) (by rw [Int.fdiv_eq_ediv_of_nonneg i (by omega)]; exact q) (.inl (PyProof.noPylong_small (by omega)))
theorem op_fdivN : OpR X (binaryOp .FloorDiv) (rI CDivN fun i j => .int (i.fdiv j)) := opI fun _ _ _ _ _ _ _ hc q => floordiv_int hc.1 q (.inl (PyProof.noPylong_small hc.2))
/-- % by a positive divisor of any size -/
theorem op_mod : OpR X (binaryOp .Mod) (rI (fun _ j => 0 < j) fun i j => .int (i % j)) := opI fun i j _ _ _ _ _ hc q => by
  have h1 : (0 : Int) < j := hc
  exact mod_int' (by omega) (by rw [Int.fmod_eq_emod_of_nonneg i (by omega)]; exact q)
theorem op_modN : OpR X (binaryOp .Mod) (rI (fun _ j => j ≠ 0) fun i j => .int (i.fmod j)) := opI fun _ _ _ _ _ _ _ hc q => mod_int' hc q
theorem op_pow : OpR X (binaryOp .Pow) (rI CPow fun i j => .int (i ^ j.toNat)) := opI fun _ _ _ _ _ _ _ hc q => pow_int_small hc.1 hc.2.1 hc.2.2 q
theorem op_shl : OpR X (binaryOp .LShift) (rI CPow fun i j => .int (i * 2 ^ j.toNat)) := opI fun _ _ _ _ _ _ _ hc q => lshift_int_small hc.1 hc.2.1 hc.2.2 q
theorem op_shr : OpR X (binaryOp .RShift) (rI (fun _ j => 0 ≤ j) fun i j => .int (i / 2 ^ j.toNat)) := opI fun i j _ _ _ _ _ hc q =>
  rshift_int hc (by rw [Int.fdiv_eq_ediv_of_nonneg i (two_pow_nn _)]; exact q)
theorem op_and : OpR X (binaryOp .BitAnd) (rI0 fun i j => .int (Builtin.bitAnd i j)) := opI0 fun _ _ _ _ _ _ _ q => and_int q
theorem op_or : OpR X (binaryOp .BitOr) (rI0 fun i j => .int (Builtin.bitOr i j)) := opI0 fun _ _ _ _ _ _ _ q => or_int q
theorem op_xor : OpR X (binaryOp .BitXor) (rI0 fun i j => .int (Builtin.bitXor i j)) := opI0 fun _ _ _ _ _ _ _ q => xor_int q

theorem iop_add : OpR X (inplaceOp .Add) (rI0 fun i j => .int (i + j)) := opI0 fun _ _ _ _ _ _ _ q => iadd_int q
theorem iop_sub : OpR X (inplaceOp .Sub) (rI0 fun i j => .int (i - j)) := opI0 fun _ _ _ _ _ _ _ q => isub_int q
theorem iop_mul : OpR X (inplaceOp .Mult) (rI CMul fun i j => .int (i * j)) := opI fun _ _ _ _ _ _ _ hc q => imul_int q hc.ok
theorem iop_fdiv : OpR X (inplaceOp .FloorDiv) (rI CDiv fun i j => .int (i / j)) := opI fun i j _ _ _ _ _ hc q => by
  have h1 : (0 : Int) < j := hc.1
  have h2 : j < 1073741824 := hc.2
  exact ifloordiv_int (by omega) (by rw [Int.fdiv_eq_ediv_of_nonneg i (by omega)]; exact q) (.inl (PyProof.noPylong_small (by omega)))
theorem iop_mod : OpR X (inplaceOp .Mod) (rI (fun _ j => 0 < j) fun i j => .int (i % j)) := opI fun i j _ _ _ _ _ hc q => by
  have h1 : (0 : Int) < j := hc
  exact imod_int (by omega) (by rw [Int.fmod_eq_emod_of_nonneg i (by omega)]; exact q)
theorem iop_shl : OpR X (inplaceOp .LShift) (rI CPow fun i j => .int (i * 2 ^ j.toNat)) := opI fun _ _ _ _ _ _ _ hc q => ilshift_int_small hc.1 hc.2.1 hc.2.2 q
theorem iop_shr : OpR X (inplaceOp .RShift) (rI (fun _ j => 0 ≤ j) fun i j => .int (i / 2 ^ j.toNat)) := opI fun i j _ _ _ _ _ hc q =>
  irshift_int hc (by rw [Int.fdiv_eq_ediv_of_nonneg i (two_pow_nn _)]; exact q)
theorem iop_and : OpR X (inplaceOp .BitAnd) (rI0 fun i j => .int (Builtin.bitAnd i j)) := opI0 fun _ _ _ _ _ _ _ q => iand_int q
theorem iop_or : OpR X (inplaceOp .BitOr) (rI0 fun i j => .int (Builtin.bitOr i j)) := opI0 fun _ _ _ _ _ _ _ q => ior_int q
theorem iop_xor : OpR X (inplaceOp .BitXor) (rI0 fun i j => .int (Builtin.bitXor i j)) := opI0 fun _ _ _ _ _ _ _ q => ixor_int q

theorem unI {f : Value → Sem Value} {g : Int → Int}
    (rule : ∀ (i : Int) (t : Tok) (s : Shared) (Q : Value → Shared → Prop) (E : Value → Shared → Prop), Q (.int (g i) s.toks) { s with toks := s.toks + 1 } → wpAny (model X.prog X.w) X.A (f (.int i t)) Q E s) :
    UnR X f (rU fun i => .int (g i)) := by
  intro pins s σ H x v Q I rx h
  obtain ⟨i, rfl, q⟩ := h
  obtain ⟨t, rfl⟩ := rx
  exact rule i t s _ _ ⟨.int (g i), H, I.tok _, ⟨_, rfl⟩, q⟩
theorem un_neg : UnR X (unaryOp .USub) (rU fun i => .int (-i)) := unI fun _ _ _ _ _ q => neg_int q
theorem un_inv : UnR X (unaryOp .Invert) (rU fun i => .int (Builtin.bitNot i)) := unI fun _ _ _ _ _ q => invert_int q

/-! ### bools among ints: n += (a < b) -/
theorem op_add_ib : OpR X (binaryOp .Add) (fun x y H Q => ∃ i k, x = .int i ∧ y = .bl k ∧ Q (.int (i + b2i k)) H) := by
  intro pins s σ H x y v u Q I rx ry h
  obtain ⟨i, k, rfl, rfl, q⟩ := h
  obtain ⟨t, rfl⟩ := rx
  cases ry
  exact add_int_bool ⟨.int (i + b2i k), H, I.tok _, ⟨_, rfl⟩, q⟩
end

/-! ### comparisons -/
/-- the scalars that == tells apart as data does -/
def scal : V → V → Bool
  | .non, .non => true | .non, .int _ => true | .int _, .non => true | .non, .bl _ => true | .bl _, .non => true | .non, .str _ => true | .str _, .non => true
  | .int _, .int _ => true | .bl _, .bl _ => true | .str _, .str _ => true | .byt _, .byt _ => true
  | .int _, .str _ => true | .str _, .int _ => true | .bl _, .str _ => true | .str _, .bl _ => true
  | _, _ => false
def rEq : R2 := fun x y H Q => scal x y = true ∧ Q (.bl (decide (x = y))) H
def rNe : R2 := fun x y H Q => scal x y = true ∧ Q (.bl (!decide (x = y))) H

theorem dec_int {i j : Int} : decide (V.int i = V.int j) = (i == j) := by
  rw [Bool.eq_iff_iff]
  simp
theorem dec_bl {i j : Bool} : decide (V.bl i = V.bl j) = (i == j) := by
  rw [Bool.eq_iff_iff]
  simp
theorem dec_str {i j : Str} : decide (V.str i = V.str j) = (i == j) := by
  rw [Bool.eq_iff_iff]
  simp
theorem dec_byt {i j : Array UInt8} : decide (V.byt i = V.byt j) = (i.toList == j.toList) := by
  rw [Bool.eq_iff_iff]
  cases i
  cases j
  simp

section
variable {X : Cx} {a b c : Expr} {ta tb tc : TE} {pos : Pos}
theorem fin_bl {pins : List (Addr × Obj)} {σ : St} {H : Hp} {s : Shared} {Q : VK} {k k' : Bool} (I : Inv X pins σ H s) (q : Q (.bl k) H) (e : k = k') : EP X pins σ Q (.bool k') s := by
  subst e
  exact ⟨.bl k, H, I, rfl, q⟩
theorem op_eq : OpR X (compareOp .Eq) rEq := by
  intro pins s σ H x y v u Q I rx ry h
  obtain ⟨hs, q⟩ := h
  cases x with
  | non =>
    cases rx
    cases y with
    | non => cases ry; exact PySem.EqNone.eq_none_none (fin_bl I q (by simp))
    | bl j => cases ry; exact PySem.EqNone.eq_none_bool (fin_bl I q (by simp))
    | int j => obtain ⟨t', rfl⟩ := ry; exact PySem.EqNone.eq_none_int (fin_bl I q (by simp))
    | str j => obtain ⟨t', rfl⟩ := ry; exact PySem.EqNone.eq_none_str (fin_bl I q (by simp))
    | _ => exact absurd (show false = true from hs) Bool.false_ne_true
  | bl i =>
    cases rx
    cases y with
    | non => cases ry; exact PySem.EqNone.eq_bool_none (fin_bl I q (by simp))
    | bl j => cases ry; exact eq_bool (fin_bl I q dec_bl)
    | str j => obtain ⟨t', rfl⟩ := ry; exact PySem.EqMixed.eq_bool_str (fin_bl I q (by simp))
    | _ => exact absurd (show false = true from hs) Bool.false_ne_true
  | int i =>
    obtain ⟨t, rfl⟩ := rx
    cases y with
    | non => cases ry; exact PySem.EqNone.eq_int_none (fin_bl I q (by simp))
    | int j => obtain ⟨t', rfl⟩ := ry; exact eq_int (fin_bl I q dec_int)
    | str j => obtain ⟨t', rfl⟩ := ry; exact PySem.EqMixed.eq_int_str (fin_bl I q (by simp))
    | _ => exact absurd (show false = true from hs) Bool.false_ne_true
  | str i =>
    obtain ⟨t, rfl⟩ := rx
    cases y with
    | non => cases ry; exact PySem.EqNone.eq_str_none (fin_bl I q (by simp))
    | bl j => cases ry; exact PySem.EqMixed.eq_str_bool (fin_bl I q (by simp))
    | int j => obtain ⟨t', rfl⟩ := ry; exact PySem.EqMixed.eq_str_int (fin_bl I q (by simp))
    | str j => obtain ⟨t', rfl⟩ := ry; exact eq_str (fin_bl I q dec_str)
    | _ => exact absurd (show false = true from hs) Bool.false_ne_true
  | byt i =>
    obtain ⟨t, rfl⟩ := rx
    cases y with
    | byt j => obtain ⟨t', rfl⟩ := ry; exact PySem.W.eq_bytes (fin_bl I q dec_byt)
    | _ => exact absurd (show false = true from hs) Bool.false_ne_true
  | _ => cases y <;> exact absurd (show false = true from hs) Bool.false_ne_true
theorem op_ne : OpR X (compareOp .NotEq) rNe := by
  intro pins s σ H x y v u Q I rx ry h
  obtain ⟨hs, q⟩ := h
  cases x with
  | non =>
    cases rx
    cases y with
    | non => cases ry; exact PySem.EqNone.ne_none_none (fin_bl I q (by simp))
    | bl j => cases ry; exact PySem.EqNone.ne_none_bool (fin_bl I q (by simp))
    | int j => obtain ⟨t', rfl⟩ := ry; exact PySem.EqNone.ne_none_int (fin_bl I q (by simp))
    | str j => obtain ⟨t', rfl⟩ := ry; exact PySem.EqNone.ne_none_str (fin_bl I q (by simp))
    | _ => exact absurd (show false = true from hs) Bool.false_ne_true
  | bl i =>
    cases rx
    cases y with
    | non => cases ry; exact PySem.EqNone.ne_bool_none (fin_bl I q (by simp))
    | bl j => cases ry; exact ne_bool (fin_bl I q (congrArg not dec_bl))
    | str j => obtain ⟨t', rfl⟩ := ry; exact PySem.EqMixed.ne_bool_str (fin_bl I q (by simp))
    | _ => exact absurd (show false = true from hs) Bool.false_ne_true
  | int i =>
    obtain ⟨t, rfl⟩ := rx
    cases y with
    | non => cases ry; exact PySem.EqNone.ne_int_none (fin_bl I q (by simp))
    | int j => obtain ⟨t', rfl⟩ := ry; exact ne_int (fin_bl I q (congrArg not dec_int))
    | str j => obtain ⟨t', rfl⟩ := ry; exact PySem.EqMixed.ne_int_str (fin_bl I q (by simp))
    | _ => exact absurd (show false = true from hs) Bool.false_ne_true
  | str i =>
    obtain ⟨t, rfl⟩ := rx
    cases y with
    | non => cases ry; exact PySem.EqNone.ne_str_none (fin_bl I q (by simp))
    | bl j => cases ry; exact PySem.EqMixed.ne_str_bool (fin_bl I q (by simp))
    | int j => obtain ⟨t', rfl⟩ := ry; exact PySem.EqMixed.ne_str_int (fin_bl I q (by simp))
    | str j => obtain ⟨t', rfl⟩ := ry; exact ne_str (fin_bl I q (congrArg not dec_str))
    | _ => exact absurd (show false = true from hs) Bool.false_ne_true
  | byt i =>
    obtain ⟨t, rfl⟩ := rx
    cases y with
    | byt j => obtain ⟨t', rfl⟩ := ry; exact PySem.W.ne_bytes (fin_bl I q (congrArg not dec_byt))
    | _ => exact absurd (show false = true from hs) Bool.false_ne_true
  | _ => cases y <;> exact absurd (show false = true from hs) Bool.false_ne_true

theorem op_lt : OpR X (compareOp .Lt) (rI0 fun i j => .bl (decide (i < j))) := opB0 fun _ _ _ _ _ _ _ q => lt_int q
theorem op_le : OpR X (compareOp .LtE) (rI0 fun i j => .bl (decide (i ≤ j))) := opB0 fun _ _ _ _ _ _ _ q => le_int q
theorem op_gt : OpR X (compareOp .Gt) (rI0 fun i j => .bl (decide (j < i))) := opB0 fun _ _ _ _ _ _ _ q => gt_int q
theorem op_ge : OpR X (compareOp .GtE) (rI0 fun i j => .bl (decide (j ≤ i))) := opB0 fun _ _ _ _ _ _ _ q => ge_int q
theorem op_lt_str : OpR X (compareOp .Lt) (fun x y H Q => ∃ i j, x = .str i ∧ y = .str j ∧ Q (.bl (decide (i.cps.toList < j.cps.toList))) H) := by
  intro pins s σ H x y v u Q I rx ry h
  obtain ⟨i, j, rfl, rfl, q⟩ := h
  obtain ⟨t, rfl⟩ := rx
  obtain ⟨t', rfl⟩ := ry
  exact lt_str (fin_bl I q rfl)
/-- the one string within the other -/
theorem op_in_str : OpR X (compareOp .In) (fun x y H Q => ∃ i j, x = .str i ∧ y = .str j ∧ Q (.bl (!(Builtin.Str.occurrences j i 0 j.length 1).isEmpty)) H) := by
  intro pins s σ H x y v u Q I rx ry h
  obtain ⟨i, j, rfl, rfl, q⟩ := h
  obtain ⟨t, rfl⟩ := rx
  obtain ⟨t', rfl⟩ := ry
  exact in_str (fin_bl I q rfl)

/-- is None, is not None: the right side a value none -/
theorem op_isN : OpR X (compareOp .Is) (fun x y H Q => y = .non ∧ Q (.bl (decide (x = .non))) H) := by
  intro pins s σ H x y v u Q I rx ry h
  obtain ⟨rfl, q⟩ := h
  cases ry
  refine is_none_gen (fin_bl I q ?_)
  cases x <;> first
    | (cases rx; rfl)
    | (obtain ⟨t, rfl⟩ := rx; rfl)
theorem op_notN : OpR X (compareOp .IsNot) (fun x y H Q => y = .non ∧ Q (.bl (!decide (x = .non))) H) := by
  intro pins s σ H x y v u Q I rx ry h
  obtain ⟨rfl, q⟩ := h
  cases ry
  refine isnot_none_gen (fin_bl I q ?_)
  cases x <;> first
    | (cases rx; rfl)
    | (obtain ⟨t, rfl⟩ := rx; rfl)

theorem op_notin_str : OpR X (compareOp .NotIn) (fun x y H Q => ∃ i j, x = .str i ∧ y = .str j ∧ Q (.bl (!(!(Builtin.Str.occurrences j i 0 j.length 1).isEmpty))) H) := by
  intro pins s σ H x y v u Q I rx ry h
  obtain ⟨i, j, rfl, rfl, q⟩ := h
  obtain ⟨t, rfl⟩ := rx
  obtain ⟨t', rfl⟩ := ry
  exact notIn_str (fin_bl I q rfl)
/-- is, is not of two objects that are tracked lists or instances -/
def isObj : HO → Bool
  | .lst _ => true
  | .ins _ _ _ => true
  | _ => false
theorem obj_there {pins : List (Addr × Obj)} {s : Shared} {σ : St} {H : Hp} {a : Addr} {o : HO} (I : Inv X pins σ H s) (h : H a = some o) (p : isObj o = true) : ∃ ob, s.heap.get? a = some ob ∧ ob.cls ≠ .type "tuple" := by
  cases o with
  | lst xs =>
    obtain ⟨_, its, n, _, e⟩ : xs.length ≤ sizeLine ∧ ∃ (its : List Value) (n : Nat), Vals xs its ∧ s.heap.get? a = some { cls := .type "list", data := .seq its.toArray n } := I.hok a _ h
    exact ⟨_, e, (by show Value.type "list" ≠ .type "tuple"; decide +kernel)⟩
  | ins C dx fs =>
    have x := I.hok a _ h
    obtain ⟨_, _, _, e, _⟩ := x
    exact ⟨_, e, (by show Value.ref C ≠ .type "tuple"; exact fun z => by cases z)⟩
  | _ => exact absurd (show false = true from p) Bool.false_ne_true
theorem op_is_ref : OpR X (compareOp .Is) (fun x y H Q => ∃ a b oa ob, x = .ref a ∧ y = .ref b ∧ H a = some oa ∧ isObj oa = true ∧ H b = some ob ∧ isObj ob = true ∧ Q (.bl (decide (a = b))) H) := by
  intro pins s σ H x y v u Q I rx ry h
  obtain ⟨a, b, oa, ob, rfl, rfl, ha, pa, hb, pb, q⟩ := h
  cases rx
  cases ry
  obtain ⟨o1, e1, n1⟩ := obj_there I ha pa
  obtain ⟨o2, e2, _⟩ := obj_there I hb pb
  by_cases z : a = b
  · subst z
    exact wpAny_is_ref_self (fin_bl I q (by simp))
  · exact wpAny_is_ref_other z e1 e2 n1 (fin_bl I q (by simp [z]))
theorem op_isnot_ref : OpR X (compareOp .IsNot) (fun x y H Q => ∃ a b oa ob, x = .ref a ∧ y = .ref b ∧ H a = some oa ∧ isObj oa = true ∧ H b = some ob ∧ isObj ob = true ∧ Q (.bl (!decide (a = b))) H) := by
  intro pins s σ H x y v u Q I rx ry h
  obtain ⟨a, b, oa, ob, rfl, rfl, ha, pa, hb, pb, q⟩ := h
  cases rx
  cases ry
  obtain ⟨o1, e1, n1⟩ := obj_there I ha pa
  obtain ⟨o2, e2, _⟩ := obj_there I hb pb
  by_cases z : a = b
  · subst z
    exact wpAny_isNot_ref_self (fin_bl I q (by simp))
  · exact wpAny_isNot_ref_other z e1 e2 n1 (fin_bl I q (by simp [z]))

/-- two rules for one operation: by cases -/
theorem OpR.or {f : Value → Value → Sem Value} {r r' : R2} (h : OpR X f r) (h' : OpR X f r') : OpR X f (fun x y H Q => r x y H Q ∨ r' x y H Q) := by
  intro pins s σ H x y v u Q I rx ry q
  rcases q with q | q
  · exact h pins s σ H x y v u Q I rx ry q
  · exact h' pins s σ H x y v u Q I rx ry q

theorem nomark (b : Expr) {op : CmpOp} (h : op ≠ .In := by decide) (h2 : op ≠ .NotIn := by decide) : behindInMarks op b = false := by
  have e1 : (op == CmpOp.In) = false := by cases op <;> first | rfl | exact absurd rfl h
  have e2 : (op == CmpOp.NotIn) = false := by cases op <;> first | rfl | exact absurd rfl h2
  cases b <;> simp [behindInMarks, e1, e2]
/-- a comparison as a value; hm: nomark b, or (for in, not in) by with_unfolding_all rfl -/
theorem pe_cmpR {op : CmpOp} {r : R2} (ho : OpR X (compareOp op) r) (ha : PE X a ta) (hb : PE X b tb) (hm : behindInMarks op b = false) : PE X (.Compare a [op] [b] pos) (tOp r ta tb) := by
  intro pins s σ H Q I h
  exact wpAny_Compare1 (binT ha hb I h fun v u s2 x y H2 I2 rx ry q => ho pins s2 σ H2 x y v u Q I2 rx ry q) hm
/-- a reading of a value as a test -/
def tTest (t : TE) : TT := fun σ H Q => t σ H fun x H' => ∃ k, x = .bl k ∧ Q k H'
theorem pt_cmpR {op : CmpOp} {r : R2} (ho : OpR X (compareOp op) r) (ha : PE X a ta) (hb : PE X b tb) (hm : behindInMarks op b = false) : PT X (.Compare a [op] [b] pos) (tTest (tOp r ta tb)) := by
  intro pins s σ H Q I h
  refine wpAny_isTrue_Compare1 (thn (ha pins s σ H _ I h) fun v s1 ⟨x, H1, I1, r1, q1⟩ => thn (hb pins s1 σ H1 _ I1 q1) fun u s2 ⟨y, H2, I2, r2, q2⟩ =>
    thn (ho pins s2 σ H2 x y v u _ I2 r1 r2 q2) fun c s3 ⟨z, H3, I3, r3, k, e, q3⟩ => ?_) hm
  subst e
  cases r3
  exact wpAny_truthy_bool ⟨H3, I3, q3⟩
/-- a op1 b op2 c -/
def tChain (r r' : R2) (ta tb tc : TE) : TE := fun σ H Q => ta σ H fun x H1 => tb σ H1 fun y H2 => r x y H2 fun z H3 => ∃ k, z = .bl k ∧
  (if k = true then tc σ H3 fun w' H4 => r' y w' H4 Q else Q (.bl false) H3)
theorem pe_chain {op op' : CmpOp} {r r' : R2} (ho : OpR X (compareOp op) r) (ho' : OpR X (compareOp op') r') (ha : PE X a ta) (hb : PE X b tb) (hc : PE X c tc)
    (hm : lastMarks [op, op'] [b, c] = false := by with_unfolding_all rfl) : PE X (.Compare a [op, op'] [b, c] pos) (tChain r r' ta tb tc) := by
  intro pins s σ H Q I h
  refine Compare_chain (thn (ha pins s σ H _ I h) fun v s1 ⟨x, H1, I1, r1, q1⟩ => chain_link (thn (hb pins s1 σ H1 _ I1 q1) fun u s2 ⟨y, H2, I2, r2, q2⟩ =>
    thn (ho pins s2 σ H2 x y v u _ I2 r1 r2 q2) fun d s3 ⟨z, H3, I3, r3, k, e, q3⟩ => ?_)) hm
  subst e
  cases r3
  refine wpAny_truthy_bool ?_
  cases k with
  | false => exact ite_ff ⟨.bl false, H3, I3, rfl, q3⟩
  | true => exact ite_tt (chain_last (thn (hc pins s3 σ H3 _ I3 q3) fun w' s4 ⟨z', H4, I4, r4, q4⟩ => ho' pins s4 σ H4 y z' u w' Q I4 r2 r4 q4))
theorem pt_chain {op op' : CmpOp} {r r' : R2} (ho : OpR X (compareOp op) r) (ho' : OpR X (compareOp op') r') (ha : PE X a ta) (hb : PE X b tb) (hc : PE X c tc)
    (hm : lastMarks [op, op'] [b, c] = false := by with_unfolding_all rfl) : PT X (.Compare a [op, op'] [b, c] pos) (tTest (tChain r r' ta tb tc)) := by
  intro pins s σ H Q I h
  refine isTrue_chain (thn (ha pins s σ H _ I h) fun v s1 ⟨x, H1, I1, r1, q1⟩ => test_link (thn (hb pins s1 σ H1 _ I1 q1) fun u s2 ⟨y, H2, I2, r2, q2⟩ =>
    thn (ho pins s2 σ H2 x y v u _ I2 r1 r2 q2) fun d s3 ⟨z, H3, I3, r3, k, e, q3⟩ => ?_)) hm
  subst e
  cases r3
  refine wpAny_truthy_bool ?_
  cases k with
  | false =>
    obtain ⟨k', e', q'⟩ := q3
    cases e'
    exact ite_ff ⟨H3, I3, q'⟩
  | true =>
    refine ite_tt (test_last (thn (hc pins s3 σ H3 _ I3 q3) fun w' s4 ⟨z', H4, I4, r4, q4⟩ => thn (ho' pins s4 σ H4 y z' u w' _ I4 r2 r4 q4) fun d' s5 ⟨z2, H5, I5, r5, k2, e2, q5⟩ => ?_))
    subst e2
    cases r5
    exact wpAny_truthy_bool ⟨H5, I5, q5⟩

/-! ### truth -/
/-- a value's truth by the abstract heap -/
def TruV (K : PySem.W.Frag) (x : V) (H : Hp) (k : Bool) : Prop :=
  match x with
  | .non => k = false
  | .bl b => k = b
  | .int i => k = (i != 0)
  | .str y => y.length ≤ sizeLine ∧ k = ((y.length : Int) != 0)
  | .byt y => y.size ≤ sizeLine ∧ k = ((y.size : Int) != 0)
  | .ref p => (∃ xs, SqL K H p xs ∧ k = !xs.isEmpty) ∨ (∃ xs, SqT K H p xs ∧ k = !xs.isEmpty) ∨ ∃ kvs, H p = some (.dK kvs) ∧ k = !kvs.isEmpty
  | _ => False
theorem isEmpty_kv {κ : Type} {kvs : List (κ × V)} {vs : List (κ × Value)} (r : KV kvs vs) : (!vs.isEmpty) = !kvs.isEmpty := by
  cases r <;> rfl
theorem isEmpty_of {xs : List V} {its : List Value} (r : Vals xs its) : (!its.toArray.isEmpty) = !xs.isEmpty := by
  cases r <;> simp
theorem line63 : (sizeLine : Nat) < 2 ^ 63 := by rw [sizeLine_eq]; decide
theorem tru_ok : TruR X (fun x H Q => ∃ k, TruV X.K x H k ∧ Q k H) := by
  intro pins s σ H x v Q I rx h
  obtain ⟨k, e, q⟩ := h
  have hl := line63
  have hs : sizeLine = 16777216 := sizeLine_eq
  cases x with
  | non =>
    cases rx
    have e' : k = false := e
    subst e'
    exact truthy_none ⟨H, I, q⟩
  | bl b =>
    cases rx
    have e' : k = b := e
    subst e'
    exact wpAny_truthy_bool ⟨H, I, q⟩
  | int i =>
    obtain ⟨t, rfl⟩ := rx
    have e' : k = (i != 0) := e
    subst e'
    exact PySem.P.truthy_int ⟨H, I, q⟩
  | str y =>
    obtain ⟨t, rfl⟩ := rx
    obtain ⟨hy, e'⟩ : y.length ≤ sizeLine ∧ k = ((y.length : Int) != 0) := e
    subst e'
    exact PySem.P.truthy_str (by omega) ⟨H, I.tok _, q⟩
  | byt y =>
    obtain ⟨t, rfl⟩ := rx
    obtain ⟨hy, e'⟩ : y.size ≤ sizeLine ∧ k = ((y.size : Int) != 0) := e
    subst e'
    exact PySem.W.truthy_bytes (by omega) ⟨H, I.tok _, q⟩
  | ref p =>
    cases rx
    have e' : (∃ xs, SqL X.K H p xs ∧ k = !xs.isEmpty) ∨ (∃ xs, SqT X.K H p xs ∧ k = !xs.isEmpty) ∨ ∃ kvs, H p = some (.dK kvs) ∧ k = !kvs.isEmpty := e
    rcases e' with ⟨xs, hx, e'⟩ | ⟨xs, hx, e'⟩ | ⟨kvs, hx, e'⟩
    · subst e'
      obtain ⟨its, r, pl, hz⟩ := I.list hx
      have hlen := r.length
      exact wpAny_truthy_list pl.isList (by simp only [List.size_toArray]; omega) ⟨H, I.tok _, by rw [isEmpty_of r]; exact q⟩
    · subst e'
      obtain ⟨its, r, pl, hz⟩ := I.tuple hx
      have hlen := r.length
      exact truthy_tuple pl (by simp only [List.size_toArray]; omega) ⟨H, I.tok _, by rw [isEmpty_of r]; exact q⟩
    · subst e'
      obtain ⟨hz, hS, vs, r, m⟩ : kvs.length ≤ sizeLine ∧ (p == sysModules) = false ∧ ∃ vs, KV kvs vs ∧ s.heap.DictOf (mixKind X.prog X.w) p vs := I.hok p _ hx
      have hlen : kvs.length = vs.length := Paired.length r
      exact wpAny_truthy_dict hS m (by omega) ⟨H, I.tok _, by rw [isEmpty_kv r]; exact q⟩
  | _ => exact (show False from e).elim
/-- any expression whose test is its value's truth (a name, a call, a subscript, a field ..: he by fun _ => rfl) -/
theorem pt_truth (ha : PE X a ta) (he : ∀ whole, isTrue a X.env whole = (do let v ← whole; standAt a.pos; holding [v] (truthy v))) :
    PT X a (fun σ H Q => ta σ H fun x H' => ∃ k, TruV X.K x H' k ∧ Q k H') := by
  intro pins s σ H Q I h
  exact isTrue_plain (thn (ha pins s σ H _ I h) fun v s1 ⟨x, H1, I1, r1, q1⟩ => tru_ok pins s1 σ H1 x v Q I1 r1 q1) (he _)

/-! ### strs and bytes -/
theorem pe_byt {x : List UInt8} {k : Nat} : PE X (.Constant (.bytes x) k pos) (fun _ H Q => Q (.byt x.toArray) H) := fun _ _ _ H _ I h => PySem.W.Constant_bytes ⟨.byt x.toArray, H, I.tok _, ⟨_, rfl⟩, h⟩
theorem op_add_str : OpR X (binaryOp .Add) (fun x y H Q => ∃ i j, x = .str i ∧ y = .str j ∧ i.length + j.length ≤ sizeLine ∧ Q (.str (i ++ j)) H) := by
  intro pins s σ H x y v u Q I rx ry h
  obtain ⟨i, j, rfl, rfl, hz, q⟩ := h
  obtain ⟨t, rfl⟩ := rx
  obtain ⟨t', rfl⟩ := ry
  exact add_str (fun t' tk => ⟨.str (i ++ j), H, I.tok _, ⟨_, rfl⟩, q⟩) hz
theorem iop_add_str : OpR X (inplaceOp .Add) (fun x y H Q => ∃ i j, x = .str i ∧ y = .str j ∧ i.length + j.length ≤ sizeLine ∧ Q (.str (i ++ j)) H) := by
  intro pins s σ H x y v u Q I rx ry h
  obtain ⟨i, j, rfl, rfl, hz, q⟩ := h
  obtain ⟨t, rfl⟩ := rx
  obtain ⟨t', rfl⟩ := ry
  exact iadd_str (fun t' tk => ⟨.str (i ++ j), H, I.tok _, ⟨_, rfl⟩, q⟩) hz
theorem op_add_byt : OpR X (binaryOp .Add) (fun x y H Q => ∃ i j, x = .byt i ∧ y = .byt j ∧ i.size + j.size ≤ 16777216 ∧ Q (.byt (i ++ j)) H) := by
  intro pins s σ H x y v u Q I rx ry h
  obtain ⟨i, j, rfl, rfl, hz, q⟩ := h
  obtain ⟨t, rfl⟩ := rx
  obtain ⟨t', rfl⟩ := ry
  exact PySem.W.KBy.add_bytes hz (fun t' tk => ⟨.byt (i ++ j), H, I.tok _, ⟨_, rfl⟩, q⟩)

def PlainIxT (b : Expr) : Prop := ∀ o i, subscripted b false o i = operate [o, i] (getItem o i)
/-- s[i], 0 ≤ i < len -/
theorem pe_item_str (ha : PE X a ta) (hb : PE X b tb) (hs : PlainIxT b) :
    PE X (.Subscript a b pos) (tOp (fun x y H Q => ∃ z i c, x = .str z ∧ y = .int i ∧ 0 ≤ i ∧ i < 2 ^ 63 ∧ i < z.length ∧ z.cps[i.toNat]? = some c ∧ Q (.str ⟨#[c]⟩) H) ta tb) := by
  intro pins s σ H Q I h
  refine Subscript_ (binT ha hb I h fun v u s2 x y H2 I2 rx ry q => ?_)
  obtain ⟨z, i, c, rfl, rfl, h0, h63, h1, hc, q⟩ := q
  obtain ⟨t, rfl⟩ := rx
  obtain ⟨t', rfl⟩ := ry
  have e : seqIndex? i z.length = some i.toNat := PySem.StrLaws.seqIndex_nonneg h0 h1
  exact tail_any (typeIs_str s2 z t) slot_str_getitem.lookup (getItem_str (c := c) (by
    have e1 : decide (i < -(2 ^ 63 : Int)) = false := decide_eq_false (by omega)
    have e2 : decide (i ≥ 2 ^ 63) = false := decide_eq_false (by omega)
    rw [e1, e2] <;> rfl) (by rw [e]; exact hc) ⟨.str ⟨#[c]⟩, H2, I2.tok _, ⟨_, rfl⟩, q⟩) (hs _ _)
/-- b[i], 0 ≤ i < len -/
theorem pe_item_byt (ha : PE X a ta) (hb : PE X b tb) (hs : PlainIxT b) :
    PE X (.Subscript a b pos) (tOp (fun x y H Q => ∃ (z : List UInt8) (i : Int), x = .byt z.toArray ∧ y = .int i ∧ z.length ≤ sizeLine ∧ 0 ≤ i ∧ i < z.length ∧ Q (.int ((z.getD i.toNat 0).toNat : Nat)) H) ta tb) := by
  intro pins s σ H Q I h
  refine Subscript_ (binT ha hb I h fun v u s2 x y H2 I2 rx ry q => ?_)
  obtain ⟨z, i, rfl, rfl, hz, h0, h1, q⟩ := q
  obtain ⟨t, rfl⟩ := rx
  obtain ⟨t', rfl⟩ := ry
  have hl : sizeLine = 16777216 := sizeLine_eq
  exact tail_any (PySem.W.typeIs_bytes s2 z.toArray t) PySem.W.FB.slot_bytes_getitem.lookup (PySem.W.getItem_bytes (by omega) h0 h1 ⟨.int ((z.getD i.toNat 0).toNat : Nat), H2, I2.tok _, ⟨_, rfl⟩, q⟩) (hs _ _)

/-! ### scalar builtins, by CallR -/
theorem vals1 {x : V} {us : List Value} (r : Vals [x] us) : ∃ u, us = [u] ∧ RelV x u := by
  cases r with
  | cons r1 r2 => cases r2; exact ⟨_, rfl, r1⟩
theorem vals2 {x y : V} {us : List Value} (r : Vals [x, y] us) : ∃ u w', us = [u, w'] ∧ RelV x u ∧ RelV y w' := by
  cases r with
  | cons r1 r2 =>
    cases r2 with
    | cons r3 r4 => cases r4; exact ⟨_, _, rfl, r1, r3⟩
theorem call_abs : CallR X (.builtin "abs") (fun xs H Q => ∃ i, xs = [.int i] ∧ Q (.int (if i < 0 then -i else i)) H) := by
  intro pins s σ H xs us Q I r h
  obtain ⟨i, rfl, q⟩ := h
  obtain ⟨u, rfl, t, rfl⟩ := vals1 r
  exact call_abs_int fun u tk => ⟨.int (if i < 0 then -i else i), H, I.tok _, ⟨_, rfl⟩, q⟩
theorem call_max2 (hc : X.calm = true) : CallR X (.builtin "max") (fun xs H Q => ∃ i j, xs = [.int i, .int j] ∧ Q (.int (if j > i then j else i)) H) := by
  intro pins s σ H xs us Q I r h
  obtain ⟨i, j, rfl, q⟩ := h
  obtain ⟨u, w', rfl, ⟨t, rfl⟩, ⟨t', rfl⟩⟩ := vals2 r
  refine max_two_ints (I.ok.hd hc) fun h' tk k => ⟨_, H, I.kept k, ?_, q⟩
  by_cases hj : j > i
  · rw [if_pos hj, if_pos hj]; exact ⟨_, rfl⟩
  · rw [if_neg hj, if_neg hj]; exact ⟨_, rfl⟩
theorem call_min2 (hc : X.calm = true) : CallR X (.builtin "min") (fun xs H Q => ∃ i j, xs = [.int i, .int j] ∧ Q (.int (if j < i then j else i)) H) := by
  intro pins s σ H xs us Q I r h
  obtain ⟨i, j, rfl, q⟩ := h
  obtain ⟨u, w', rfl, ⟨t, rfl⟩, ⟨t', rfl⟩⟩ := vals2 r
  refine min_two_ints (I.ok.hd hc) fun h' tk k => ⟨_, H, I.kept k, ?_, q⟩
  by_cases hj : j < i
  · rw [if_pos hj, if_pos hj]; exact ⟨_, rfl⟩
  · rw [if_neg hj, if_neg hj]; exact ⟨_, rfl⟩
theorem call_int1 : CallR X (.type "int") (fun xs H Q => (∃ i, xs = [.int i] ∧ Q (.int i) H) ∨ ∃ k, xs = [.bl k] ∧ Q (.int (if k then 1 else 0)) H) := by
  intro pins s σ H xs us Q I r h
  rcases h with ⟨i, rfl, q⟩ | ⟨k, rfl, q⟩
  · obtain ⟨u, rfl, t, rfl⟩ := vals1 r
    exact call_int_int ⟨.int i, H, I, ⟨_, rfl⟩, q⟩
  · obtain ⟨u, rfl, r1⟩ := vals1 r
    cases r1
    exact call_int_bool ⟨.int (if k then 1 else 0), H, I.tok _, ⟨_, rfl⟩, q⟩
theorem call_bool1 : CallR X (.type "bool") (fun xs H Q => (∃ i, xs = [.int i] ∧ Q (.bl (i != 0)) H) ∨ ∃ k, xs = [.bl k] ∧ Q (.bl k) H) := by
  intro pins s σ H xs us Q I r h
  rcases h with ⟨i, rfl, q⟩ | ⟨k, rfl, q⟩
  · obtain ⟨u, rfl, t, rfl⟩ := vals1 r
    exact call_bool_int ⟨.bl (i != 0), H, I, rfl, q⟩
  · obtain ⟨u, rfl, r1⟩ := vals1 r
    cases r1
    exact call_bool_bool ⟨.bl k, H, I, rfl, q⟩
theorem call_str_int : CallR X (.type "str") (fun xs H Q => ∃ i, xs = [.int i] ∧ i.natAbs.log2 < 1920 ∧ Q (.str (toString i)) H) := by
  intro pins s σ H xs us Q I r h
  obtain ⟨i, rfl, hz, q⟩ := h
  obtain ⟨u, rfl, t, rfl⟩ := vals1 r
  exact PySem.P.str_of_int hz ⟨.str _, H, I.tok _, ⟨_, rfl⟩, q⟩
theorem call_ord : CallR X (.builtin "ord") (fun xs H Q => ∃ x, xs = [.str x] ∧ x.length = 1 ∧ Q (.int (x.cps.getD 0 0 : Nat)) H) := by
  intro pins s σ H xs us Q I r h
  obtain ⟨x, rfl, hz, q⟩ := h
  obtain ⟨u, rfl, t, rfl⟩ := vals1 r
  exact ord_of_one hz ⟨.int _, H, I.tok _, ⟨_, rfl⟩, q⟩
theorem call_chr : CallR X (.builtin "chr") (fun xs H Q => ∃ i, xs = [.int i] ∧ 0 ≤ i ∧ i ≤ 1114111 ∧ Q (.str ⟨#[i.toNat]⟩) H) := by
  intro pins s σ H xs us Q I r h
  obtain ⟨i, rfl, h0, h1, q⟩ := h
  obtain ⟨u, rfl, t, rfl⟩ := vals1 r
  exact chr_of_range h0 h1 ⟨.str _, H, I.tok _, ⟨_, rfl⟩, q⟩
/-- len of a str, a bytes, a list, a tuple -/
def LenV (K : PySem.W.Frag) (x : V) (H : Hp) (n : Nat) : Prop :=
  match x with
  | .str y => y.length ≤ sizeLine ∧ n = y.length
  | .byt y => y.size ≤ sizeLine ∧ n = y.size
  | .ref p => (∃ xs, SqL K H p xs ∧ n = xs.length) ∨ ∃ xs, SqT K H p xs ∧ n = xs.length
  | _ => False
theorem call_len : CallR X (.builtin "len") (fun xs H Q => ∃ x n, xs = [x] ∧ LenV X.K x H n ∧ Q (.int n) H) := by
  intro pins s σ H xs us Q I r h
  obtain ⟨x, n, rfl, e, q⟩ := h
  obtain ⟨u, rfl, rx⟩ := vals1 r
  have hl := line63
  have hs : sizeLine = 16777216 := sizeLine_eq
  cases x with
  | str y =>
    obtain ⟨t, rfl⟩ := rx
    obtain ⟨hy, e'⟩ : y.length ≤ sizeLine ∧ n = y.length := e
    subst e'
    exact len_str (by omega) ⟨.int _, H, I.tok _, ⟨_, rfl⟩, q⟩
  | byt y =>
    obtain ⟨t, rfl⟩ := rx
    obtain ⟨hy, e'⟩ : y.size ≤ sizeLine ∧ n = y.size := e
    subst e'
    exact PySem.W.len_bytes (by omega) ⟨.int _, H, I.tok _, ⟨_, rfl⟩, q⟩
  | ref p =>
    cases rx
    have e' : (∃ xs, SqL X.K H p xs ∧ n = xs.length) ∨ ∃ xs, SqT X.K H p xs ∧ n = xs.length := e
    rcases e' with ⟨xs, hx, e'⟩ | ⟨xs, hx, e'⟩
    · subst e'
      obtain ⟨its, r', pl, hz⟩ := I.list hx
      have hlen := r'.length
      exact Calls.call_len_list pl.isList (by simp only [List.size_toArray]; omega) ⟨.int xs.length, H, I.tok _, ⟨_, by simp only [List.size_toArray]; rw [hlen]⟩, q⟩
    · subst e'
      obtain ⟨its, r', pl, hz⟩ := I.tuple hx
      have hlen := r'.length
      exact len_tuple pl (by simp only [List.size_toArray]; omega) ⟨.int xs.length, H, I.tok _, ⟨_, by simp only [List.size_toArray]; rw [hlen]⟩, q⟩
  | _ => exact (show False from e).elim
/-- divmod: a new tuple -/
theorem call_divmod : CallR X (.builtin "divmod") (fun xs H Q => ∃ i j, xs = [.int i, .int j] ∧ CDiv i j ∧ ∀ p, H p = none → Q (.ref p) (upd H p (.tup [.int (i / j), .int (i % j)]))) := by
  intro pins s σ H xs us Q I r h
  obtain ⟨i, j, rfl, ⟨h1, h2⟩, q⟩ := h
  obtain ⟨u, w', rfl, ⟨t, rfl⟩, ⟨t', rfl⟩⟩ := vals2 r
  refine divmod_int (by omega) ?_ (.inl (PyProof.noPylong_small (by omega)))
  rw [Int.fdiv_eq_ediv_of_nonneg i (by omega), Int.fmod_eq_emod_of_nonneg i (by omega)]
  have hn : H s.heap.objs.size = none := I.hok.fresh (Nat.le_refl _)
  refine ⟨.ref s.heap.objs.size, _, ?_, rfl, q _ hn⟩
  refine I.laid (fun b o e => Heap.get?_push_of_some _ e) (Nat.le_refl _) ⟨by simp only [List.length_cons, List.length_nil]; rw [sizeLine_eq]; decide, [.int (i / j) s.toks, .int (i % j) (s.toks + 1)], .cons ⟨_, rfl⟩ (.cons ⟨_, rfl⟩ .nil), ?_⟩
  exact ⟨_, Heap.get?_push_size s.heap rfl, rfl, 0, rfl⟩
end
end L2

namespace L2
open PySem PySem.Spec PyProof.Rows

/-! ### an instance, its attributes a map -/
structure ObjM (h : Heap) (x dx C : Addr) (mA : Str → Option Value) : Prop where
  obj : h.get? x = some (PySem.W.instObj C dx)
  ns : h.Ns1 dx mA
  ne : dx ≠ x

theorem lookIn_ns {h : Heap} {dx : Addr} {mA : Str → Option Value} (n : h.Ns1 dx mA) : ∃ od, h.get? dx = some od ∧ ∀ name, PySem.W.lookIn name od = some (mA name) := by
  obtain ⟨o, es, ep, ho, hd, hk, _, hm⟩ := n
  refine ⟨o, ho, fun name => ?_⟩
  have e := hm name
  unfold nsFind findBy at e
  rw [← Array.find?_toList] at e
  unfold PySem.W.lookIn
  rw [hd]
  dsimp only
  split
  · rename_i y q
    rw [q] at e
    exact congrArg some e
  · rename_i q
    rw [q] at e
    have a : es.toList.any (·.refKey) = false := by
      rw [List.any_eq_false]
      intro y hy
      obtain ⟨z, t, hkey⟩ := hk y (Array.mem_toList_iff.mp hy)
      simp [DictEntry.refKey, hkey]
    have a' : ¬ es.toList.any (·.refKey) = true := by rw [a]; exact Bool.false_ne_true
    rw [if_neg a']
    exact congrArg some e

theorem ObjM.look {h : Heap} {x dx C : Addr} {mA : Str → Option Value} (I : ObjM h x dx C mA) : ∃ od, PySem.W.InstAt h x (PySem.W.instObj C dx) C (some od) ∧ ∀ name, PySem.W.lookIn name od = some (mA name) :=
  let ⟨od, ho, hl⟩ := lookIn_ns I.ns
  ⟨od, ⟨I.obj, rfl, rfl, ho⟩, hl⟩

section
variable {prog : Program} {w : World} {A : Around} {E : Value → Shared → Prop} {s : Shared} {K : PySem.W.Frag} {x dx C f : Addr} {mA : Str → Option Value} {name : Str} {v : Value}

theorem get_map {expr : Bool} {Q : Value → Shared → Prop} (X : K.In s.heap) (I : ObjM s.heap x dx C mA) (hg : PySem.W.plainGet K C name = true) (hh : PySem.W.hasDictIn K C = true)
    (ha : PySem.W.findIn K (.ref C) name = some none) (hv : mA name = some v) (hv' : PySem.W.handedIn v = true) (h : Q v { s with toks := s.toks + 1 }) :
    wpAny (model prog w) A (getAttr (.ref x) name expr) Q E s := by
  obtain ⟨od, J, hl⟩ := I.look
  exact PySem.W.get_value X J (PySem.W.plainGet_of hg).1 (PySem.W.findObj_own hh ha rfl (by rw [hl, hv])) hv' h

theorem get_const {expr : Bool} {a : Value} {Q : Value → Shared → Prop} (X : K.In s.heap) (I : ObjM s.heap x dx C mA) (hg : PySem.W.plainGet K C name = true) (hh : PySem.W.hasDictIn K C = true)
    (ha : PySem.W.findIn K (.ref C) name = some (some a)) (hn : PySem.W.specialIn K a "__get__" = some none) (hc : PySem.W.copiedNames.contains name = false) (hv : mA name = none) (hv' : PySem.W.handedIn a = true)
    (h : Q a { s with toks := s.toks + 1 }) : wpAny (model prog w) A (getAttr (.ref x) name expr) Q E s := by
  obtain ⟨od, J, hl⟩ := I.look
  exact PySem.W.get_value X J (PySem.W.plainGet_of hg).1 (PySem.W.findObj_cls hh ha hn hv' hc (by rw [hl, hv])) hv' h

theorem get_meth {pl : Sem Bool} {Q : Value × List Value → Shared → Prop} (X : K.In s.heap) (I : ObjM s.heap x dx C mA) (hg : PySem.W.plainGet K C name = true)
    (hf : PySem.W.findIn K (.ref C) name = some (some (.ref f))) (ht : PySem.W.isFn K (.ref f) = true) (hv : mA name = none) (h : Q (.ref f, [.ref x]) s) :
    wpAny (model prog w) A (getMethod (.ref x) name pl) Q E s := by
  obtain ⟨od, J, hl⟩ := I.look
  exact PySem.W.method_fn X J (PySem.W.plainGet_of hg).1 (PySem.W.plainGet_of hg).2 hf (beq_iff_eq.mp ht) (by show (PySem.W.lookIn name od).map (·.isSome) = some false; rw [hl, hv]; rfl) h

theorem set_map {ns : List Str} {Q : Unit → Shared → Prop} (X : K.In s.heap) (I : ObjM s.heap x dx C mA)
    (hs : PySem.W.findIn K (.ref C) "__setattr__" = some (some (.builtin "object.__setattr__"))) (hp : PySem.W.plainOver K C = true) (ht : PySem.W.takerIn K C name = some none) (hh : PySem.W.hasDictIn K C = true)
    (hw : PySem.Within mA ns) (hsz : ns.length ≤ sizeLine)
    (h : ∀ h', ObjM h' x dx C (fun y => if y = name then some v else mA y) → Heap.SameBut dx s.heap h' → Q () { s with heap := h', toks := s.toks + 2 }) :
    wpAny (model prog w) A (setAttr (.ref x) name v) Q E s := by
  obtain ⟨od, J, hl⟩ := I.look
  refine PySem.W.set_plain X J hs (PySem.W.osa_open (s := { s with toks := s.toks + 1 }) (r := none) X J hp ht fun b => ?_)
  obtain ⟨cd, hc, hd'⟩ := PySem.W.any_some hh
  have hx : s.heap.get? x = some ⟨.ref C, some dx, .plain, #[]⟩ := I.obj
  refine wpAny_bind (wpAny_pure (wpAny_bind (wpAny_bind (wpAny_loadPart hx (wpAny_bind (PySem.W.Looks.here (s := { s with toks := s.toks + 1 }) (PySem.W.looks_clsIn X hc) ?_))))))
  rw [hd']
  refine wpAny_pure (a := some dx) (wpAny_bind (wpAny_pure (wpAny_bind ?_)))
  refine wpAny_nsSet1 (s := { s with toks := s.toks + 1 }) I.ns fun h' hn2 hs2 => ?_
  obtain ⟨oD, esD, epD, hoD, hdD, hcD⟩ := hn2.count (PySem.Within.cons name v hw)
  refine wpAny_bind (wpAny_lookBehind hoD (by rw [hdD]; exact pastItsLine_dict (Nat.le_trans hcD (by rw [List.length_cons]; omega))) ?_)
  exact wpAny_pure (h _ ⟨(hs2.2 _ (Ne.symm I.ne)).trans I.obj, hn2, I.ne⟩ hs2)

/-- C(..): the dict at the heap's end, the instance behind it; then its __init__ -/
theorem make_map {R : Result → Shared → Prop} {vs : List Value} {kw : List (Str × Value)} (X : K.In s.heap) (hm : PySem.W.makesIn K C = true)
    (hi : PySem.W.findIn K (.ref C) "__init__" = some (some (.ref f))) (hf : PySem.W.typeIn K (.ref f) = some (.type "function"))
    (h : codeAny (model prog w) (A.under (.builtin "type.__call__" ⟨.ref C :: vs, kw⟩)) (.call (.ref f) ⟨.ref (s.heap.objs.size + 1) :: vs, kw⟩) (PySem.W.InitBack (s.heap.objs.size + 1) R)
      { s with heap := (s.heap.push PySem.W.emptyDict).push (PySem.W.instObj C s.heap.objs.size) }) :
    codeAny (model prog w) A (.call (.ref C) ⟨vs, kw⟩) R s := by
  obtain ⟨hh, g, d, t, os⟩ := s
  exact PySem.W.make_core (PySem.W.makes_of X hm) (PySem.W.looks_findIn X hi) (fun self => PySem.W.bind_fn X self hf) (.inl rfl) h
/-- C() where there is no __init__ but object's -/
theorem make_map0 {R : Result → Shared → Prop} (X : K.In s.heap) (hm : PySem.W.makesIn K C = true)
    (hi : PySem.W.findIn K (.ref C) "__init__" = some (some (.builtin "object.__init__")))
    (hb : ∀ self, PySem.W.Looks (model prog w) s.heap (bindSpecial (.builtin "object.__init__") self) (.builtin "object.__init__", [self]))
    (h : codeAny (model prog w) (A.under (.builtin "type.__call__" ⟨[.ref C], []⟩)) (.call (.builtin "object.__init__") ⟨[.ref (s.heap.objs.size + 1)], []⟩) (PySem.W.InitBack (s.heap.objs.size + 1) R)
      { s with heap := (s.heap.push PySem.W.emptyDict).push (PySem.W.instObj C s.heap.objs.size) }) :
    codeAny (model prog w) A (.call (.ref C) ⟨[], []⟩) R s := by
  obtain ⟨hh, g, d, t, os⟩ := s
  exact PySem.W.make_core (PySem.W.makes_of X hm) (PySem.W.looks_findIn X hi) hb (.inr ⟨rfl, rfl⟩) h
end

/-! ### the attributes as a list of pairs -/
def putF (f : Str) (v : V) : List (Str × V) → List (Str × V)
  | [] => [(f, v)]
  | (g, x) :: r => if g = f then (g, v) :: r else (g, x) :: putF f v r
theorem lookup_putF (f g : Str) (v : V) : ∀ fs : List (Str × V), (putF f v fs).lookup g = if g = f then some v else fs.lookup g
  | [] => by
    show List.lookup g [(f, v)] = _
    by_cases h : g = f
    · have hb : (g == f) = true := beq_iff_eq.mpr h
      simp only [List.lookup, hb, if_pos h]
    · have hb : (g == f) = false := beq_eq_false_iff_ne.mpr h
      simp only [List.lookup, hb, if_neg h]
  | (k, x) :: r => by
    have ih := lookup_putF f g v r
    rw [show putF f v ((k, x) :: r) = (if k = f then (k, v) :: r else (k, x) :: putF f v r) from rfl]
    by_cases hk : k = f
    · rw [if_pos hk]
      by_cases h : g = k
      · have hb : (g == k) = true := beq_iff_eq.mpr h
        simp only [List.lookup, hb, if_pos (h.trans hk)]
      · have hb : (g == k) = false := beq_eq_false_iff_ne.mpr h
        simp only [List.lookup, hb, if_neg (fun e : g = f => h (e.trans hk.symm))]
    · rw [if_neg hk]
      by_cases h : g = k
      · have hb : (g == k) = true := beq_iff_eq.mpr h
        simp only [List.lookup, hb, if_neg (fun e : g = f => hk (h.symm.trans e))]
      · have hb : (g == k) = false := beq_eq_false_iff_ne.mpr h
        simp only [List.lookup, hb]
        exact ih
theorem keys_putF (f : Str) (v : V) : ∀ fs : List (Str × V), f ∈ (putF f v fs).map (·.1) ∧ ∀ g, g ∈ fs.map (·.1) → g ∈ (putF f v fs).map (·.1)
  | [] => ⟨by simp [putF], fun g h => by simp at h⟩
  | (k, x) :: r => by
    obtain ⟨i1, i2⟩ := keys_putF f v r
    rw [show putF f v ((k, x) :: r) = (if k = f then (k, v) :: r else (k, x) :: putF f v r) from rfl]
    by_cases hk : k = f
    · rw [if_pos hk]
      subst hk
      exact ⟨by simp, fun g h => by simpa using h⟩
    · rw [if_neg hk]
      refine ⟨?_, fun g h => ?_⟩
      · rw [List.map_cons]
        exact List.mem_cons_of_mem _ i1
      · rw [List.map_cons] at h ⊢
        rcases List.mem_cons.mp h with e | e
        · exact List.mem_cons.mpr (.inl e)
        · exact List.mem_cons_of_mem _ (i2 g e)
theorem length_putF (f : Str) (v : V) : ∀ fs : List (Str × V), (putF f v fs).length ≤ fs.length + 1
  | [] => by simp [putF]
  | (k, x) :: r => by
    have ih := length_putF f v r
    rw [show putF f v ((k, x) :: r) = (if k = f then (k, v) :: r else (k, x) :: putF f v r) from rfl]
    by_cases hk : k = f
    · rw [if_pos hk, List.length_cons, List.length_cons]; omega
    · rw [if_neg hk, List.length_cons, List.length_cons]; omega

theorem RelO.some_of {v : V} {o : Option Value} (r : RelO (some v) o) : ∃ u, o = some u ∧ RelV v u := by
  cases o with
  | none => exact (show False from r).elim
  | some u => exact ⟨u, rfl, r⟩
theorem RelO.none_of {o : Option Value} (r : RelO none o) : o = none := by
  cases o with
  | none => rfl
  | some u => exact (show False from r).elim
theorem handed_of {v : V} {u : Value} (r : RelV v u) : PySem.W.handedIn u = true := by
  cases v with
  | non => cases (show u = Value.none from r); rfl
  | bl b => cases (show u = Value.bool b from r); rfl
  | int i => obtain ⟨t, e⟩ := (show ∃ t, u = Value.int i t from r); cases e; rfl
  | str x => obtain ⟨t, e⟩ := (show ∃ t, u = Value.str x t from r); cases e; rfl
  | byt b => obtain ⟨t, e⟩ := (show ∃ t, u = Value.bytes b t from r); cases e; rfl
  | flt b => obtain ⟨t, e⟩ := (show ∃ t, u = Value.float b t from r); cases e; rfl
  | ref a => cases (show u = Value.ref a from r); rfl
  | ty n => cases (show u = Value.type n from r); rfl

section
variable {P : Program} {w : World} {H H' : Hp} {h h' : Heap} {a C dx : Addr} {fs fs' : List (Str × V)}
theorem ins_get (hok : HOk P w H h) (e : H a = some (.ins C dx fs)) : ∃ mA, ObjM h a dx C mA ∧ (∀ f, RelO (fs.lookup f) (mA f)) ∧ PySem.Within mA (fs.map (·.1)) ∧ fs.length ≤ 1000 ∧ H dx = some (.own a) := by
  obtain ⟨d, z, ne, ob, mA, n, r, q⟩ := (show ObjOk P w H h a (.ins C dx fs) from hok a _ e)
  exact ⟨mA, ⟨ob, n, ne⟩, r, q, z, d⟩
end

/-! ### what of the text a class must have -/
structure Cls (K : PySem.W.Frag) (C : Addr) : Prop where
  pg : PySem.W.plainGet K C Str.empty = true
  hd : PySem.W.hasDictIn K C = true
  po : PySem.W.plainOver K C = true
  sa : PySem.W.findIn K (.ref C) "__setattr__" = some (some (.builtin "object.__setattr__"))
theorem Cls.get {K : PySem.W.Frag} {C : Addr} (c : Cls K C) (f : Str) : PySem.W.plainGet K C f = true := c.pg
/-- no class of it has the name -/
def NoAttr (K : PySem.W.Frag) (C : Addr) (f : Str) : Prop := PySem.W.findIn K (.ref C) f = some none
theorem NoAttr.taker {K : PySem.W.Frag} {C : Addr} {f : Str} (n : NoAttr K C f) : PySem.W.takerIn K C f = some none := by
  unfold PySem.W.takerIn
  rw [show PySem.W.findIn K (.ref C) f = some none from n]
  rfl
/-- a constant of the class -/
structure Con (K : PySem.W.Frag) (C : Addr) (f : Str) (v : V) (u : Value) : Prop where
  at_ : PySem.W.findIn K (.ref C) f = some (some u)
  rel : RelV v u
  get : PySem.W.specialIn K u "__get__" = some none
  cp : PySem.W.copiedNames.contains f = false
/-- a method: a plain def of the class or of one above it -/
structure Meth (K : PySem.W.Frag) (C : Addr) (m : Str) (f : Addr) : Prop where
  at_ : PySem.W.findIn K (.ref C) m = some (some (.ref f))
  fn : PySem.W.isFn K (.ref f) = true
  kp : PySem.W.keepIn K (.ref f) = true

section
variable {X : Cx} {pins : List (Addr × Obj)} {σ : St} {H : Hp} {s : Shared} {a C dx : Addr} {fs : List (Str × V)} {f : Str} {v : V} {A : Around} {E : Value → Shared → Prop}

theorem getattr_ok {b : Bool} {Q : Value → Shared → Prop} (I : Inv X pins σ H s) (e : H a = some (.ins C dx fs)) (c : Cls X.K C) (n : NoAttr X.K C f) (l : fs.lookup f = some v)
    (h : ∀ u s', Inv X pins σ H s' → RelV v u → Q u s') : wpAny (model X.prog X.w) A (getAttr (.ref a) f b) Q E s := by
  obtain ⟨mA, O, r, _, _, _⟩ := ins_get I.hok e
  obtain ⟨u, hu, ru⟩ := RelO.some_of (v := v) (o := mA f) (by rw [← l]; exact r f)
  exact get_map I.kIn O (c.get f) c.hd n hu (handed_of ru) (h u _ (I.tok _) ru)

theorem getcon_ok {b : Bool} {u : Value} {Q : Value → Shared → Prop} (I : Inv X pins σ H s) (e : H a = some (.ins C dx fs)) (c : Cls X.K C) (k : Con X.K C f v u) (l : fs.lookup f = none)
    (h : ∀ s', Inv X pins σ H s' → Q u s') : wpAny (model X.prog X.w) A (getAttr (.ref a) f b) Q E s := by
  obtain ⟨mA, O, r, _, _, _⟩ := ins_get I.hok e
  have hn : mA f = none := RelO.none_of (by rw [← l]; exact r f)
  exact get_const I.kIn O (c.get f) c.hd k.at_ k.get k.cp hn (handed_of k.rel) (h _ (I.tok _))

theorem getmeth_ok {m : Str} {g : Addr} {pl : Sem Bool} {Q : Value × List Value → Shared → Prop} (I : Inv X pins σ H s) (e : H a = some (.ins C dx fs)) (c : Cls X.K C) (k : Meth X.K C m g) (l : fs.lookup m = none)
    (h : Q (.ref g, [.ref a]) s) : wpAny (model X.prog X.w) A (getMethod (.ref a) m pl) Q E s := by
  obtain ⟨mA, O, r, _, _, _⟩ := ins_get I.hok e
  have hn : mA m = none := RelO.none_of (by rw [← l]; exact r m)
  exact get_meth I.kIn O (c.get m) k.at_ k.fn hn h

theorem setattr_ok {y : V} {u : Value} {Q : Unit → Shared → Prop} (I : Inv X pins σ H s) (e : H a = some (.ins C dx fs)) (c : Cls X.K C) (n : NoAttr X.K C f) (hl : fs.length < 1000) (ry : RelV y u)
    (h : ∀ s', Inv X pins σ (upd H a (.ins C dx (putF f y fs))) s' → Q () s') : wpAny (model X.prog X.w) A (setAttr (.ref a) f u) Q E s := by
  obtain ⟨mA, O, r, wi, _, ho⟩ := ins_get I.hok e
  have hz : (fs.map (·.1)).length ≤ sizeLine := by rw [List.length_map, sizeLine_eq]; omega
  refine set_map I.kIn O c.sa c.po n.taker c.hd wi hz fun h' O' sb => h _ ?_
  have hd : ∃ o, h'.get? dx = some o := let ⟨o, _, _, e', _⟩ := O'.ns; ⟨o, e'⟩
  refine I.write (x := a) (e := dx) (by rw [e]; exact True.intro) (.inr ho) (fun b q hb z => (sb.2 b hb).trans z) hd ?_
  refine ⟨by rw [upd_ne O.ne]; exact ho, ?_, O.ne, O'.obj, _, O'.ns, fun g => ?_, fun g hg => ?_⟩
  · have := length_putF f y fs; omega
  · show RelO ((putF f y fs).lookup g) (if g = f then some u else mA g)
    rw [lookup_putF]
    by_cases q : g = f
    · rw [if_pos q, if_pos q]; exact ry
    · rw [if_neg q, if_neg q]; exact r g
  · by_cases q : g = f
    · rw [q]; exact (keys_putF f y fs).1
    · refine (keys_putF f y fs).2 g (wi g fun z => hg ?_)
      show (if g = f then some u else mA g) = none
      rw [if_neg q]; exact z

/-- a new instance, tracked, without attributes -/
theorem Inv.made (I : Inv X pins σ H s) : Inv X pins σ (upd (upd H s.heap.objs.size (.own (s.heap.objs.size + 1))) (s.heap.objs.size + 1) (.ins C s.heap.objs.size []))
    { s with heap := (s.heap.push PySem.W.emptyDict).push (PySem.W.instObj C s.heap.objs.size) } := by
  have e1 : (s.heap.push PySem.W.emptyDict).get? s.heap.objs.size = some PySem.W.emptyDict := Heap.get?_push_size s.heap rfl
  have e2 : ((s.heap.push PySem.W.emptyDict).push (PySem.W.instObj C s.heap.objs.size)).get? (s.heap.objs.size + 1) = some (PySem.W.instObj C s.heap.objs.size) := by
    have := Heap.get?_push_size (s.heap.push PySem.W.emptyDict) (o := PySem.W.instObj C s.heap.objs.size) rfl
    rwa [Heap.size_push] at this
  have e3 : (s.heap.push PySem.W.emptyDict).Ns s.heap.objs.size (fun _ => none) := ⟨PySem.W.emptyDict, #[], _, e1, rfl, (fun e he => absurd he (by simp)), fun _ => rfl⟩
  have I1 := I.laid (a := s.heap.objs.size) (o := .own (s.heap.objs.size + 1)) (h' := s.heap.push PySem.W.emptyDict) (t' := s.toks) (fun b u q => Heap.get?_push_of_some _ q) (Nat.le_refl _) ⟨_, e1⟩
  refine I1.laid (a := s.heap.objs.size + 1) (o := .ins C s.heap.objs.size []) (t' := s.toks) (fun b u q => Heap.get?_push_of_some _ q) (Nat.le_of_eq (Heap.size_push _ _)) ?_
  have ne : s.heap.objs.size ≠ s.heap.objs.size + 1 := Nat.ne_of_lt (Nat.lt_succ_self _)
  refine ⟨by rw [upd_ne ne, upd_same], Nat.zero_le _, ne, e2, fun _ => none, (Heap.Ns1.of_empty e3).at fun o q => Heap.get?_push_of_some _ q, fun _ => True.intro, fun y hy => absurd rfl hy⟩

/-- e.f where nothing but the object is asked: through attributeBase (super) and the last hold -/
theorem attr_of {prog : Program} {w : World} {env : Env} {e : Expr} {f : Str} {pos : Pos} {s : Shared} {Q : Value → Shared → Prop} (hb : attributeBase e f env (eval e env) = eval e env)
    (h : wpAny (model prog w) A (eval e env) (fun o s₁ => wpAny (model prog w) A (getAttr o f true) Q E s₁) E s) : wpAny (model prog w) A (eval (.Attribute e f pos) env) Q E s :=
  Attribute_any_ h (by rw [arm_eval_Attribute, hb])
end

/-! ### readings and rules -/
/-- e.f, an attribute of the instance -/
def tFld (K : PySem.W.Frag) (ta : TE) (f : Str) : TE := fun σ H Q => ta σ H fun x H1 => ∃ a C dx fs v, x = .ref a ∧ H1 a = some (.ins C dx fs) ∧ Cls K C ∧ NoAttr K C f ∧ fs.lookup f = some v ∧ Q v H1
/-- e.f, a constant of the class -/
def tCon (K : PySem.W.Frag) (ta : TE) (f : Str) : TE := fun σ H Q => ta σ H fun x H1 => ∃ a C dx fs v u, x = .ref a ∧ H1 a = some (.ins C dx fs) ∧ Cls K C ∧ Con K C f v u ∧ fs.lookup f = none ∧ Q v H1
/-- e.f = value -/
def sFld (K : PySem.W.Frag) (ta tv : TE) (f : Str) : TS := fun D σ H => tv σ H fun y H1 => ta σ H1 fun x H2 => ∃ a C dx fs, x = .ref a ∧ H2 a = some (.ins C dx fs) ∧ Cls K C ∧ NoAttr K C f ∧ fs.length < 1000 ∧
  D.nx σ (upd H2 a (.ins C dx (putF f y fs)))
/-- an augmented operator on two values -/
def InOp (X : Cx) (op : Operator) (rd : V → V → Hp → VK → Prop) : Prop :=
  ∀ (pins : List (Addr × Obj)) (s : Shared) (σ : St) (H : Hp) (x y : V) (u v : Value) (Q : VK), Inv X pins σ H s → RelV x u → RelV y v → rd x y H Q → wpAny (model X.prog X.w) X.A (inplaceOp op u v) (EP X pins σ Q) X.xe s
/-- e.f op= value -/
def sFldAug (K : PySem.W.Frag) (ta tv : TE) (rd : V → V → Hp → VK → Prop) (f : Str) : TS := fun D σ H => ta σ H fun x H1 => ∃ a C dx fs v, x = .ref a ∧ H1 a = some (.ins C dx fs) ∧ Cls K C ∧ NoAttr K C f ∧ fs.lookup f = some v ∧
  tv σ H1 fun y H2 => rd v y H2 fun z H3 => ∃ dx' fs', H3 a = some (.ins C dx' fs') ∧ fs'.length < 1000 ∧ D.nx σ (upd H3 a (.ins C dx' (putF f z fs')))

section
variable {X : Cx} {o e value : Expr} {f : Str} {pos pos' tpos : Pos} {ta tv : TE}
theorem pe_fld (he : PE X e ta) (hb : attributeBase e f X.env (eval e X.env) = eval e X.env) : PE X (.Attribute e f pos) (tFld X.K ta f) := by
  intro pins s σ H Q I h
  refine attr_of hb (thn (he pins s σ H _ I h) fun u s1 ⟨x, H1, I1, rx, a, C, dx, fs, v, ex, ea, c, n, l, q⟩ => ?_)
  subst ex
  obtain rfl : u = Value.ref a := rx
  exact getattr_ok I1 ea c n l fun u' s2 I2 ru => ⟨v, H1, I2, ru, q⟩
theorem pe_con (he : PE X e ta) (hb : attributeBase e f X.env (eval e X.env) = eval e X.env) : PE X (.Attribute e f pos) (tCon X.K ta f) := by
  intro pins s σ H Q I h
  refine attr_of hb (thn (he pins s σ H _ I h) fun u s1 ⟨x, H1, I1, rx, a, C, dx, fs, v, u0, ex, ea, c, k, l, q⟩ => ?_)
  subst ex
  obtain rfl : u = Value.ref a := rx
  exact getcon_ok I1 ea c k l fun s2 I2 => ⟨v, H1, I2, k.rel, q⟩
theorem ps_fld (ha : PE X o ta) (hv : PE X value tv) (hs : swapsWith value (some (.Attribute o f pos')) pos.line X.env = pure false) : PS X (.Assign [.Attribute o f pos'] value pos) (sFld X.K ta tv f) := by
  intro pins s σ H D I h
  refine plainObj_wpAny_Assign_Attribute (thn (hv pins s σ H _ I h) fun u s1 ⟨y, H1, I1, ry, q⟩ => thn (ha pins s1 σ H1 _ I1 q) fun ov s2 ⟨x, H2, I2, rx, a, C, dx, fs, ex, ea, c, n, l, q2⟩ => ?_) hs
  subst ex
  obtain rfl : ov = Value.ref a := rx
  exact setattr_ok I2 ea c n l ry fun s3 I3 => ⟨σ, _, I3, q2⟩
theorem ps_fldaug {op : Operator} {rd : V → V → Hp → VK → Prop} (ha : PE X o ta) (hv : PE X value tv) (hop : InOp X op rd) : PS X (.AugAssign (.Attribute o f tpos) op value pos) (sFldAug X.K ta tv rd f) := by
  intro pins s σ H D I h
  refine wpAny_AugAssign_AttributeAny (thn (ha pins s σ H _ I h) fun ov s1 ⟨x, H1, I1, rx, a, C, dx, fs, v, ex, ea, c, n, l, q⟩ => ?_)
  subst ex
  obtain rfl : ov = Value.ref a := rx
  refine getattr_ok I1 ea c n l fun u s2 I2 ru => thn (hv pins s2 σ H1 _ I2 q) fun w3 s3 ⟨y, H2, I3, ry, q3⟩ => thn (hop pins s3 σ H2 v y u w3 _ I3 ru ry q3) fun w4 s4 ⟨z, H3, I4, rz, dx', fs', ea', l', q4⟩ => ?_
  exact setattr_ok I4 ea' c n l' rz fun s5 I5 => ⟨σ, _, I5, q4⟩
def rAdd : V → V → Hp → VK → Prop := fun x y H Q => ∃ i j, x = .int i ∧ y = .int j ∧ Q (.int (i + j)) H
def rSub : V → V → Hp → VK → Prop := fun x y H Q => ∃ i j, x = .int i ∧ y = .int j ∧ Q (.int (i - j)) H
theorem in_add : InOp X .Add rAdd := by
  rintro pins s σ H x y u v Q I rx ry ⟨i, j, rfl, rfl, q⟩
  obtain ⟨t, rfl⟩ := (show ∃ t, u = Value.int i t from rx)
  obtain ⟨t', rfl⟩ := (show ∃ t', v = Value.int j t' from ry)
  exact PyProof.Rows.iadd_int ⟨.int (i + j), H, I.tok _, ⟨_, rfl⟩, q⟩
theorem in_sub : InOp X .Sub rSub := by
  rintro pins s σ H x y u v Q I rx ry ⟨i, j, rfl, rfl, q⟩
  obtain ⟨t, rfl⟩ := (show ∃ t, u = Value.int i t from rx)
  obtain ⟨t', rfl⟩ := (show ∃ t', v = Value.int j t' from ry)
  exact PyProof.Rows.isub_int ⟨.int (i - j), H, I.tok _, ⟨_, rfl⟩, q⟩

/-- what is between an instance and its method: the tree of a method call -/
theorem methcall_of {pl : Sem Bool} {m : Str} {apos : Pos} {args : List Expr} {pins : List (Addr × Obj)} {s : Shared} {σ : St} {H : Hp} {Q : Value → Shared → Prop} {te : TE} (he : PE X e te) (I : Inv X pins σ H s)
    (h : te σ H fun x H1 => ∃ a C dx fs g, x = .ref a ∧ H1 a = some (.ins C dx fs) ∧ Cls X.K C ∧ Meth X.K C m g ∧ fs.lookup m = none ∧
      ∀ s1, Inv X pins σ H1 s1 → wpAny (model X.prog X.w) X.A (callWith pos (.ref g) [.ref a] (backTo pos (starEach args X.env)) (backToKw pos (keywordEach [] X.env))) Q X.xe s1)
    (ht : eval (.Call (.Attribute e m apos) args [] pos) X.env = (do
      let ov ← eval e X.env
      standAt apos.atName
      let (f, first) ← holding [ov] (getMethod ov m pl)
      callWith pos f first (backTo pos (starEach args X.env)) (backToKw pos (keywordEach [] X.env)))) :
    wpAny (model X.prog X.w) X.A (eval (.Call (.Attribute e m apos) args [] pos) X.env) Q X.xe s := by
  refine PySem.W.methodCall_KW (pl := pl) (thn (he pins s σ H _ I h) fun u s1 ⟨x, H1, I1, rx, a, C, dx, fs, g, ex, ea, c, k, l, q⟩ => ?_) ht
  subst ex
  obtain rfl : u = Value.ref a := rx
  exact getmeth_ok I1 ea c k l (q s1 I1)
end

/-! ### isinstance -/
section
variable {X : Cx} {pins : List (Addr × Obj)} {σ : St} {H : Hp} {s : Shared} {A : Around} {E : Value → Shared → Prop} {Q : Value → Shared → Prop} {c : Value} {b : Bool}
/-- the type of a value, as the fragment's deciders take it; for an instance its class -/
inductive TyOf (K : PySem.W.Frag) (H : Hp) : V → Value → Prop where
  | non : TyOf K H .non (.type "NoneType")
  | bl (x : Bool) : TyOf K H (.bl x) (.type "bool")
  | int (i : Int) : TyOf K H (.int i) (.type "int")
  | str (x : Str) : TyOf K H (.str x) (.type "str")
  | flt (x : UInt64) : TyOf K H (.flt x) (.type "float")
  | lst {a : Addr} {xs : List V} (e : H a = some (.lst xs)) : TyOf K H (.ref a) (.type "list")
  | frz {a : Addr} {o : Obj} {xs : List V} (e : H a = some (.frz o (.lst xs))) : TyOf K H (.ref a) (.type "list")
  | tup {a : Addr} {xs : List V} (e : H a = some (.tup xs)) : TyOf K H (.ref a) (.type "tuple")
  | dK {a : Addr} {kvs : List (Key × V)} (e : H a = some (.dK kvs)) : TyOf K H (.ref a) (.type "dict")
  | dT {a : Addr} {kvs : List (List Key × V)} (e : H a = some (.dT kvs)) : TyOf K H (.ref a) (.type "dict")
  | ins {a C dx : Addr} {fs : List (Str × V)} (e : H a = some (.ins C dx fs)) (cl : Cls K C) (ha : PySem.W.findIn K (.ref C) "__class__" = some (some (.builtin "object.__class__")))
      (hn : PySem.W.specialIn K (.builtin "object.__class__") "__get__" = some (some (.builtin "getset_descriptor.__get__"))) (htk : PySem.W.takesIn K (.builtin "object.__class__") = some true)
      (hm : PySem.W.mroIn K C (.type "object") = some true) : TyOf K H (.ref a) (.ref C)
/-- isinstance(x, c) for one class c, a built-in or an own one: kitOne's answer -/
theorem isinst_ok {x : V} {u t : Value} (I : Inv X pins σ H s) (rx : RelV x u) (ty : TyOf X.K H x t) (e : PySem.W.kitOne X.K t c = some b) (h : ∀ tk, Q (.bool b) { s with toks := tk }) :
    wpAny (model X.prog X.w) A (call (.builtin "isinstance") [u, c]) Q E s := by
  cases ty with
  | non => cases (show u = Value.none from rx); exact PySem.W.kia_one PySem.W.kitx_none I.kIn True.intro e (fun z => nomatch z) h
  | bl y => cases (show u = Value.bool y from rx); exact PySem.W.kia_one PySem.W.kitx_bool I.kIn True.intro e (fun z => nomatch z) h
  | int i => obtain ⟨t, q⟩ := (show ∃ t, u = Value.int i t from rx); cases q; exact PySem.W.kia_one PySem.W.kitx_int I.kIn True.intro e (fun z => nomatch z) h
  | str y => obtain ⟨t, q⟩ := (show ∃ t, u = Value.str y t from rx); cases q; exact PySem.W.kia_one PySem.W.kitx_str I.kIn True.intro e (fun z => nomatch z) h
  | flt y => obtain ⟨t, q⟩ := (show ∃ t, u = Value.float y t from rx); cases q; exact PySem.W.kia_one PySem.W.kitx_float I.kIn True.intro e (fun z => nomatch z) h
  | @lst a xs ea =>
    cases (show u = Value.ref a from rx)
    obtain ⟨_, _, n, _, h1⟩ := (show ObjOk X.prog X.w H s.heap a (.lst xs) from I.hok a _ ea)
    exact PySem.W.kia_one PySem.W.kitx_list I.kIn ⟨_, h1, rfl⟩ e (fun z => nomatch z) h
  | @frz a ob xs ea =>
    cases (show u = Value.ref a from rx)
    obtain ⟨_, _, _, n, _, h1⟩ := (show ObjOk X.prog X.w H s.heap a (.frz ob (.lst xs)) from I.hok a _ ea)
    exact PySem.W.kia_one PySem.W.kitx_list I.kIn ⟨_, h1, rfl⟩ e (fun z => nomatch z) h
  | @tup a xs ea =>
    cases (show u = Value.ref a from rx)
    obtain ⟨_, _, _, p⟩ := (show ObjOk X.prog X.w H s.heap a (.tup xs) from I.hok a _ ea)
    obtain ⟨o, h1, h2, _⟩ := p
    exact PySem.W.kia_one PySem.W.kitx_tuple I.kIn ⟨o, h1, h2⟩ e (fun z => nomatch z) h
  | @dK a kvs ea =>
    cases (show u = Value.ref a from rx)
    obtain ⟨_, _, vs, _, p⟩ := (show ObjOk X.prog X.w H s.heap a (.dK kvs) from I.hok a _ ea)
    obtain ⟨o, es, ep, h1, h2, _⟩ := p
    exact PySem.W.kia_one PySem.W.kitx_dict I.kIn ⟨o, h1, h2.1⟩ e (fun z => nomatch z) h
  | @dT a kvs ea =>
    cases (show u = Value.ref a from rx)
    obtain ⟨_, _, xs, _, o, es, ep, h1, h2, _⟩ := (show ObjOk X.prog X.w H s.heap a (.dT kvs) from I.hok a _ ea)
    exact PySem.W.kia_one PySem.W.kitx_dict I.kIn ⟨o, h1, h2.1⟩ e (fun z => nomatch z) h
  | @ins a C dx fs ea cl ha hn htk hm =>
    cases (show u = Value.ref a from rx)
    obtain ⟨mA, O, _⟩ := ins_get I.hok ea
    obtain ⟨od, J, _⟩ := O.look
    exact PySem.W.kia_one (PySem.W.kitx_own (cl.get _) cl.hd ha hn htk hm) I.kIn J e (fun z => nomatch z) h
end
end L2

namespace L2
open PySem PySem.Spec PyProof.Rows

/-! ### room -/
structure Room (k : Nat) (A : Around) : Prop where
  hd : A.handled = none
  dp : A.depth + 3 * k + 5 < recursionLimit
  un : A.units + 16 * k + 200 < cLine
theorem Room.mono {j k : Nat} {A : Around} (r : Room k A) (h : j ≤ k) : Room j A := ⟨r.hd, by have := r.dp; omega, by have := r.un; omega⟩
theorem Room.deeper {k : Nat} {A : Around} (r : Room (k + 1) A) (env : Env) : Room k (A.deeper env) :=
  ⟨r.hd, by have := r.dp; show A.depth + 1 + 3 * k + 5 < _; omega, by have := r.un; show A.units + 3 + 16 * k + 200 < _; omega⟩
theorem Room.in1 {k : Nat} {A : Around} (r : Room (k + 1) A) : Room k A.in1 :=
  ⟨r.hd, by have := r.dp; show A.depth + 3 * k + 5 < _; omega, by have := r.un; show A.units + 1 + 16 * k + 200 < _; omega⟩
theorem make_depth {A : Around} {C : Addr} {us : List Value} {kw : List (Str × Value)} : (A.under (.builtin "type.__call__" ⟨.ref C :: us, kw⟩)).depth = A.depth + 1 := by
  first | rfl | simp [Around.under, Code.weight, Code.isCreation, Code.isGuard, Code.isCaller, Code.frames, Code.isFrame, guardIds]
theorem make_units {A : Around} {C : Addr} {us : List Value} {kw : List (Str × Value)} : (A.under (.builtin "type.__call__" ⟨.ref C :: us, kw⟩)).units = A.units + 1 := by
  first | rfl | simp [Around.under, Code.cUnits, Code.frames, Code.isFrame]
theorem Room.make {k : Nat} {A : Around} (r : Room (k + 1) A) (C : Addr) (us : List Value) (kw : List (Str × Value)) : Room k (A.under (.builtin "type.__call__" ⟨.ref C :: us, kw⟩)) :=
  ⟨r.hd, by have := r.dp; rw [make_depth]; omega, by have := r.un; rw [make_units]; omega⟩
theorem Room.depth {k : Nat} {A : Around} (r : Room k A) : A.depth < recursionLimit := by have := r.dp; omega
theorem Room.units {k : Nat} {A : Around} (r : Room k A) : A.units + 64 < cLine := by have := r.un; omega
theorem Room.units0 {k : Nat} {A : Around} (r : Room k A) : A.units < cLine := by have := r.un; omega

/-! ### argument lists and displays -/
def tNil : TA := fun _ H Q => Q [] H
def tCons (ta : TE) (tr : TA) : TA := fun σ H Q => ta σ H fun x H1 => tr σ H1 fun xs H2 => Q (x :: xs) H2
section
variable {X : Cx} {e : Expr} {es : List Expr} {te : TE} {t : TA} {pos : Pos}
theorem pa_nil : PA X [] tNil := fun _ _ _ _ H Q I h => Calls.spliced_nil ⟨[], H, I, .nil, h⟩
theorem pa_cons (ha : PE X e te) (hr : PA X es t) (hs : starEach (e :: es) X.env = (false, eval e X.env) :: starEach es X.env := by rfl) : PA X (e :: es) (tCons te t) := by
  intro pos pins s σ H Q I h
  rw [hs]
  show wpAny _ _ (spliced ((false, eval e X.env) :: backTo pos (starEach es X.env))) _ _ s
  refine Calls.spliced_cons (thn (ha pins s σ H _ I h) fun u s1 ⟨x, H1, I1, r1, q1⟩ => ?_)
  exact thn (hr pos pins s1 σ H1 _ I1 q1) fun us s2 ⟨xs, H2, I2, r2, q2⟩ => ⟨x :: xs, H2, I2, .cons r1 r2, q2⟩

/-- a tuple, a list of written items -/
def tTup (t : TA) : TE := fun σ H Q => t σ H fun xs H1 => xs.length ≤ sizeLine ∧ ∀ p, H1 p = none → Q (.ref p) (upd H1 p (.tup xs))
def tLst (t : TA) : TE := fun σ H Q => t σ H fun xs H1 => xs.length ≤ sizeLine ∧ ∀ p, H1 p = none → Q (.ref p) (upd H1 p (.lst xs))
theorem pe_tup {x1} (h : PA X es t) : PE X (.Tuple es x1 pos) (tTup t) := by
  intro pins s σ H Q I hq
  refine wpAny_Tuple_spliced (thn (h pos pins s σ H _ I hq) fun us s1 ⟨xs, H1, I1, r, z, q⟩ => ⟨by rw [← r.length]; exact z, ?_⟩)
  have hf : H1 s1.heap.objs.size = none := I1.hok.fresh (Nat.le_refl _)
  refine ⟨.ref s1.heap.objs.size, upd H1 s1.heap.objs.size (.tup xs), I1.laid (t' := s1.toks) (fun b u e => Heap.get?_push_of_some _ e) (Nat.le_refl _) ?_, rfl, q _ hf⟩
  exact ⟨z, us, r, ⟨_, Heap.get?_push_size _ rfl, rfl, _, rfl⟩⟩
theorem pe_lst (h : PA X es t) : PE X (.List es pos) (tLst t) := by
  intro pins s σ H Q I hq
  refine wpAny_List_spliced (thn (h pos pins s σ H _ I hq) fun us s1 ⟨xs, H1, I1, r, z, q⟩ => ⟨by rw [← r.length]; exact z, ?_⟩)
  have hf : H1 s1.heap.objs.size = none := I1.hok.fresh (Nat.le_refl _)
  refine ⟨.ref s1.heap.objs.size, upd H1 s1.heap.objs.size (.lst xs), I1.laid (t' := s1.toks) (fun b u e => Heap.get?_push_of_some _ e) (Nat.le_refl _) ?_, rfl, q _ hf⟩
  exact ⟨z, us, 0, r, Heap.get?_push_size _ rfl⟩
end

/-! ### what a def promises -/
/-- a def's promise: the bound arguments in the parameters' order, the heap, the wanted end, the wanted exception -/
abbrev Sp := List V → Hp → VK → XK → Prop
/-- how an exception lies behind a call (file 08 gives it): the callers' frames, abstract heap and state ahead of the call, the wish, the exception, the state -/
abbrev CXT := List Env → Hp → Shared → XK → Value → Shared → Prop

/-- the state at a call -/
structure Env0 (P : Program) (w : World) (K : PySem.W.Frag) (mg : Str → Option Value) (base : Heap) (A : Around) (outer : List Env) (s : Shared) (H : Hp) : Prop where
  frames : A.frames = some outer
  mod : Mod K mg base
  bs : ∀ b o, base.get? b = some o → s.heap.get? b = some o ∧ H b = none
  bsz : base.objs.size ≤ s.heap.objs.size
  funs : s.heap.FunFrames base outer
  frf : ∀ b ∈ frs outer, H b = none
  hok : HOk P w H s.heap
  bare : AllBare s.gens
/-- a call's end -/
def CE (outer : List Env) (P : Program) (w : World) (H : Hp) (s : Shared) (Q : VK) (u : Value) (s' : Shared) : Prop :=
  ∃ v H', s'.os = s.os ∧ AllBare s'.gens ∧ Un (frs outer) [] H H' s.heap s'.heap ∧ HOk P w H' s'.heap ∧ RelV v u ∧ Q v H'
def CR (CX : CXT) (outer : List Env) (P : Program) (w : World) (H : Hp) (s : Shared) (Q : VK) (E : XK) (r : Result) (s' : Shared) : Prop :=
  match r with
  | .ok (.ret u) => CE outer P w H s Q u s'
  | .ok _ => False
  | .error e => CX outer H s E e s'
structure FnOk (P : Program) (w : World) (K : PySem.W.Frag) (mg : Str → Option Value) (base : Heap) (CX : CXT) (k : Nat) (f : Addr) (fd : FuncData) (ps : List Str) (sp : Sp) : Prop where
  len : ∀ vs H Q E, sp vs H Q E → vs.length = ps.length
  run : ∀ (A : Around) (outer : List Env) (s : Shared) (H : Hp) (args : Args) (us : List Value) (vs : List V) (Q : VK) (E : XK), Room k A → Env0 P w K mg base A outer s H → BindsTo s fd args (ps.zip us) → Vals vs us → sp vs H Q E →
    codeAny (model P w) A (.call (.ref f) args) (CR CX outer P w H s Q E) s
theorem FnOk.mono {P : Program} {w : World} {K : PySem.W.Frag} {mg : Str → Option Value} {base : Heap} {CX : CXT} {j k : Nat} {f : Addr} {fd : FuncData} {ps : List Str} {sp : Sp} (F : FnOk P w K mg base CX j f fd ps sp) (h : j ≤ k) :
    FnOk P w K mg base CX k f fd ps sp := ⟨F.len, fun A outer s H args us vs Q E hr => F.run A outer s H args us vs Q E (hr.mono h)⟩
/-- a weaker promise -/
theorem FnOk.imp {P : Program} {w : World} {K : PySem.W.Frag} {mg : Str → Option Value} {base : Heap} {CX : CXT} {k : Nat} {f : Addr} {fd : FuncData} {ps : List Str} {sp sp' : Sp} (F : FnOk P w K mg base CX k f fd ps sp)
    (h : ∀ vs H Q E, sp' vs H Q E → sp vs H Q E) : FnOk P w K mg base CX k f fd ps sp' :=
  ⟨fun vs H Q E q => F.len vs H Q E (h _ _ _ _ q), fun A outer s H args us vs Q E hr he hb hv hs => F.run A outer s H args us vs Q E hr he hb hv (h _ _ _ _ hs)⟩

theorem Env0.make {P : Program} {w : World} {K : PySem.W.Frag} {mg : Str → Option Value} {base : Heap} {A : Around} {outer : List Env} {s : Shared} {H : Hp} (e : Env0 P w K mg base A outer s H) (C : Addr) (us : List Value) (kw : List (Str × Value)) :
    Env0 P w K mg base (A.under (.builtin "type.__call__" ⟨.ref C :: us, kw⟩)) outer s H := ⟨by first | exact e.frames | (simpa [Around.under, Code.envs, Code.isFrame, pushEnvs] using e.frames), e.mod, e.bs, e.bsz, e.funs, e.frf, e.hok, e.bare⟩
theorem Env0.in1 {P : Program} {w : World} {K : PySem.W.Frag} {mg : Str → Option Value} {base : Heap} {A : Around} {outer : List Env} {s : Shared} {H : Hp} (e : Env0 P w K mg base A outer s H) :
    Env0 P w K mg base A.in1 outer s H := ⟨e.frames, e.mod, e.bs, e.bsz, e.funs, e.frf, e.hok, e.bare⟩

section
variable {X : Cx} {pins : List (Addr × Obj)} {σ : St} {H : Hp} {s s' : Shared}
/-- from a body: what a callee wants -/
theorem Inv.env0 (I : Inv X pins σ H s) : Env0 X.prog X.w X.K X.mg X.base X.A X.stack s H :=
  ⟨I.ok.frames, I.ok.mod, I.bs, Nat.le_trans I.ok.bsz I.sz, I.stack, I.stkFree, I.hok, I.bare⟩
/-- behind a call -/
theorem Inv.after {Q : VK} {u : Value} (I : Inv X pins σ H s) (h : CE X.stack X.prog X.w H s Q u s') : EP X pins σ Q u s' := by
  obtain ⟨v, H', os, bare, un, hok, r, q⟩ := h
  obtain ⟨hh, g, d, t, os'⟩ := s'
  obtain rfl : os' = s.os := os
  exact ⟨v, H', I.call (h' := hh) (g' := g) (d' := d) (t' := t) (ch := []) un hok bare (fun b z => absurd z (by simp)), r, q⟩
end

/-! ### calls -/
/-- f(..): the written arguments, then the defaults dvs; E: what is wanted of an exception -/
def tCall (sp : Sp) (dvs : List V) (E : XK) (t : TA) : TE := fun σ H Q => t σ H fun vs H1 => sp (vs ++ dvs) H1 Q E
/-- o.m(..) of an instance of the class at C -/
def tMeth (C : Addr) (m : Str) (sp : Sp) (dvs : List V) (E : XK) (ta : TE) (t : TA) : TE := fun σ H Q => ta σ H fun x H1 => ∃ a dx fs, x = .ref a ∧ H1 a = some (.ins C dx fs) ∧ fs.lookup m = none ∧
  t σ H1 fun vs H2 => sp (x :: (vs ++ dvs)) H2 Q E
/-- C(..): a new instance and its dict, then __init__ -/
def tMake (C : Addr) (sp : Sp) (dvs : List V) (E : XK) (t : TA) : TE := fun σ H Q => t σ H fun vs H1 => ∀ x dx, H1 x = none → H1 dx = none → dx ≠ x →
  sp (.ref x :: (vs ++ dvs)) (upd (upd H1 dx (.own x)) x (.ins C dx [])) (fun v H2 => v = .non ∧ Q (.ref x) H2) E

/-- how the parameters are bound: us the positional arguments, kw the keywords' values by name, ds the defaults that fill up -/
def Binds (K : PySem.W.Frag) (fd : FuncData) (ps : List Str) (ds : List Value) : Prop :=
  ∀ (s : Shared) (us : List Value), K.In s.heap → (us ++ ds).length = ps.length → BindsTo s fd ⟨us, []⟩ (ps.zip (us ++ ds))
/-- every parameter is given -/
theorem Binds.all {K : PySem.W.Frag} {fd : FuncData} {ps : List Str} (h : ∀ us : List Value, us.length = ps.length → bindArgs fd ⟨us, []⟩ = pure (ps.zip us)) : Binds K fd ps [] := fun s us _ hl => by
  rw [List.append_nil] at hl ⊢
  exact .of_eq (h us hl)

/-- an exception of a callee reaches what this body wants of exceptions -/
def Passes (CX : CXT) (X : Cx) (E : XK) : Prop := ∀ (pins : List (Addr × Obj)) (σ : St) (H : Hp) (s : Shared) (e : Value) (s' : Shared), Inv X pins σ H s → CX X.stack H s E e s' → X.xe e s'

section
variable {X : Cx} {CX : CXT} {k : Nat} {f C : Addr} {fd : FuncData} {ps : List Str} {sp : Sp} {dvs : List V} {ds : List Value} {E : XK} {x m : Str} {p pos apos : Pos} {e o : Expr} {es : List Expr} {ta : TE} {t : TA}

/-- the callee runs -/
theorem run_fn {pins : List (Addr × Obj)} {σ : St} {H : Hp} {s : Shared} {Q : VK} {us : List Value} {vs : List V} (F : FnOk X.prog X.w X.K X.mg X.base CX k f fd ps sp) (hr : Room k X.A) (hb : Binds X.K fd ps ds) (hd : Vals dvs ds) (hx : Passes CX X E)
    (I : Inv X pins σ H s) (r : Vals vs us) (h : sp (vs ++ dvs) H Q E) : wpAny (model X.prog X.w) X.A (call (.ref f) us) (EP X pins σ Q) X.xe s := by
  have r2 : Vals (vs ++ dvs) (us ++ ds) := r.append hd
  have hl : (us ++ ds).length = ps.length := by rw [← r2.length]; exact F.len _ _ _ _ h
  refine wpAny_call (codeAny_mono (F.run X.A X.stack s H ⟨us, []⟩ (us ++ ds) (vs ++ dvs) Q E hr I.env0 (hb s us I.kIn hl) r2 h) fun r s' hq => ?_)
  cases r with
  | error e => exact hx pins σ H s e s' I hq
  | ok fl =>
    cases fl with
    | ret u => exact I.after hq
    | next => exact False.elim hq
    | brk => exact False.elim hq
    | cont => exact False.elim hq

theorem pe_call (F : FnOk X.prog X.w X.K X.mg X.base CX k f fd ps sp) (hr : Room k X.A) (hg : Gl X x) (hm : X.mg x = some (.ref f)) (hk : PySem.W.keepIn X.K (.ref f) = true) (hb : Binds X.K fd ps ds) (hd : Vals dvs ds) (hx : Passes CX X E)
    (ha : PA X (e :: es) t) (hdb : (x == ("__debug__" : Str)) = false := by decide) (he : starEach (e :: es) X.env = (false, eval e X.env) :: starEach es X.env := by rfl) (hpl : (backTo pos (starEach es X.env)).any (·.1) = false := by rfl) :
    PE X (.Call (.Name x p) (e :: es) [] pos) (tCall sp dvs E t) := by
  intro pins s σ H Q I h
  refine wpAny_Call_Name_kw (ld_glob I hg hm ?_ hdb)
  refine PySem.W.callWith_K (h₀ := X.base) I.ok.mod.kin hk (thn (ha pos pins s σ H _ I h) fun us s1 ⟨vs, H1, I1, r, q⟩ => ⟨I1.kIn, ?_⟩) he hpl
  exact run_fn F hr hb hd hx I1 r q
theorem pe_call0 (F : FnOk X.prog X.w X.K X.mg X.base CX k f fd ps sp) (hr : Room k X.A) (hg : Gl X x) (hm : X.mg x = some (.ref f)) (hk : PySem.W.keepIn X.K (.ref f) = true) (hb : Binds X.K fd ps ds) (hd : Vals dvs ds) (hx : Passes CX X E)
    (hdb : (x == ("__debug__" : Str)) = false := by decide) : PE X (.Call (.Name x p) [] [] pos) (tCall sp dvs E tNil) := by
  intro pins s σ H Q I h
  refine wpAny_Call_Name_kw (ld_glob I hg hm ?_ hdb)
  exact PySem.W.callWith_K0 I.kIn hk (run_fn (us := []) F hr hb hd hx I .nil h)

/-- o.m(e, ..) -/
theorem pe_meth {pl : Sem Bool} (he : PE X o ta) (c : Cls X.K C) (hm : Meth X.K C m f) (F : FnOk X.prog X.w X.K X.mg X.base CX k f fd ps sp) (hr : Room k X.A) (hb : Binds X.K fd ps ds) (hd : Vals dvs ds) (hx : Passes CX X E) (ha : PA X (e :: es) t)
    (hst : starEach (e :: es) X.env = (false, eval e X.env) :: starEach es X.env := by rfl) (hpl : (backTo pos (starEach es X.env)).any (·.1) = false := by rfl)
    (ht : eval (.Call (.Attribute o m apos) (e :: es) [] pos) X.env = (do
      let ov ← eval o X.env
      standAt apos.atName
      let (f, first) ← holding [ov] (getMethod ov m pl)
      callWith pos f first (backTo pos (starEach (e :: es) X.env)) (backToKw pos (keywordEach [] X.env))) := by rfl) :
    PE X (.Call (.Attribute o m apos) (e :: es) [] pos) (tMeth C m sp dvs E ta t) := by
  intro pins s σ H Q I h
  refine PySem.W.methodCall_KW (pl := pl) (thn (he pins s σ H _ I h) fun u s1 ⟨x, H1, I1, rx, a, dx, fs, ex, ea, l, q⟩ => ?_) ht
  subst ex
  obtain rfl : u = Value.ref a := rx
  refine getmeth_ok I1 ea c hm l ?_
  refine PySem.W.callWith_K (first := [.ref a]) (h₀ := X.base) I.ok.mod.kin hm.kp (thn (ha pos pins s1 σ H1 _ I1 q) fun us s2 ⟨vs, H2, I2, r, q2⟩ => ⟨I2.kIn, ?_⟩) hst hpl
  exact run_fn (us := .ref a :: us) (vs := .ref a :: vs) F hr hb hd hx I2 (.cons rfl r) q2
/-- o.m() -/
theorem pe_meth0 {pl : Sem Bool} (he : PE X o ta) (c : Cls X.K C) (hm : Meth X.K C m f) (F : FnOk X.prog X.w X.K X.mg X.base CX k f fd ps sp) (hr : Room k X.A) (hb : Binds X.K fd ps ds) (hd : Vals dvs ds) (hx : Passes CX X E)
    (ht : eval (.Call (.Attribute o m apos) [] [] pos) X.env = (do
      let ov ← eval o X.env
      standAt apos.atName
      let (f, first) ← holding [ov] (getMethod ov m pl)
      callWith pos f first (backTo pos (starEach [] X.env)) (backToKw pos (keywordEach [] X.env))) := by rfl) :
    PE X (.Call (.Attribute o m apos) [] [] pos) (tMeth C m sp dvs E ta tNil) := by
  intro pins s σ H Q I h
  refine PySem.W.methodCall_KW (pl := pl) (thn (he pins s σ H _ I h) fun u s1 ⟨x, H1, I1, rx, a, dx, fs, ex, ea, l, q⟩ => ?_) ht
  subst ex
  obtain rfl : u = Value.ref a := rx
  refine getmeth_ok I1 ea c hm l ?_
  exact PySem.W.callWith_K0 (first := [.ref a]) I1.kIn hm.kp (run_fn (us := [.ref a]) (vs := [.ref a]) F hr hb hd hx I1 (.cons rfl .nil) q)

/-- what a class must have to be made -/
structure Mk (K : PySem.W.Frag) (C f : Addr) : Prop where
  makes : PySem.W.makesIn K C = true
  init : PySem.W.findIn K (.ref C) "__init__" = some (some (.ref f))
  fn : PySem.W.isFn K (.ref f) = true
  kp : PySem.W.keepIn K (.ref C) = true

theorem run_make {pins : List (Addr × Obj)} {σ : St} {H : Hp} {s : Shared} {Q : VK} {us : List Value} {vs : List V} (M : Mk X.K C f) (F : FnOk X.prog X.w X.K X.mg X.base CX k f fd ps sp) (hr : Room (k + 1) X.A) (hb : Binds X.K fd ps ds) (hd : Vals dvs ds)
    (hx : Passes CX X E) (I : Inv X pins σ H s) (r : Vals vs us)
    (h : ∀ x dx, H x = none → H dx = none → dx ≠ x → sp (.ref x :: (vs ++ dvs)) (upd (upd H dx (.own x)) x (.ins C dx [])) (fun v H2 => v = .non ∧ Q (.ref x) H2) E) :
    wpAny (model X.prog X.w) X.A (call (.ref C) us) (EP X pins σ Q) X.xe s := by
  have hq := h (s.heap.objs.size + 1) s.heap.objs.size (I.hok.fresh (Nat.le_succ _)) (I.hok.fresh (Nat.le_refl _)) (Nat.ne_of_lt (Nat.lt_succ_self _))
  have I2 := Inv.made (C := C) I
  have r2 : Vals (V.ref (s.heap.objs.size + 1) :: (vs ++ dvs)) (Value.ref (s.heap.objs.size + 1) :: (us ++ ds)) := .cons rfl (r.append hd)
  have hl : (Value.ref (s.heap.objs.size + 1) :: us ++ ds).length = ps.length := by
    have e := r2.length
    rw [F.len _ _ _ _ hq] at e
    exact e.symm
  refine wpAny_call (make_map (f := f) I.kIn M.makes M.init (beq_iff_eq.mp M.fn) (codeAny_mono (F.run _ X.stack _ _ ⟨Value.ref (s.heap.objs.size + 1) :: us, []⟩ (Value.ref (s.heap.objs.size + 1) :: (us ++ ds)) _ _ E (hr.make C us [])
    (I2.env0.make C us []) (hb _ (Value.ref (s.heap.objs.size + 1) :: us) I2.kIn hl) r2 hq) fun r s' hq' => ?_))
  cases r with
  | error e => exact hx pins σ _ _ e s' I2 hq'
  | ok fl =>
    cases fl with
    | ret u =>
      obtain ⟨v, H', I3, rv, ev, q3⟩ := I2.after hq'
      subst ev
      exact ⟨rv, ⟨V.ref (s.heap.objs.size + 1), H', I3, rfl, q3⟩⟩
    | next => exact False.elim hq'
    | brk => exact False.elim hq'
    | cont => exact False.elim hq'
theorem pe_make (M : Mk X.K C f) (F : FnOk X.prog X.w X.K X.mg X.base CX k f fd ps sp) (hr : Room (k + 1) X.A) (hg : Gl X x) (hm : X.mg x = some (.ref C)) (hb : Binds X.K fd ps ds) (hd : Vals dvs ds) (hx : Passes CX X E)
    (ha : PA X (e :: es) t) (hdb : (x == ("__debug__" : Str)) = false := by decide) (he : starEach (e :: es) X.env = (false, eval e X.env) :: starEach es X.env := by rfl) (hpl : (backTo pos (starEach es X.env)).any (·.1) = false := by rfl) :
    PE X (.Call (.Name x p) (e :: es) [] pos) (tMake C sp dvs E t) := by
  intro pins s σ H Q I h
  refine wpAny_Call_Name_kw (ld_glob I hg hm ?_ hdb)
  refine PySem.W.callWith_K (h₀ := X.base) I.ok.mod.kin M.kp (thn (ha pos pins s σ H _ I h) fun us s1 ⟨vs, H1, I1, r, q⟩ => ⟨I1.kIn, ?_⟩) he hpl
  exact run_make M F hr hb hd hx I1 r q
theorem pe_make0 (M : Mk X.K C f) (F : FnOk X.prog X.w X.K X.mg X.base CX k f fd ps sp) (hr : Room (k + 1) X.A) (hg : Gl X x) (hm : X.mg x = some (.ref C)) (hb : Binds X.K fd ps ds) (hd : Vals dvs ds) (hx : Passes CX X E)
    (hdb : (x == ("__debug__" : Str)) = false := by decide) : PE X (.Call (.Name x p) [] [] pos) (tMake C sp dvs E tNil) := by
  intro pins s σ H Q I h
  refine wpAny_Call_Name_kw (ld_glob I hg hm ?_ hdb)
  exact PySem.W.callWith_K0 I.kIn M.kp (run_make (us := []) M F hr hb hd hx I .nil h)
end

/-! ### keywords -/
/-- the values of the keywords, from the left -/
def PK (X : Cx) (kws : List Keyword) (t : TA) : Prop :=
  ∀ (pos : Pos) (pins : List (Addr × Obj)) (s : Shared) (σ : St) (H : Hp) (Q : List V → Hp → Prop), Inv X pins σ H s → t σ H Q → wpAny (model X.prog X.w) X.A (evalAll ((backToKw pos (keywordEach kws X.env)).map (·.2))) (AP X pins σ Q) X.xe s
section
variable {X : Cx} {CX : CXT} {k : Nat} {f C : Addr} {fd : FuncData} {ps ks : List Str} {sp : Sp} {E : XK} {x m : Str} {p pos apos kpos : Pos} {e o : Expr} {es : List Expr} {kws : List Keyword} {te ta : TE} {t tk : TA} {nm : Option Str}
theorem pk_nil : PK X [] tNil := fun _ _ _ _ H Q I h => wpAny_evalAll_nil ⟨[], H, I, .nil, h⟩
theorem pk_cons (ha : PE X e te) (hr : PK X kws t) : PK X (⟨nm, e, kpos⟩ :: kws) (tCons te t) := by
  intro pos pins s σ H Q I h
  show wpAny _ _ (evalAll ((do let v ← eval e X.env; standAt pos; pure v) :: (backToKw pos (keywordEach kws X.env)).map (·.2))) _ _ s
  refine wpAny_evalAll_cons (wpAny_bind (thn (ha pins s σ H _ I h) fun u s1 ⟨x, H1, I1, r1, q1⟩ => wpAny_bind (wpAny_standAt (wpAny_pure ?_))))
  exact thn (hr pos pins s1 σ H1 _ I1 q1) fun us s2 ⟨xs, H2, I2, r2, q2⟩ => ⟨x :: xs, H2, I2, .cons r1 r2, q2⟩

/-- how a call with keywords binds: g puts the positional values us and the keywords' values ws (names ks) in the parameters' order, defaults among them -/
structure KBinds (K : PySem.W.Frag) (fd : FuncData) (ps ks : List Str) (g : List Value → List Value → List Value) (gV : List V → List V → List V) : Prop where
  to : ∀ (s : Shared) (us ws : List Value), K.In s.heap → (g us ws).length = ps.length → BindsTo s fd ⟨us, ks.zip ws⟩ (ps.zip (g us ws))
  rel : ∀ {vs : List V} {us : List Value} {zs : List V} {ws : List Value}, Vals vs us → Vals zs ws → Vals (gV vs zs) (g us ws)
def tCallK (sp : Sp) (gV : List V → List V → List V) (E : XK) (t tk : TA) : TE := fun σ H Q => t σ H fun vs H1 => tk σ H1 fun zs H2 => sp (gV vs zs) H2 Q E
variable {g : List Value → List Value → List Value} {gV : List V → List V → List V}
theorem run_fnk {pins : List (Addr × Obj)} {σ : St} {H : Hp} {s : Shared} {Q : VK} {us ws : List Value} {vs zs : List V} (F : FnOk X.prog X.w X.K X.mg X.base CX k f fd ps sp) (hr : Room k X.A) (hb : KBinds X.K fd ps ks g gV) (hx : Passes CX X E)
    (I : Inv X pins σ H s) (r : Vals vs us) (rz : Vals zs ws) (h : sp (gV vs zs) H Q E) : wpAny (model X.prog X.w) X.A (call (.ref f) us (ks.zip ws)) (EP X pins σ Q) X.xe s := by
  have r2 := hb.rel r rz
  have hl : (g us ws).length = ps.length := by rw [← r2.length]; exact F.len _ _ _ _ h
  refine wpAny_call (codeAny_mono (F.run X.A X.stack s H ⟨us, ks.zip ws⟩ (g us ws) (gV vs zs) Q E hr I.env0 (hb.to s us ws I.kIn hl) r2 h) fun r s' hq => ?_)
  cases r with
  | error e => exact hx pins σ H s e s' I hq
  | ok fl =>
    cases fl with
    | ret u => exact I.after hq
    | next => exact False.elim hq
    | brk => exact False.elim hq
    | cont => exact False.elim hq
/-- f(e, .., k = v, ..) -/
theorem pe_callK (F : FnOk X.prog X.w X.K X.mg X.base CX k f fd ps sp) (hr : Room k X.A) (hg : Gl X x) (hm : X.mg x = some (.ref f)) (hk : PySem.W.keepIn X.K (.ref f) = true) (hb : KBinds X.K fd ps ks g gV) (hx : Passes CX X E)
    (ha : PA X (e :: es) t) (hkw : PK X kws tk) (hall : (backToKw pos (keywordEach kws X.env)).all (·.1.isSome) = true := by rfl) (hks : (backToKw pos (keywordEach kws X.env)).filterMap (·.1) = ks := by rfl)
    (hdb : (x == ("__debug__" : Str)) = false := by decide) (he : starEach (e :: es) X.env = (false, eval e X.env) :: starEach es X.env := by rfl)
    (hpl : ((backTo pos (starEach (e :: es) X.env)).any (·.1) || (backToKw pos (keywordEach kws X.env)).any (·.1.isNone)) = false := by rfl) :
    PE X (.Call (.Name x p) (e :: es) kws pos) (tCallK sp gV E t tk) := by
  intro pins s σ H Q I h
  refine wpAny_Call_Name_kw (ld_glob I hg hm ?_ hdb)
  refine PySem.W.callWith_KW (h₀ := X.base) I.ok.mod.kin hk hall (thn (ha pos pins s σ H _ I h) fun us s1 ⟨vs, H1, I1, r, q⟩ => ?_) hpl he
  refine thn (hkw pos pins s1 σ H1 _ I1 q) fun ws s2 ⟨zs, H2, I2, rz, q2⟩ => ⟨I2.kIn, ?_⟩
  rw [hks]
  exact run_fnk F hr hb hx I2 r rz q2
end

/-! ### a def's body keeps its promise -/
/-- names: the parameters first -/
structure FnScope (N P : List Str) (sc : Scope) : Prop where
  kind : sc.kind = .function
  co : sc.isCoroutine = false
  gen : sc.isGenerator = false
  nd : N.Nodup
  pre : N.take P.length = P
  par : ∀ x ∈ P, sc.names.lookup x = some .local ∨ sc.names.lookup x = some .cell
  nofree : ∀ y ∈ sc.names, y.2 ≠ .free

theorem bindL_out {kindOf : Str → Option NameKind} {x : Str} : ∀ {binds : List (Str × Value)} {m : Str → Option Value}, (∀ v, (x, v) ∉ binds) → bindL kindOf binds m x = m x
  | [], _, _ => rfl
  | (n, v) :: r, m, h => by
    unfold bindL
    rw [bindL_out fun w hw => h w (List.mem_cons_of_mem _ hw)]
    split
    · have : x ≠ n := by rintro rfl; exact h v List.mem_cons_self
      simp [this]
    · rfl
theorem bindC_out {kindOf : Str → Option NameKind} {x : Str} : ∀ {binds : List (Str × Value)} {m : Str → Option Value}, (∀ v, (x, v) ∉ binds) → bindC kindOf binds m x = m x
  | [], _, _ => rfl
  | (n, v) :: r, m, h => by
    unfold bindC
    rw [bindC_out fun w hw => h w (List.mem_cons_of_mem _ hw)]
    split
    · rfl
    · have : x ≠ n := by rintro rfl; exact h v List.mem_cons_self
      simp [this]
theorem bindL_get {kindOf : Str → Option NameKind} {x : Str} {v : Value} : ∀ {P : List Str} {vs : List Value} {i : Nat} {m : Str → Option Value}, P.Nodup → P[i]? = some x → vs[i]? = some v → kindOf x = some .local →
    bindL kindOf (P.zip vs) m x = some v
  | [], _, _, _, _, h, _, _ => by simp at h
  | _ :: _, [], _, _, _, _, h, _ => by simp at h
  | p :: P, w :: vs, 0, m, nd, h1, h2, hk => by
    simp at h1 h2; subst h1; subst h2
    show bindL kindOf ((p, w) :: P.zip vs) m p = _
    unfold bindL
    rw [bindL_out fun v hv => (List.nodup_cons.mp nd).1 (List.of_mem_zip hv).1, if_pos hk]
    simp
  | p :: P, w :: vs, i + 1, m, nd, h1, h2, hk => by
    show bindL kindOf ((p, w) :: P.zip vs) m x = _
    unfold bindL
    exact bindL_get (i := i) (List.nodup_cons.mp nd).2 (by simpa using h1) (by simpa using h2) hk
theorem bindC_get {kindOf : Str → Option NameKind} {x : Str} {v : Value} : ∀ {P : List Str} {vs : List Value} {i : Nat} {m : Str → Option Value}, P.Nodup → P[i]? = some x → vs[i]? = some v → kindOf x ≠ some .local →
    bindC kindOf (P.zip vs) m x = some v
  | [], _, _, _, _, h, _, _ => by simp at h
  | _ :: _, [], _, _, _, _, h, _ => by simp at h
  | p :: P, w :: vs, 0, m, nd, h1, h2, hk => by
    simp at h1 h2; subst h1; subst h2
    show bindC kindOf ((p, w) :: P.zip vs) m p = _
    unfold bindC
    rw [bindC_out fun v hv => (List.nodup_cons.mp nd).1 (List.of_mem_zip hv).1, if_neg hk]
    simp
  | p :: P, w :: vs, i + 1, m, nd, h1, h2, hk => by
    show bindC kindOf ((p, w) :: P.zip vs) m x = _
    unfold bindC
    exact bindC_get (i := i) (List.nodup_cons.mp nd).2 (by simpa using h1) (by simpa using h2) hk

/-- the names' values at the entry -/
def start (N : List Str) (vs : List V) : St := vs.map some ++ List.replicate (N.length - vs.length) none

/-- the context of a def's body, at its entry; an exception leaves the frame, then lies as CX says -/
def cxOf (CX : CXT) (P : Program) (w : World) (K : PySem.W.Frag) (mg : Str → Option Value) (base : Heap) (N : List Str) (qual : Str) (scope : Scope) (f : Addr) (cd : Value) (A : Around) (outer : List Env) (s : Shared) (H : Hp) (E : XK) : Cx where
  prog := P
  w := w
  K := K
  mg := mg
  base := base
  A := A.deeper (envOfC qual scope s.heap.objs.size f cd)
  N := N
  s₀ := s
  H₀ := H
  env := envOfC qual scope s.heap.objs.size f cd
  outer := outer
  stack := envOfC qual scope s.heap.objs.size f cd :: outer
  ex := []
  calm := true
  fn := fun _ => true
  pn := []
  xe := fun e s' => wpAny (model P w) (A.deeper (envOfC qual scope s.heap.objs.size f cd)) (leaving (envOfC qual scope s.heap.objs.size f cd) e) (fun _ s'' => CX outer H s E e s'') (fun e' s'' => CX outer H s E e' s'') s'

theorem cell_has {sc : Scope} {n : Nat} {x : Str} (h : sc.names.lookup x = some .cell) : ∃ c, (cellsFrom n sc.names []).lookup x = some c := by
  have q := PySem.W.cellsFrom_some sc.names n [] (.inl h)
  exact Option.isSome_iff_exists.mp q

theorem inv_start {CX : CXT} {P : Program} {w : World} {K : PySem.W.Frag} {mg : Str → Option Value} {base : Heap} {N ps : List Str} {qual : Str} {scope : Scope} {f : Addr} {cd : Value} {A : Around} {outer : List Env} {s s1 : Shared} {H : Hp} {E : XK} {us : List Value} {vs : List V}
    (S : FnScope N ps scope) (hd : A.handled = none) (e0 : Env0 P w K mg base A outer s H) (hl : vs.length = ps.length) (r : Vals vs us)
    (x : InCallC s s.heap.objs.size (bindL (envOfC qual scope s.heap.objs.size f cd).kindOf (ps.zip us) fun _ => none) (cellsFrom (s.heap.objs.size + 1) scope.names []) (bindC (envOfC qual scope s.heap.objs.size f cd).kindOf (ps.zip us) fun _ => none) s1) :
    Inv (cxOf CX P w K mg base N qual scope f cd A outer s H E) [] (start N vs) H s1 := by
  have hpl : ps.length ≤ N.length := by have := congrArg List.length S.pre; rw [List.length_take] at this; omega
  obtain ⟨h1, tk, rfl, hk⟩ := x.done
  have noA : ∀ b : Addr, b ∉ (cxOf CX P w K mg base N qual scope f cd A outer s H E).ex := fun b z => absurd (show b ∈ ([] : List Addr) from z) (by simp)
  refine ⟨⟨e0.mod, S.kind, rfl, rfl, Nat.le_refl _, fun y z c h1 h2 => ?_, fun y hy => ?_, fun y c _ h => ?_, fun _ => hd, Around.frames_deeper e0.frames, .inr ⟨rfl, rfl⟩, fun b z => absurd z (noA b), e0.bs, e0.bsz, fun b _ _ => noA b, fun b z => absurd z (noA b), e0.funs, e0.frf⟩,
    rfl, e0.bare, Un.kept hk, ⟨_, x.toInCall.ns, fun i y v h1 h2 h3 => ?_⟩, fun y c h => ⟨_, x.cell y c h⟩, e0.hok.fresh (Nat.le_refl _), fun y c h => ?_, fun p hp => absurd (show p ∈ ([] : List (Addr × Obj)) from hp) (by simp), e0.hok.kept hk, ?_⟩
  · exact name_of_addr x.apart (PySem.mem_of_lookup h1) (PySem.mem_of_lookup h2)
  · have hy : scope.names.lookup y = some .cell ∨ scope.names.lookup y = some .free := hy
    rcases hy with hy | hy
    · exact cell_has hy
    · exact absurd rfl (S.nofree _ (PySem.mem_of_lookup hy))
  · exact Nat.le_of_lt (x.above y c (PySem.mem_of_lookup h))
  · have hi : i < vs.length := by
      unfold start at h2
      by_cases hi : i < vs.length
      · exact hi
      · rw [List.getElem?_append_right (by simpa using hi)] at h2
        rw [List.getElem?_replicate] at h2
        split at h2 <;> cases h2
    have ha : vs[i]? = some v := by
      unfold start at h2
      rw [List.getElem?_append_left (by simpa using hi), List.getElem?_map] at h2
      cases e : vs[i]? with
      | none => rw [e] at h2; cases h2
      | some a => rw [e] at h2; cases h2; rfl
    obtain ⟨u, hu, rv⟩ := r.get ha
    have hp : ps[i]? = some y := by
      rw [← S.pre, List.getElem?_take_of_lt (by omega)]; exact h1
    have ndP : ps.Nodup := by rw [← S.pre]; exact S.nd.sublist (List.take_sublist _ _)
    refine ⟨u, rv, ?_⟩
    rcases S.par y (List.mem_of_getElem? hp) with k | k
    · exact .inl ⟨k, bindL_get ndP hp hu k⟩
    · obtain ⟨c, e⟩ := cell_has (n := s.heap.objs.size + 1) k
      refine .inr ⟨.inl k, c, e, ?_⟩
      have q := x.cell y c e
      rw [bindC_get ndP hp hu (by show scope.names.lookup y ≠ _; rw [k]; decide)] at q
      exact q
  · exact e0.hok.fresh (Nat.le_of_lt (x.above y c (PySem.mem_of_lookup h)))
  · unfold start
    show _ = N.length
    rw [List.length_append, List.length_map, List.length_replicate]
    omega

/-- THE RULE: a def (or a method) of the text, by its body. The body's reading t is chosen for each entry; it is run at the parameters' values -/
theorem fn_of {CX : CXT} {P : Program} {w : World} {K : PySem.W.Frag} {mg : Str → Option Value} {base : Heap} {k : Nat} {f : Addr} {name qual : Str} {params : Arguments} {body : List Stmt} {scope : Scope} {dV kV doc pm cdv ct oc : Value} {an od : Option Addr}
    {osl : Array (Option Value)} {N ps : List Str} {sp : Sp} (lk : K.lookup f = some ⟨oc, od, .func (PySem.W.fnOf name qual params body scope dV kV doc pm an cdv ct), osl⟩) (hcd : PySem.W.codeIn K cdv qual = true) (S : FnScope N ps scope)
    (len : ∀ vs H Q E, sp vs H Q E → vs.length = ps.length)
    (hbody : ∀ (A : Around) (outer : List Env) (s : Shared) (H : Hp) (vs : List V) (Q : VK) (E : XK), Room k (A.deeper (envOfC qual scope s.heap.objs.size f cdv)) → sp vs H Q E →
      ∃ t, PSs (cxOf CX P w K mg base N qual scope f cdv A outer s H E) body t ∧ t { nx := fun _ H' => Q .non H', rt := Q } (start N vs) H) :
    FnOk P w K mg base CX (k + 1) f (PySem.W.fnOf name qual params body scope dV kV doc pm an cdv ct) ps sp := by
  refine ⟨len, fun A outer s H args us vs Q E hr e0 hb r hsp => ?_⟩
  have hl := len _ _ _ _ hsp
  have KX : K.In s.heap := e0.mod.kin.keeps fun b o e => (e0.bs b o e).1
  have lim : s.heap.NoLimit := e0.mod.nolimit.keeps fun b o e => (e0.bs b o e).1
  have hkind : ∀ y ∈ ps.zip us, scope.names.lookup y.1 = some .local ∨ (scope.names.lookup y.1 = some .cell ∧ ((cellsFrom (s.heap.objs.size + 1) scope.names []).lookup y.1).isSome = true) := fun ⟨n, v⟩ hy => by
    rcases S.par n (List.of_mem_zip hy).1 with q | q
    · exact .inl q
    · exact .inr ⟨q, PySem.W.cellsFrom_some _ _ _ (.inl q)⟩
  refine codeAny_call_function hr.depth (KX _ _ lk) rfl S.co S.gen rfl (PySem.W.codeRec_of KX hcd) (hb _ _ _ _ ?_)
  refine wpAny_newFunctionEnv_cells S.kind hkind fun env he s1 x => ?_
  subst he
  refine ⟨lim.keeps x.toInCall.keep, codeAny_func ?_⟩
  obtain ⟨t, ht, hq⟩ := hbody A outer s H vs Q E (hr.deeper _) hsp
  have I : Inv (cxOf CX P w K mg base N qual scope f cdv A outer s H E) [] (start N vs) H s1 := inv_start S hr.hd e0 hl r x
  refine wpAny_mono (ht [] s1 (start N vs) H _ I hq) (fun fl s' hs => ?_) fun e s' hs => hs
  have fin : ∀ {σ' : St} {H' : Hp} {v : V} {u : Value}, Inv (cxOf CX P w K mg base N qual scope f cdv A outer s H E) [] σ' H' s' → RelV v u → Q v H' → CE outer P w H s Q u s' :=
    fun {σ' H' v u} J rv q => ⟨v, H', J.os, J.bare, J.base, J.hok, rv, q⟩
  cases fl with
  | ret u =>
    obtain ⟨v, σ', H', J, rv, q⟩ := hs
    exact fin J rv q
  | next =>
    obtain ⟨σ', H', J, q⟩ := hs
    exact fin (v := V.non) (u := Value.none) J rfl q
  | brk =>
    obtain ⟨_, _, _, q⟩ := hs
    exact False.elim q
  | cont =>
    obtain ⟨_, _, _, q⟩ := hs
    exact False.elim q
end L2

namespace L2
open PySem PySem.Spec PyProof.Rows
section
variable {X : Cx} {x : Str} {p pos : Pos} {e : Expr} {es : List Expr} {t : TA} {id T : String} {r : List V → Hp → VK → Prop}

def tCB (r : List V → Hp → VK → Prop) (t : TA) : TE := fun σ H Q => t σ H fun vs H1 => r vs H1 Q
/-- f(e, ..), f a built-in function -/
theorem pe_callB (hc : CallR X (.builtin id) r) (hg : Gl X x) (hm : X.mg x = none) (hv : bootBuiltins x = some (.builtin id)) (ha : PA X (e :: es) t) (hn : x ≠ "__name__" := by decide) (hdb : (x == ("__debug__" : Str)) = false := by decide)
    (he : starEach (e :: es) X.env = (false, eval e X.env) :: starEach es X.env := by rfl) (hpl : (backTo pos (starEach es X.env)).any (·.1) = false := by rfl) : PE X (.Call (.Name x p) (e :: es) [] pos) (tCB r t) := by
  intro pins s σ H Q I h
  refine wpAny_Call_Name_kw (ld_blt I hg hm hv ?_ hn hdb)
  exact PyProof.Rows.callWith_builtin1 (thn (ha pos pins s σ H _ I h) fun us s1 ⟨vs, H1, I1, r1, q1⟩ => hc pins s1 σ H1 vs us Q I1 r1 q1) he hpl
/-- T(e, ..), T a built-in type -/
theorem pe_callTy (hc : CallR X (.type T) r) (hg : Gl X x) (hm : X.mg x = none) (hv : bootBuiltins x = some (.type T)) (ha : PA X (e :: es) t) (hn : x ≠ "__name__" := by decide) (hdb : (x == ("__debug__" : Str)) = false := by decide)
    (he : starEach (e :: es) X.env = (false, eval e X.env) :: starEach es X.env := by rfl) (hpl : (backTo pos (starEach es X.env)).any (·.1) = false := by rfl) : PE X (.Call (.Name x p) (e :: es) [] pos) (tCB r t) := by
  intro pins s σ H Q I h
  refine wpAny_Call_Name_kw (ld_blt I hg hm hv ?_ hn hdb)
  exact PyProof.Rows.callWith_type1 (thn (ha pos pins s σ H _ I h) fun us s1 ⟨vs, H1, I1, r1, q1⟩ => hc pins s1 σ H1 vs us Q I1 r1 q1) he hpl
/-- T() -/
theorem pe_callTy0 (hc : CallR X (.type T) r) (hg : Gl X x) (hm : X.mg x = none) (hv : bootBuiltins x = some (.type T)) (hn : x ≠ "__name__" := by decide) (hdb : (x == ("__debug__" : Str)) = false := by decide) :
    PE X (.Call (.Name x p) [] [] pos) (tCB r tNil) := by
  intro pins s σ H Q I h
  refine wpAny_Call_Name_kw (ld_blt I hg hm hv ?_ hn hdb)
  exact PyProof.Rows.callWith_type0 (hc pins s σ H [] [] Q I .nil h)
end
end L2

namespace HT
open PySem PyProof.Rows

/-- t < u of tuples of ints -/
def lexLt : List Int → List Int → Bool
  | [], [] => false
  | [], _ :: _ => true
  | _ :: _, [] => false
  | x :: xs, y :: ys => if x = y then lexLt xs ys else decide (x < y)
theorem lexLt_cons (x y : Int) (xs ys : List Int) : lexLt (x :: xs) (y :: ys) = if x = y then lexLt xs ys else decide (x < y) := rfl
theorem lexLt_nil_nil : lexLt [] [] = false := rfl
theorem lexLt_nil_cons (y : Int) (ys : List Int) : lexLt [] (y :: ys) = true := rfl
theorem lexLt_cons_nil (x : Int) (xs : List Int) : lexLt (x :: xs) [] = false := rfl

theorem eqAt_int (A : Around) (s : Shared) (a : Int) (t : Tok) (c : Int) (u : Tok) : ∃ e, SeqAt.EqAt A s (.int a t) (.int c u) e ∧ (e = true ↔ a = c) :=
  ⟨(a == c), SeqAt.EqAt.int_int a t c u, by simp⟩
theorem rcLt_int (A : Around) (s : Shared) (a : Int) (t : Tok) (c : Int) (u : Tok) (prog : Program) (w : World) (E : Value → Shared → Prop) (Q : Value → Shared → Prop) (h : Q (.bool (decide (a < c))) s) :
    wpAny (model prog w) A (richCompare .Lt (.int a t) (.int c u)) Q E s :=
  (PyProof.Rows.lt_int h : wpAny (model prog w) A (compareOp .Lt (.int a t) (.int c u)) Q E s)

section
open PySem.SeqAt
open PySem.AutoSeq1 (wpAny_loadPart')
open PySem.MeetsSeq PySem.MeetsSeq2 PySem.MeetsSeq3

theorem tuple_lt_ints (l b : Addr) (items items2 : Array Value) (n n2 : Nat) (dd dd2 : Option Addr) (sl sl2 : Array (Option Value)) (ns ms : List Int) (hi : IntsAre items.toList ns) (hj : IntsAre items2.toList ms) :
    Meets (Builtin.«tuple.__lt__» ⟨[.ref l, .ref b], []⟩)
      (fun _ R s => s.heap.get? l = some { cls := .type "tuple", dict := dd, data := .seq items n, slots := sl } ∧ s.heap.get? b = some { cls := .type "tuple", dict := dd2, data := .seq items2 n2, slots := sl2 } ∧
        R (.ok (.ret (.bool (lexLt ns ms)))) s) :=
  .of_wp fun prog w A R s h => by
    obtain ⟨hp, g, d, tk, os⟩ := s; obtain ⟨hl, hb, h⟩ := h
    have f2 := AutoSeq1.sub_tuple_tuple
    have z1 : items.size = ns.length := by rw [← hi.length]; simp
    have z2 : items2.size = ms.length := by rw [← hj.length]; simp
    wp_walk using wpAny_loadPart' hl, wpAny_loadPart' hb, wpAny_forIn_list _ (fun rest b s' => b.1 = none ∧ s' = ⟨hp, g, d, tk, os⟩ ∧ ∃ (vs ws : List Value) (ns' ms' : List Int), rest = vs.zip ws ∧
      IntsAre vs ns' ∧ IntsAre ws ms' ∧ ns'.length + items2.size = ms'.length + items.size ∧ R (.ok (.ret (.bool (lexLt ns' ms')))) ⟨hp, g, d, tk, os⟩) _
    case turn =>
      rintro ⟨y, x⟩ rest b s' ⟨hb', rfl, vs, ws, ns', ms', hz, hvi, hwi, hlen, hR⟩
      cases hvi with
      | nil => rw [List.zip_nil_left] at hz; cases hz
      | cons a t hvi' =>
        cases hwi with
        | nil => rw [List.zip_nil_right] at hz; cases hz
        | cons c u hwi' =>
          rw [List.zip_cons_cons] at hz
          injection hz with hyx hrest
          injection hyx with hy hx
          subst hy hx
          rw [lexLt_cons] at hR
          simp only [List.length_cons] at hlen
          obtain ⟨e, he, hiff⟩ := eqAt_int A.in1 ⟨hp, g, d, tk, os⟩ a t c u
          refine wpAny_bind (he prog w _ _ ?_)
          cases e with
          | true =>
            rw [if_pos (hiff.mp rfl)] at hR
            wp_walk
            exact ⟨rfl, rfl, _, _, _, _, hrest, hvi', hwi', by omega, hR⟩
          | false =>
            rw [if_neg (fun q => absurd (hiff.mpr q) Bool.false_ne_true)] at hR
            have hri := rcLt_int A.in1 ⟨hp, g, d, tk, os⟩ a t c u prog w
            wp_walk using hri
            exact ⟨_, rfl, by simpa using hR⟩
    case fin =>
      rintro ⟨b1, b2⟩ s' ⟨hb', rfl, vs, ws, ns', ms', hz, hvi, hwi, hlen, hR⟩
      simp only at hb'
      subst hb'
      have hv : lexLt ns' ms' = decide (items.size < items2.size) := by
        cases hvi with
        | nil =>
          cases hwi with
          | nil =>
            simp only [List.length_nil] at hlen
            rw [lexLt_nil_nil]
            exact (decide_eq_false (by omega)).symm
          | cons c u hw =>
            simp only [List.length_nil, List.length_cons] at hlen
            rw [lexLt_nil_cons]
            exact (decide_eq_true (by omega)).symm
        | cons a t hv =>
          cases hwi with
          | nil =>
            simp only [List.length_nil, List.length_cons] at hlen
            rw [lexLt_cons_nil]
            exact (decide_eq_false (by omega)).symm
          | cons c u hw =>
            rw [List.zip_cons_cons] at hz
            cases hz
      rw [hv] at hR
      wp_walk
      exact ⟨_, rfl, by simpa [Builtin.Tuple.tupleCompareSizes] using hR⟩
    case h =>
      exact ⟨rfl, rfl, items.toList, items2.toList, ns, ms, rfl, hi, hj, by omega, h⟩
end

section
variable {prog : Program} {w : World} {A : Around} {E : Value → Shared → Prop} {s : Shared}

theorem lt_tupInts {l b : Addr} {items items2 : Array Value} {ns ms : List Int} {Q : Value → Shared → Prop} (hl : IsTup s.heap l items) (hb : IsTup s.heap b items2) (hi : IntsAre items.toList ns) (hj : IntsAre items2.toList ms)
    (hu : A.units < cLine) (h : Q (.bool (lexLt ns ms)) s) : wpAny (model prog w) A (compareOp .Lt (.ref l) (.ref b)) Q E s := by
  obtain ⟨⟨cls, dd, data, sl⟩, ho, hc, n, hd⟩ := id hl
  obtain ⟨⟨cls2, dd2, data2, sl2⟩, ho2, hc2, n2, hd2⟩ := id hb
  simp only at hc hd hc2 hd2
  subst hc hd hc2 hd2
  exact richCompare_meets_room (op := .Lt) ⟨_, ho, rfl⟩ ⟨_, ho2, rfl⟩ PySem.F.slot_tuple_lt PySem.F.entry_tuple_lt (PySem.F.args_tuple_lt_2 _ _) (tuple_lt_ints l b items items2 n n2 dd dd2 sl sl2 ns ms hi hj)
    ⟨ho, ho2, show Value.bool (lexLt ns ms) ≠ Value.notImplemented ∧ Q (.bool (lexLt ns ms)) s from ⟨(fun x => nomatch x), h⟩⟩ hu

/-- t + u, t not empty -/
theorem cat_tup {t b : Addr} {vs ws : List Value} {Q : Value → Shared → Prop} (ht : IsTup s.heap t vs.toArray) (hb : IsTup s.heap b ws.toArray) (hv : vs ≠ [])
    (h1 : ws = [] → Q (.ref t) s) (h2 : ws ≠ [] → Q (.ref s.heap.objs.size) { s with heap := s.heap.push { cls := .type "tuple", data := .seq (vs ++ ws).toArray } })
    (hsz : vs.length + ws.length ≤ sizeLine) : wpAny (model prog w) A (binaryOp .Add (.ref t) (.ref b)) Q E s := by
  obtain ⟨⟨cls, dd, data, sl⟩, ho, hc, n, hd⟩ := id ht
  obtain ⟨⟨cls2, dd2, data2, sl2⟩, ho2, hc2, n2, hd2⟩ := id hb
  simp only at hc hd hc2 hd2
  subst hc hd hc2 hd2
  have e : vs.toArray ++ ws.toArray = (vs ++ ws).toArray := by simp
  by_cases hw : ws = []
  · exact concat_meets ⟨_, ho, rfl⟩ ⟨_, ho2, rfl⟩ noFill_tuple_add seq_tuple_add PySem.F.slot_tuple_add PySem.F.entry_tuple_add (PySem.F.args_tuple_add_2 _ _)
      (tuple_addW1 t b vs.toArray ws.toArray n n2 dd dd2 sl sl2 (by simpa using hv) (by simp [hw])) ⟨ho, ho2, h1 hw⟩
  · refine concat_meets ⟨_, ho, rfl⟩ ⟨_, ho2, rfl⟩ noFill_tuple_add seq_tuple_add PySem.F.slot_tuple_add PySem.F.entry_tuple_add (PySem.F.args_tuple_add_2 _ _)
      (tuple_addW2 t b vs.toArray ws.toArray n n2 dd dd2 sl sl2 (by simpa using hv) (by simpa using hw) (by rw [List.size_toArray, List.size_toArray]; exact hsz)) ⟨ho, ho2, ?_⟩
    rw [e]
    exact h2 hw

/-! ### t[a:b], not the whole -/
/-- a slice's bound as a place among n (d where it is left out) -/
def sIx (n d : Nat) : Option Int → Nat
  | none => d
  | some v => if v < 0 then (v + (n : Int)).toNat else min v.toNat n
theorem sIx_none (n d : Nat) : sIx n d none = d := rfl
theorem sIx_nat (n d k : Nat) : sIx n d (some (k : Int)) = min k n := by
  show (if (k : Int) < 0 then ((k : Int) + (n : Int)).toNat else min (k : Int).toNat n) = min k n
  rw [if_neg (by omega), Int.toNat_natCast]
theorem sIx_le (n d : Nat) (hd : d ≤ n) (o : Option Int) : sIx n d o ≤ n := by
  cases o with
  | none => exact hd
  | some v =>
    show (if v < 0 then (v + (n : Int)).toNat else min v.toNat n) ≤ n
    by_cases hv : v < 0
    · rw [if_pos hv]; omega
    · rw [if_neg hv]; exact Nat.min_le_right _ _
theorem clip_eq (v : Int) (n d : Nat) : (if v < 0 then max (v + (n : Int)) 0 else min v (n : Int)) = ((sIx n d (some v) : Nat) : Int) := by
  show (if v < 0 then max (v + (n : Int)) 0 else min v (n : Int)) = (((if v < 0 then (v + (n : Int)).toNat else min v.toNat n) : Nat) : Int)
  by_cases hv : v < 0
  · simp only [if_pos hv]; omega
  · simp only [if_neg hv]; omega
theorem adjust_gen (lo hi : Option Int) (n : Nat) : Builtin.Slice.sliceAdjust lo hi 1 (n : Int) = (((sIx n 0 lo : Nat) : Int), ((sIx n n hi : Nat) : Int)) := by
  have h1 : ¬ ((1 : Int) < 0) := by omega
  unfold Builtin.Slice.sliceAdjust
  simp only [h1, if_false]
  refine Prod.ext ?_ ?_
  · cases lo with
    | none => rfl
    | some v => exact clip_eq v n 0
  · cases hi with
    | none => rfl
    | some v => exact clip_eq v n n
theorem places_gen (i j : Nat) : Builtin.Slice.slicePlaces (i : Int) (j : Int) 1 = j - i := by
  unfold Builtin.Slice.slicePlaces
  have h1 : (1 : Int) > 0 := by omega
  simp only [h1, if_true, Int.ediv_one]
  split <;> omega
theorem slicePart_ {v : Value} {o : Option Int} {Q : Option Int → Shared → Prop} (p : IsPart v o) (h : Q o s) : wpAny (model prog w) A (Builtin.Slice.slicePartIndex v) Q E s := by
  cases p with
  | none => exact slicePart_none h
  | int i t => exact slicePart_int h
theorem sliceApplied_gen {sl : Addr} {vl vu : Value} {lo hi : Option Int} {n : Nat} {Q : Int × Int × Nat → Shared → Prop} (hs : s.heap.IsSliceOf sl vl vu .none) (pl : IsPart vl lo) (pu : IsPart vu hi)
    (h : Q (((sIx n 0 lo : Nat) : Int), 1, sIx n n hi - sIx n 0 lo) s) : wpAny (model prog w) A (Builtin.Slice.sliceApplied (.ref sl) (pure (n : Int))) Q E s := by
  obtain ⟨os, hos, hcs, hds⟩ := id hs
  unfold Builtin.Slice.sliceApplied Builtin.Slice.sliceFields
  refine wpAny_bind (wpAny_bind (wpAny_field hos hds (x := vl) rfl (wpAny_bind (wpAny_field hos hds (x := vu) rfl (wpAny_bind (wpAny_field hos hds (x := .none) rfl (wpAny_pure ?_)))))))
  refine wpAny_bind (slicePart_none ?_)
  show wpAny _ _ (if ((1 : Int) == 0) = true then _ else _) _ _ s
  rw [if_neg (by decide)]
  refine wpAny_bind (slicePart_ pl (wpAny_bind (slicePart_ pu (wpAny_bind (wpAny_pure ?_)))))
  show wpAny _ _ (match Builtin.Slice.sliceAdjust lo hi 1 (n : Int) with | (lo, hi) => pure (lo, (1 : Int), Builtin.Slice.slicePlaces lo hi 1)) _ _ s
  rw [adjust_gen lo hi n]
  show wpAny _ _ (pure (((sIx n 0 lo : Nat) : Int), (1 : Int), Builtin.Slice.slicePlaces ((sIx n 0 lo : Nat) : Int) ((sIx n n hi : Nat) : Int) 1)) _ _ s
  rw [places_gen]
  exact wpAny_pure h
theorem pick_gen (xs : Array Value) (i k : Nat) : ((List.range k).filterMap fun (m : Nat) => xs[((i : Int) + (m : Int) * 1).toNat]?).toArray = ((xs.toList.drop i).take k).toArray := by
  have e : (fun (m : Nat) => xs[((i : Int) + (m : Int) * 1).toNat]?) = fun m => xs[i + m]? := by
    funext m
    have : ((i : Int) + (m : Int) * 1).toNat = i + m := by omega
    rw [this]
  rw [e]
  have := pick_run xs i k
  rw [List.filterMap_map] at this
  have e2 : ((fun x => xs[x]?) ∘ fun x => i + x) = fun m => xs[i + m]? := rfl
  rw [e2] at this
  rw [this]

theorem getItem_tuple_cut {t sl : Addr} {items : Array Value} {vl vu : Value} {lo hi : Option Int} {Q : Value → Shared → Prop} (ht : IsTup s.heap t items) (hs : s.heap.IsSliceOf sl vl vu .none) (pl : IsPart vl lo) (pu : IsPart vu hi)
    (hw : ¬ (sIx items.size 0 lo = 0 ∧ sIx items.size items.size hi = items.size))
    (h : Q (.ref s.heap.objs.size) { s with heap := s.heap.push { cls := .type "tuple", data := .seq ((items.toList.drop (sIx items.size 0 lo)).take (sIx items.size items.size hi - sIx items.size 0 lo)).toArray } })
    (hsz : items.size ≤ sizeLine) : wpAny (model prog w) A (getItem (.ref t) (.ref sl)) Q E s := by
  have htake : sizeOk (.seq ((items.toList.drop (sIx items.size 0 lo)).take (sIx items.size items.size hi - sIx items.size 0 lo)).toArray) := by
    show ((items.toList.drop (sIx items.size 0 lo)).take (sIx items.size items.size hi - sIx items.size 0 lo)).toArray.size ≤ sizeLine
    rw [List.size_toArray, List.length_take, List.length_drop, Array.length_toList]
    omega
  have hj : sIx items.size items.size hi ≤ items.size := sIx_le _ _ (Nat.le_refl _) hi
  obtain ⟨os, hos, hcs, hds⟩ := id hs
  have hTs : s.TypeIs (.ref sl) "slice" := ⟨os, hos, hcs⟩
  unfold getItem
  try with_reducible refine wpAny_holding ?_
  first | refine wpAny_bind (wpAny_pure ?_) | skip
  refine wpAny_bind (wpAny_sequenceKey ht.typeIs (by decide) ?_)
  refine wpAny_bind (wpAny_callSpecial?_slot (name := Str.ofString "__getitem__") ht.typeIs PyProof.Rows.slot_tuple_getitem
    (wpAny_call_entry PyProof.Rows.slot_tuple_getitem ht.typeIs entry_tuple_getitem ?_ (args_tuple_getitem _ _)))
  show wpAny _ _ (Builtin.Tuple.tupleItemsOf (.ref t) >>= _) _ _ s
  refine wpAny_bind (tupleItemsOf_ ht ?_)
  refine wpAny_bind (wpAny_typeOf hTs ?_)
  rw [if_pos (by decide)]
  refine wpAny_bind (sliceApplied_gen hs pl pu ?_)
  have hno : ¬ ((((sIx items.size 0 lo : Nat) : Int) == 0 && (1 : Int) == 1 && (sIx items.size items.size hi - sIx items.size 0 lo) == items.size) = true) := by
    intro q
    rw [Bool.and_eq_true, Bool.and_eq_true] at q
    have q1 : ((sIx items.size 0 lo : Nat) : Int) = 0 := eq_of_beq q.1.1
    have q2 : sIx items.size items.size hi - sIx items.size 0 lo = items.size := eq_of_beq q.2
    exact hw ⟨by omega, by omega⟩
  show wpAny _ _ (if (((sIx items.size 0 lo : Nat) : Int) == 0 && (1 : Int) == 1 && (sIx items.size items.size hi - sIx items.size 0 lo) == items.size) = true then _ else _) _ _ s
  rw [if_neg hno, pick_gen]
  first
    | exact wpAny_bind (m := Builtin.Tuple.tupleExact _) (wpAny_newObj_type (wpAny_pure ⟨_, rfl, wpAny_pure h⟩) htake)
    | exact wpAny_bind (m := Builtin.Tuple.tupleExact _) (wpAny_newObj_type (wpAny_bind (wpAny_pure (wpAny_pure ⟨_, rfl, wpAny_pure h⟩))) htake)
    | exact wpAny_bind (wpAny_bind (m := Builtin.Tuple.tupleExact _) (wpAny_newObj_type (wpAny_pure (wpAny_pure ⟨_, rfl, wpAny_pure h⟩)) htake))
    | exact wpAny_bind (wpAny_bind (m := Builtin.Tuple.tupleExact _) (wpAny_newObj_type (wpAny_pure ⟨_, rfl, wpAny_pure h⟩) htake))
end
end HT

namespace L2
open PySem PySem.Spec PyProof.Rows

/-! ### the parts of a slice -/
abbrev TO := St → Hp → (Option Int → Hp → Prop) → Prop
/-- a slice's part (left out, or an int) -/
def PO (X : Cx) (e : Option Expr) (t : TO) : Prop :=
  ∀ (pins : List (Addr × Obj)) (s : Shared) (σ : St) (H : Hp) (Q : Option Int → Hp → Prop), Inv X pins σ H s → t σ H Q →
    wpAny (model X.prog X.w) X.A (evalPart e X.env) (fun u s' => ∃ o H', Inv X pins σ H' s' ∧ IsPart u o ∧ Q o H') X.xe s
def tNoPart : TO := fun _ H Q => Q none H
def tPart (t : TE) : TO := fun σ H Q => t σ H fun x H1 => ∃ i, x = .int i ∧ Q (some i) H1

theorem intsAre_of {ns : List Int} : ∀ {us : List Value}, Vals (ns.map V.int) us → IntsAre us ns := by
  induction ns with
  | nil => intro us r; rw [List.map_nil] at r; cases r; exact .nil
  | cons n ns ih =>
    intro us r
    rw [List.map_cons] at r
    cases r with
    | cons r1 r2 =>
      obtain ⟨t, e⟩ := r1
      subst e
      exact .cons n t (ih r2)

section
variable {X : Cx} {e : Expr} {te : TE} {lo hi : Option Expr} {tl th : TO} {pos p2 : Pos}

theorem po_none : PO X none tNoPart := by
  intro pins s σ H Q I h
  rw [evalPart_none]
  exact wpAny_pure ⟨none, H, I, .none, h⟩
theorem po_some (h : PE X e te) : PO X (some e) (tPart te) := by
  intro pins s σ H Q I hw
  rw [evalPart_some]
  refine thn (h pins s σ H _ I hw) fun u s1 ⟨x, H1, I1, r1, q1⟩ => ?_
  obtain ⟨i, rfl, q⟩ := q1
  obtain ⟨t, rfl⟩ := r1
  exact ⟨some i, H1, I1, .int i t, q⟩

/-- what a slice of a value is, by values: the slice object stands at sl -/
def SlR (X : Cx) (r : V → Option Int → Option Int → Hp → VK → Prop) : Prop :=
  ∀ (pins : List (Addr × Obj)) (s : Shared) (σ : St) (H : Hp) (x : V) (v vl vu : Value) (lo hi : Option Int) (sl : Addr) (Q : VK), Inv X pins σ H s → RelV x v → s.heap.IsSliceOf sl vl vu .none → IsPart vl lo → IsPart vu hi → r x lo hi H Q →
    ∃ T id, typeLookup (.type T) "__getitem__" = pure (some (.builtin id)) ∧ s.TypeIs v T ∧ wpAny (model X.prog X.w) X.A (getItem v (.ref sl)) (EP X pins σ Q) X.xe s
theorem SlR.or {r r' : V → Option Int → Option Int → Hp → VK → Prop} (h : SlR X r) (h' : SlR X r') : SlR X (fun x lo hi H Q => r x lo hi H Q ∨ r' x lo hi H Q) := by
  intro pins s σ H x v vl vu lo hi sl Q I rx hs pl pu q
  rcases q with q | q
  · exact h pins s σ H x v vl vu lo hi sl Q I rx hs pl pu q
  · exact h' pins s σ H x v vl vu lo hi sl Q I rx hs pl pu q
def tSl (r : V → Option Int → Option Int → Hp → VK → Prop) (te : TE) (tl th : TO) : TE := fun σ H Q => te σ H fun x H1 => tl σ H1 fun l H2 => th σ H2 fun u H3 => r x l u H3 Q
/-- a[lo:hi], any a -/
theorem pe_slice {r : V → Option Int → Option Int → Hp → VK → Prop} (hr : SlR X r) (he : PE X e te) (hl : PO X lo tl) (hu : PO X hi th) : PE X (.Subscript e (.Slice lo hi none p2) pos) (tSl r te tl th) := by
  intro pins s σ H Q I h
  refine Subscript_ (thn (he pins s σ H _ I h) fun v s1 ⟨x, H1, I1, r1, q1⟩ => ?_)
  refine wpAny_Slice (thn (hl pins s1 σ H1 _ I1 q1) fun vl s2 ⟨l, H2, I2, pl, q2⟩ => thn (hu pins s2 σ H2 _ I2 q2) fun vu s3 ⟨u, H3, I3, pu, q3⟩ => ?_)
  rw [evalPart_none]
  refine wpAny_pure ?_
  have I4 : Inv X pins σ H3 { s3 with heap := s3.heap.push { cls := .type "slice", data := .fields #[vl, vu, .none] } } := I3.kept (t' := s3.toks) fun b ob q => Heap.get?_push_of_some _ q
  obtain ⟨T, id, hT, ht, hg⟩ := hr pins { s3 with heap := s3.heap.push { cls := .type "slice", data := .fields #[vl, vu, .none] } } σ H3 x v vl vu l u s3.heap.objs.size Q I4 r1 (Heap.IsSliceOf.new ..) pl pu q3
  show wpAny (model X.prog X.w) X.A (subscriptTail e (.Slice lo hi none p2) v (.ref s3.heap.objs.size)) (EP X pins σ Q) X.xe { s3 with heap := s3.heap.push { cls := .type "slice", data := .fields #[vl, vu, .none] } }
  exact tail_any (ops := [.ref s3.heap.objs.size, v]) ht hT hg (by with_unfolding_all rfl)

/-- the items of xs[lo:hi] -/
def cutV (xs : List V) (lo hi : Option Int) : List V := (xs.drop (HT.sIx xs.length 0 lo)).take (HT.sIx xs.length xs.length hi - HT.sIx xs.length 0 lo)
theorem cutV_length (xs : List V) (lo hi : Option Int) : (cutV xs lo hi).length ≤ xs.length := by
  unfold cutV
  rw [List.length_take, List.length_drop]
  omega
/-- t[lo:hi], not the whole of it (the whole would be t itself) -/
def rSlT (K : PySem.W.Frag) : V → Option Int → Option Int → Hp → VK → Prop := fun x lo hi H Q => ∃ a xs, x = .ref a ∧ SqT K H a xs ∧
  ¬ (HT.sIx xs.length 0 lo = 0 ∧ HT.sIx xs.length xs.length hi = xs.length) ∧ ∀ p, H p = none → Q (.ref p) (upd H p (.tup (cutV xs lo hi)))
theorem sl_tup : SlR X (rSlT X.K) := by
  intro pins s σ H x v vl vu lo hi sl Q I rx hs pl pu h
  obtain ⟨a, xs, rfl, hx, hw, q⟩ := h
  cases rx
  obtain ⟨its, r, ht, hz⟩ := I.tuple hx
  have hlen : its.toArray.size = xs.length := by rw [List.size_toArray]; exact r.length.symm
  refine ⟨"tuple", _, PyProof.Rows.slot_tuple_getitem.lookup, ht.typeIs, ?_⟩
  refine HT.getItem_tuple_cut ht hs pl pu (by rw [hlen]; exact hw) ?_ (by rw [hlen]; exact hz)
  rw [hlen]
  refine ⟨.ref s.heap.objs.size, _, I.laid (t' := s.toks) (o := .tup (cutV xs lo hi)) (fun b ob q => Heap.get?_push_of_some _ q) (Nat.le_refl _) ?_, rfl, q _ (I.hok.fresh (Nat.le_refl _))⟩
  exact ⟨Nat.le_trans (cutV_length xs lo hi) hz, _, (r.drop (HT.sIx xs.length 0 lo)).take (HT.sIx xs.length xs.length hi - HT.sIx xs.length 0 lo), IsTup.new _ _⟩

/-! ### t < u, t + u -/
def rLtT (K : PySem.W.Frag) : R2 := fun x y H Q => ∃ a b ns ms, x = .ref a ∧ y = .ref b ∧ SqT K H a (ns.map V.int) ∧ SqT K H b (ms.map V.int) ∧ Q (.bl (HT.lexLt ns ms)) H
theorem op_ltT (hu : X.A.units < cLine) : OpR X (compareOp .Lt) (rLtT X.K) := by
  intro pins s σ H x y v u Q I rx ry h
  obtain ⟨a, b, ns, ms, rfl, rfl, ha, hb, q⟩ := h
  cases rx
  cases ry
  obtain ⟨its, r1, p1, _⟩ := I.tuple ha
  obtain ⟨its2, r2, p2, _⟩ := I.tuple hb
  have i1 : IntsAre its.toArray.toList ns := intsAre_of r1
  have i2 : IntsAre its2.toArray.toList ms := intsAre_of r2
  exact HT.lt_tupInts p1 p2 i1 i2 hu ⟨.bl (HT.lexLt ns ms), H, I, rfl, q⟩
/-- t + u, t not empty: u empty gives t itself -/
def rCatT (K : PySem.W.Frag) : R2 := fun x y H Q => ∃ a b xs ys, x = .ref a ∧ y = .ref b ∧ SqT K H a xs ∧ SqT K H b ys ∧ xs ≠ [] ∧ xs.length + ys.length ≤ sizeLine ∧
  (ys = [] → Q (.ref a) H) ∧ (ys ≠ [] → ∀ p, H p = none → Q (.ref p) (upd H p (.tup (xs ++ ys))))
theorem Vals.nil_iff {xs : List V} {us : List Value} (r : Vals xs us) : us = [] ↔ xs = [] := by
  cases r with
  | nil => simp
  | cons _ _ => simp
theorem op_catT : OpR X (binaryOp .Add) (rCatT X.K) := by
  intro pins s σ H x y v u Q I rx ry h
  obtain ⟨a, b, xs, ys, rfl, rfl, ha, hb, hx, hz, q1, q2⟩ := h
  cases rx
  cases ry
  obtain ⟨its, r1, p1, _⟩ := I.tuple ha
  obtain ⟨its2, r2, p2, _⟩ := I.tuple hb
  refine HT.cat_tup p1 p2 (fun z => hx (r1.nil_iff.mp z)) (fun z => ⟨.ref a, H, I, rfl, q1 (r2.nil_iff.mp z)⟩) (fun z => ?_) (by rw [← r1.length, ← r2.length]; exact hz)
  refine ⟨.ref s.heap.objs.size, _, I.laid (t' := s.toks) (o := .tup (xs ++ ys)) (fun b ob q => Heap.get?_push_of_some _ q) (Nat.le_refl _) ?_, rfl, q2 (fun w => z (r2.nil_iff.mpr w)) _ (I.hok.fresh (Nat.le_refl _))⟩
  exact ⟨by rw [List.length_append]; exact hz, _, r1.append r2, IsTup.new _ _⟩
/-- tuple(t) -/
theorem call_tupleT : CallR X (.type "tuple") (fun xs H Q => ∃ a ys, xs = [.ref a] ∧ SqT X.K H a ys ∧ Q (.ref a) H) := by
  intro pins s σ H xs us Q I r h
  obtain ⟨a, ys, rfl, ha, q⟩ := h
  obtain ⟨u, rfl, ru⟩ := vals1 r
  cases ru
  obtain ⟨its, _, p1, _⟩ := I.tuple ha
  exact call_tuple_same (items := its.toArray) p1 ⟨.ref a, H, I, rfl, q⟩
end
end L2

namespace L2
open PySem PySem.Spec PyProof.Rows

/-! ### places -/
/-- the place that an index of any sign means -/
def ixN (n : Nat) (i : Int) : Option Nat := if 0 ≤ i then (if i < n then some i.toNat else none) else if -(n : Int) ≤ i then some (i + n).toNat else none
def atI {α : Type} (xs : List α) (i : Int) : Option α := (ixN xs.length i).bind fun j => xs[j]?
theorem ixN_seq {n : Nat} {i : Int} {j : Nat} (h : ixN n i = some j) : seqIndex? i n = some j ∧ j < n ∧ -(n : Int) ≤ i ∧ i < n := by
  unfold ixN at h
  by_cases h0 : 0 ≤ i
  · rw [if_pos h0] at h
    by_cases h1 : i < n
    · rw [if_pos h1] at h
      have e : i.toNat = j := Option.some.inj h
      exact ⟨by rw [seqIndex_of h0 h1, e], by omega, by omega, h1⟩
    · rw [if_neg h1] at h; cases h
  · rw [if_neg h0] at h
    by_cases h1 : -(n : Int) ≤ i
    · rw [if_pos h1] at h
      have e : (i + n).toNat = j := Option.some.inj h
      exact ⟨by rw [seqIndex_neg (by omega) h1, e], by omega, h1, by omega⟩
    · rw [if_neg h1] at h; cases h
theorem atI_get {α : Type} {xs : List α} {i : Int} {v : α} (h : atI xs i = some v) : ∃ j, seqIndex? i xs.length = some j ∧ xs[j]? = some v ∧ j < xs.length ∧ -(xs.length : Int) ≤ i ∧ i < xs.length := by
  unfold atI at h
  cases e : ixN xs.length i with
  | none => rw [e] at h; cases h
  | some j =>
    rw [e] at h
    obtain ⟨h1, h2, h3, h4⟩ := ixN_seq e
    exact ⟨j, h1, h, h2, h3, h4⟩
theorem atI_nat {α : Type} {xs : List α} {j : Nat} {v : α} (h : xs[j]? = some v) : atI xs (j : Int) = some v := by
  have hj : j < xs.length := (List.getElem?_eq_some_iff.mp h).1
  have e : ixN xs.length (j : Int) = some j := by
    unfold ixN
    rw [if_pos (by omega), if_pos (by omega)]; simp
  unfold atI; rw [e]; exact h
theorem atI_last {α : Type} (xs : List α) (v : α) : atI (xs ++ [v]) (-1) = some v := by
  have hl : (xs ++ [v]).length = xs.length + 1 := by simp
  have e : ixN (xs ++ [v]).length (-1) = some xs.length := by
    unfold ixN
    rw [hl, if_neg (by decide), if_pos (by omega)]
    congr 1
    omega
  unfold atI
  rw [e]
  show (xs ++ [v])[xs.length]? = some v
  simp

/-! ### what may be subscripted -/
/-- what stands as an index of a plain subscript -/
def PlainIx (b : Expr) : Prop := ∀ o i, subscripted b false o i = operate [o, i] (getItem o i)
/-- a subscript by values -/
def IxR (X : Cx) (r : R2) : Prop :=
  ∀ (value slice : Expr) (pins : List (Addr × Obj)) (s : Shared) (σ : St) (H : Hp) (x y : V) (v u : Value) (Q : VK), Inv X pins σ H s → RelV x v → RelV y u → r x y H Q →
    subscripted slice false v u = operate [v, u] (getItem v u) → wpAny (model X.prog X.w) X.A (subscriptTail value slice v u) (EP X pins σ Q) X.xe s
/-- a call of a builtin's method by values: the receiver, the arguments -/
def MtR (X : Cx) (id : String) (r : V → List V → Hp → VK → Prop) : Prop :=
  ∀ (pins : List (Addr × Obj)) (s : Shared) (σ : St) (H : Hp) (x : V) (xs : List V) (v : Value) (us : List Value) (Q : VK), Inv X pins σ H s → RelV x v → Vals xs us → r x xs H Q →
    wpAny (model X.prog X.w) X.A (call (.builtin id) (v :: us)) (EP X pins σ Q) X.xe s
section
variable {X : Cx} {a b : Expr} {ta tb : TE} {pos : Pos}
theorem IxR.or {r r' : R2} (h : IxR X r) (h' : IxR X r') : IxR X (fun x y H Q => r x y H Q ∨ r' x y H Q) := by
  intro value slice pins s σ H x y v u Q I rx ry q hs
  rcases q with q | q
  · exact h value slice pins s σ H x y v u Q I rx ry q hs
  · exact h' value slice pins s σ H x y v u Q I rx ry q hs
theorem MtR.or {id : String} {r r' : V → List V → Hp → VK → Prop} (h : MtR X id r) (h' : MtR X id r') : MtR X id (fun x xs H Q => r x xs H Q ∨ r' x xs H Q) := by
  intro pins s σ H x xs v us Q I rx rs q
  rcases q with q | q
  · exact h pins s σ H x xs v us Q I rx rs q
  · exact h' pins s σ H x xs v us Q I rx rs q
/-- a[b] -/
theorem pe_ix {r : R2} (hr : IxR X r) (ha : PE X a ta) (hb : PE X b tb) (hs : PlainIx b) : PE X (.Subscript a b pos) (tOp r ta tb) := by
  intro pins s σ H Q I h
  exact Subscript_ (binT ha hb I h fun v u s2 x y H2 I2 rx ry q => hr a b pins s2 σ H2 x y v u Q I2 rx ry q (hs _ _))

def rIxL (K : PySem.W.Frag) : R2 := fun x y H Q => ∃ p xs i v, x = .ref p ∧ y = .int i ∧ SqL K H p xs ∧ atI xs i = some v ∧ Q v H
def rIxT (K : PySem.W.Frag) : R2 := fun x y H Q => ∃ p xs i v, x = .ref p ∧ y = .int i ∧ SqT K H p xs ∧ atI xs i = some v ∧ Q v H
def rIxS : R2 := fun x y H Q => ∃ z i c, x = .str z ∧ y = .int i ∧ z.length ≤ sizeLine ∧ atI z.cps.toList i = some c ∧ Q (.str ⟨#[c]⟩) H
theorem ix_list : IxR X (rIxL X.K) := by
  intro value slice pins s σ H x y v u Q I rx ry h hs
  obtain ⟨p, xs, i, z, rfl, rfl, hq, he, q⟩ := h
  cases rx
  obtain ⟨t, rfl⟩ := ry
  obtain ⟨its, r, pl, hz⟩ := I.list hq
  obtain ⟨j, h1, h2, h3, h4, h5⟩ := atI_get he
  obtain ⟨w, ew, rw'⟩ := r.get h2
  have hl := r.length
  have hn := line63
  have fin : EP X pins σ Q w s := ⟨z, H, I, rw', q⟩
  by_cases h0 : 0 ≤ i
  · have hj : i.toNat = j := by
      rw [seqIndex_of h0 h5] at h1
      exact Option.some.inj h1
    exact item_listR pl.isList h0 (by omega) (by rw [hj]; simpa using ew) fin hs
  · have hj : (i + (its.toArray.size : Int)).toNat = j := by
      rw [seqIndex_neg (by omega) h4] at h1
      rw [List.size_toArray, ← hl]
      exact Option.some.inj h1
    exact subscriptTail_builtinR (x := w) pl.isList.typeIs slot_list_getitem.lookup
      (wpAny_getItem_list_neg (Q := fun r s' => r = w ∧ EP X pins σ Q r s') pl.isList (by omega) (by rw [List.size_toArray] <;> omega) (by omega) (by rw [hj]; simpa using ew) ⟨rfl, fin⟩) hs
theorem ix_tup : IxR X (rIxT X.K) := by
  intro value slice pins s σ H x y v u Q I rx ry h hs
  obtain ⟨p, xs, i, z, rfl, rfl, hq, he, q⟩ := h
  cases rx
  obtain ⟨t, rfl⟩ := ry
  obtain ⟨its, r, pl, hz⟩ := I.tuple hq
  obtain ⟨j, h1, h2, h3, h4, h5⟩ := atI_get he
  obtain ⟨w, ew, rw'⟩ := r.get h2
  have hl := r.length
  have hn := line63
  have fin : EP X pins σ Q w s := ⟨z, H, I, rw', q⟩
  exact subscriptTail_builtinR (x := w) pl.typeIs slot_tuple_getitem.lookup
    (getItem_tuple (j := j) (Q := fun r s' => r = w ∧ EP X pins σ Q r s') pl (by omega) (by omega) (by rw [List.size_toArray, ← hl]; exact h1) (by simpa using ew) ⟨rfl, fin⟩) hs
theorem ix_str : IxR X rIxS := by
  intro value slice pins s σ H x y v u Q I rx ry h hs
  obtain ⟨z, i, c, rfl, rfl, hz, he, q⟩ := h
  obtain ⟨t, rfl⟩ := rx
  obtain ⟨t', rfl⟩ := ry
  obtain ⟨j, h1, h2, h3, h4, h5⟩ := atI_get he
  have hl : z.cps.toList.length = z.length := by simp [Str.length]
  rw [hl] at h1 h4 h5
  have hn := line63
  exact tail_any (typeIs_str s z t) slot_str_getitem.lookup (getItem_str (c := c) (by
    have e1 : decide (i < -(2 ^ 63 : Int)) = false := decide_eq_false (by omega)
    have e2 : decide (i ≥ 2 ^ 63) = false := decide_eq_false (by omega)
    rw [e1, e2, Bool.or_false]) (by rw [h1]; simpa using h2) ⟨.str ⟨#[c]⟩, H, I.tok _, ⟨_, rfl⟩, q⟩) hs
/-- list, tuple or str -/
def rIx (K : PySem.W.Frag) : R2 := fun x y H Q => rIxL K x y H Q ∨ rIxT K x y H Q ∨ rIxS x y H Q
theorem ix_seq : IxR X (rIx X.K) := ix_list.or (ix_tup.or ix_str)

/-! ### xs[i] = v, any sign -/
/-- the list's object behind a store -/
theorem mapSeq_set (its : List Value) (n j : Nat) (u : Value) : Obj.mapSeq (·.setIfInBounds j u) { cls := .type "list", data := .seq its.toArray n } = { cls := .type "list", data := .seq (its.set j u).toArray n } := by
  simp [Obj.mapSeq]
theorem Inv.lst {pins : List (Addr × Obj)} {σ : St} {H : Hp} {s : Shared} {p : Addr} {xs : List V} (I : Inv X pins σ H s) (h : H p = some (.lst xs)) :
    ∃ (its : List Value) (n : Nat), Vals xs its ∧ s.heap.get? p = some { cls := .type "list", data := .seq its.toArray n } ∧ xs.length ≤ sizeLine := by
  obtain ⟨z, its, n, r, e⟩ := I.hok p _ h
  exact ⟨its, n, r, e, z⟩
/-- the list at p is written by an update of its object -/
theorem Inv.lstUpd {pins : List (Addr × Obj)} {σ : St} {H : Hp} {s : Shared} {p : Addr} {xs ys : List V} {its its' : List Value} {n n' : Nat} {f : Obj → Obj} (I : Inv X pins σ H s) (h : H p = some (.lst xs))
    (ho : s.heap.get? p = some { cls := .type "list", data := .seq its.toArray n }) (hf : f { cls := .type "list", data := .seq its.toArray n } = { cls := .type "list", data := .seq its'.toArray n' }) (r : Vals ys its') (hz : ys.length ≤ sizeLine) (t : Nat) :
    Inv X pins σ (upd H p (.lst ys)) { s with heap := s.heap.update p f, toks := t } := by
  have e : (s.heap.update p f).get? p = some { cls := .type "list", data := .seq its'.toArray n' } := by
    rw [Heap.get?_update_self f ho (by rw [hf] <;> rfl), hf]
  refine I.write (x := p) (e := p) (by rw [h]; trivial) (.inl rfl) (fun b u hb q => (Heap.get?_update_other _ _ (Ne.symm hb)).trans q) ⟨_, e⟩ ?_
  exact ⟨hz, its', n', r, e⟩
def rSetL : V → V → V → Hp → (Hp → Prop) → Prop := fun o i v H Q => ∃ p xs k j, o = .ref p ∧ i = .int k ∧ H p = some (.lst xs) ∧ ixN xs.length k = some j ∧ Q (upd H p (.lst (xs.set j v)))
theorem set_list : PSet X rSetL := by
  intro pins s σ H o i v ov iv u Q I ro ri rv h
  obtain ⟨p, xs, k, j, rfl, rfl, hp, hj, q⟩ := h
  cases ro
  obtain ⟨t, rfl⟩ := ri
  obtain ⟨its, n, r, ho, hz⟩ := I.lst hp
  obtain ⟨h1, h2, h3, h4⟩ := ixN_seq hj
  have hl := r.length
  have hn := line63
  have I' : Inv X pins σ (upd H p (.lst (xs.set j v))) { s with heap := s.heap.update p (Obj.mapSeq (·.setIfInBounds j u)) } :=
    I.lstUpd hp ho (mapSeq_set its n j u) (r.set rv j) (by rw [List.length_set]; exact hz) s.toks
  by_cases h0 : 0 ≤ k
  · have hk : k.toNat = j := by
      rw [seqIndex_of h0 h4] at h1
      exact Option.some.inj h1
    exact PySem.W.ki_setAt ho h0 (by omega) (by rw [List.size_toArray, ← hl]; exact h4) (by rw [hk]; exact ⟨_, I', q⟩)
  · have hk : (k + (its.toArray.size : Int)).toNat = j := by
      rw [seqIndex_neg (by omega) h3] at h1
      rw [List.size_toArray, ← hl]
      exact Option.some.inj h1
    exact PySem.W.ki_setBack ho (by omega) (by rw [List.size_toArray, ← hl]; exact h3) (by omega) (by rw [hk]; exact ⟨_, I', q⟩)

/-! ### slices -/
theorem slice_bounds (lo hi : Option Int) (n : Nat) : (sliceBounds lo hi none n).1 = ((HT.sIx n 0 lo : Nat) : Int) ∧ (sliceBounds lo hi none n).2.1 = ((HT.sIx n n hi : Nat) : Int) ∧ (sliceBounds lo hi none n).2.2 = 1 := by
  refine ⟨?_, ?_, rfl⟩
  · cases lo with
    | none => simp [sliceBounds, HT.sIx]
    | some i =>
      simp only [sliceBounds, HT.sIx, Option.getD_none, show (1 : Int) > 0 by decide, if_true]
      by_cases h : i < 0
      · simp only [h, if_true] <;> omega
      · simp only [h, if_false] <;> omega
  · cases hi with
    | none => simp [sliceBounds, HT.sIx]
    | some i =>
      simp only [sliceBounds, HT.sIx, Option.getD_none, show (1 : Int) > 0 by decide, if_true]
      by_cases h : i < 0
      · simp only [h, if_true] <;> omega
      · simp only [h, if_false] <;> omega
theorem slicePick_cut (its : List Value) (lo hi : Option Int) : slicePick its.toArray lo hi none = ((its.drop (HT.sIx its.length 0 lo)).take (HT.sIx its.length its.length hi - HT.sIx its.length 0 lo)).toArray := by
  obtain ⟨h1, h2, h3⟩ := slice_bounds lo hi its.toArray.size
  unfold slicePick
  rw [h1, h2, h3]
  simp only [sliceRange_one, pick_run, List.size_toArray] <;> rfl
/-- xs[lo:hi] of a list: a new list -/
def rSlL (K : PySem.W.Frag) : V → Option Int → Option Int → Hp → VK → Prop := fun x lo hi H Q => ∃ a xs, x = .ref a ∧ SqL K H a xs ∧ ∀ p, H p = none → Q (.ref p) (upd H p (.lst (cutV xs lo hi)))
theorem sl_list : SlR X (rSlL X.K) := by
  intro pins s σ H x v vl vu lo hi sl Q I rx hs pl pu h
  obtain ⟨a, xs, rfl, hx, q⟩ := h
  cases rx
  obtain ⟨its, r, ht, hz⟩ := I.list hx
  have hlen := r.length
  refine ⟨"list", _, slot_list_getitem.lookup, ht.isList.typeIs, ?_⟩
  refine wpAny_getItem_list_slice ht.isList hs pl pu .none (by simp) ?_ (by rw [List.size_toArray] <;> omega)
  rw [slicePick_cut, ← hlen]
  refine ⟨.ref s.heap.objs.size, _, I.laid (t' := s.toks) (o := .lst (cutV xs lo hi)) (fun b ob q => Heap.get?_push_of_some _ q) (Nat.le_refl _) ?_, rfl, q _ (I.hok.fresh (Nat.le_refl _))⟩
  exact ⟨Nat.le_trans (cutV_length xs lo hi) hz, _, 0, (r.drop (HT.sIx xs.length 0 lo)).take (HT.sIx xs.length xs.length hi - HT.sIx xs.length 0 lo), Heap.get?_push_size _ rfl⟩

/-! ### in, not in: flat items -/
def flatV : V → Bool
  | .non => true
  | .bl _ => true
  | .int _ => true
  | .str _ => true
  | _ => false
/-- == of flat values -/
def eqV : V → V → Bool
  | .non, .non => true
  | .bl a, .bl b => a == b
  | .bl a, .int b => (if a then 1 else 0) == b
  | .int a, .bl b => a == (if b then 1 else 0)
  | .int a, .int b => a == b
  | .str a, .str b => a == b
  | _, _ => false
theorem eqAt_V {A : Around} {s : Shared} {y x : V} {u v : Value} (ry : RelV y u) (rx : RelV x v) (fy : flatV y = true) (fx : flatV x = true) : SeqAt.EqAt A s u v (eqV y x) := by
  cases y with
  | non =>
    cases ry
    cases x with
    | non => cases rx; exact SeqAt.EqAt.same _
    | bl b => cases rx; exact SeqAt.EqAt.none_bool b
    | int b => obtain ⟨t, rfl⟩ := rx; exact SeqAt.EqAt.none_int b t
    | str b => obtain ⟨t, rfl⟩ := rx; exact SeqAt.EqAt.none_str b t
    | _ => exact absurd (show false = true from fx) Bool.false_ne_true
  | bl a =>
    cases ry
    cases x with
    | non => cases rx; exact SeqAt.EqAt.bool_none a
    | bl b => cases rx; exact SeqAt.EqAt.bool_bool a b
    | int b => obtain ⟨t, rfl⟩ := rx; exact SeqAt.EqAt.bool_int a b t
    | str b => obtain ⟨t, rfl⟩ := rx; exact SeqAt.EqAt.bool_str a b t
    | _ => exact absurd (show false = true from fx) Bool.false_ne_true
  | int a =>
    obtain ⟨t', rfl⟩ := ry
    cases x with
    | non => cases rx; exact SeqAt.EqAt.int_none a t'
    | bl b => cases rx; exact SeqAt.EqAt.int_bool a t' b
    | int b => obtain ⟨t, rfl⟩ := rx; exact SeqAt.EqAt.int_int a t' b t
    | str b => obtain ⟨t, rfl⟩ := rx; exact SeqAt.EqAt.int_str a t' b t
    | _ => exact absurd (show false = true from fx) Bool.false_ne_true
  | str a =>
    obtain ⟨t', rfl⟩ := ry
    cases x with
    | non => cases rx; exact SeqAt.EqAt.str_none a t'
    | bl b => cases rx; exact SeqAt.EqAt.str_bool a t' b
    | int b => obtain ⟨t, rfl⟩ := rx; exact SeqAt.EqAt.str_int a t' b t
    | str b => obtain ⟨t, rfl⟩ := rx; exact SeqAt.EqAt.str_str a t' b t
    | _ => exact absurd (show false = true from fx) Bool.false_ne_true
  | _ => exact absurd (show false = true from fy) Bool.false_ne_true
/-- the items' answers, read off the values (a value's own answer does not lean on its token) -/
def eqU (x : V) (u : Value) : Bool := match u with
  | .none => eqV .non x
  | .bool b => eqV (.bl b) x
  | .int i _ => eqV (.int i) x
  | .str z _ => eqV (.str z) x
  | _ => false
theorem eqU_of {x y : V} {u : Value} (r : RelV y u) (f : flatV y = true) : eqU x u = eqV y x := by
  cases y with
  | non => cases r; rfl
  | bl b => cases r; rfl
  | int i => obtain ⟨t, rfl⟩ := r; rfl
  | str z => obtain ⟨t, rfl⟩ := r; rfl
  | _ => exact absurd (show false = true from f) Bool.false_ne_true
theorem any_eqU {x : V} : ∀ {xs : List V} {us : List Value}, Vals xs us → xs.all flatV = true → us.any (eqU x) = xs.any fun y => eqV y x
  | _, _, .nil, _ => rfl
  | y :: xs, u :: us, .cons r t, f => by
    rw [List.all_cons, Bool.and_eq_true] at f
    rw [List.any_cons, List.any_cons, eqU_of r f.1, any_eqU t f.2]
theorem mem_eqAt {A : Around} {s : Shared} {x : V} {v : Value} (rx : RelV x v) (fx : flatV x = true) : ∀ {xs : List V} {us : List Value}, Vals xs us → xs.all flatV = true → ∀ u ∈ us, SeqAt.EqAt A s u v (eqU x u)
  | _, _, .nil, _ => fun u hu => by cases hu
  | y :: xs, u :: us, .cons r t, f => fun u' hu => by
    rw [List.all_cons, Bool.and_eq_true] at f
    rcases List.mem_cons.mp hu with rfl | hu
    · rw [eqU_of r f.1]; exact eqAt_V r rx f.1 fx
    · exact mem_eqAt rx fx t f.2 u' hu
def inV (x : V) (xs : List V) : Bool := xs.any fun y => eqV y x
/-- x in a list or tuple of flat items -/
def rIn (K : PySem.W.Frag) (neg : Bool) : R2 := fun x y H Q => ∃ p xs, y = .ref p ∧ (SqL K H p xs ∨ SqT K H p xs) ∧ flatV x = true ∧ xs.all flatV = true ∧ Q (.bl (if neg then !inV x xs else inV x xs)) H
theorem op_in_seq : OpR X (compareOp .In) (rIn X.K false) := by
  intro pins s σ H x y v u Q I rx ry h
  obtain ⟨p, xs, rfl, hq, fx, fs, q⟩ := h
  cases ry
  rcases hq with hq | hq
  · obtain ⟨its, r, pl, hz⟩ := I.list hq
    refine SeqAt.in_listAt (eqU x) pl.isList (fun w hw => mem_eqAt rx fx r fs w (by simpa using hw)) ⟨.bl _, H, I, rfl, ?_⟩
    rw [show its.toArray.any (eqU x) = its.any (eqU x) by simp, any_eqU r fs]
    exact q
  · obtain ⟨its, r, pl, hz⟩ := I.tuple hq
    refine SeqAt.in_tupleAt (eqU x) pl (fun w hw => mem_eqAt rx fx r fs w (by simpa using hw)) ⟨.bl _, H, I, rfl, ?_⟩
    rw [show its.toArray.any (eqU x) = its.any (eqU x) by simp, any_eqU r fs]
    exact q
theorem op_notIn_seq : OpR X (compareOp .NotIn) (rIn X.K true) := by
  intro pins s σ H x y v u Q I rx ry h
  obtain ⟨p, xs, rfl, hq, fx, fs, q⟩ := h
  cases ry
  rcases hq with hq | hq
  · obtain ⟨its, r, pl, hz⟩ := I.list hq
    refine SeqAt.notIn_listAt (eqU x) pl.isList (fun w hw => mem_eqAt rx fx r fs w (by simpa using hw)) ⟨.bl _, H, I, rfl, ?_⟩
    rw [show its.toArray.any (eqU x) = its.any (eqU x) by simp, any_eqU r fs]
    exact q
  · obtain ⟨its, r, pl, hz⟩ := I.tuple hq
    refine SeqAt.notIn_tupleAt (eqU x) pl (fun w hw => mem_eqAt rx fx r fs w (by simpa using hw)) ⟨.bl _, H, I, rfl, ?_⟩
    rw [show its.toArray.any (eqU x) = its.any (eqU x) by simp, any_eqU r fs]
    exact q
theorem op_notIn_str : OpR X (compareOp .NotIn) (fun x y H Q => ∃ i j, x = .str i ∧ y = .str j ∧ Q (.bl (!(!(Builtin.Str.occurrences j i 0 j.length 1).isEmpty))) H) := by
  intro pins s σ H x y v u Q I rx ry h
  obtain ⟨i, j, rfl, rfl, q⟩ := h
  obtain ⟨t, rfl⟩ := rx
  obtain ⟨t', rfl⟩ := ry
  exact notIn_str ⟨.bl _, H, I, rfl, q⟩

/-! ### len, list(x), tuple(x) of any list or tuple that is read -/
theorem call_len_seq : CallR X (.builtin "len") (fun xs H Q => ∃ p ys, xs = [.ref p] ∧ (SqL X.K H p ys ∨ SqT X.K H p ys) ∧ Q (.int ys.length) H) := by
  intro pins s σ H xs us Q I r h
  obtain ⟨p, ys, rfl, hq, q⟩ := h
  obtain ⟨u, rfl, rx⟩ := vals1 r
  cases rx
  have hn := line63
  rcases hq with hq | hq
  · obtain ⟨its, r', pl, hz⟩ := I.list hq
    have hlen := r'.length
    exact Calls.call_len_list pl.isList (by simp only [List.size_toArray] <;> omega) ⟨.int ys.length, H, I.tok _, ⟨s.toks + 1, by rw [List.size_toArray, hlen]⟩, q⟩
  · obtain ⟨its, r', pl, hz⟩ := I.tuple hq
    have hlen := r'.length
    exact len_tuple pl (by simp only [List.size_toArray] <;> omega) ⟨.int ys.length, H, I.tok _, ⟨s.toks + 1, by rw [List.size_toArray, hlen]⟩, q⟩
theorem call_len_str : CallR X (.builtin "len") (fun xs H Q => ∃ z, xs = [.str z] ∧ z.length ≤ sizeLine ∧ Q (.int z.length) H) := by
  intro pins s σ H xs us Q I r h
  obtain ⟨z, rfl, hz, q⟩ := h
  obtain ⟨u, rfl, t, rfl⟩ := vals1 r
  have hn := line63
  exact len_str (by omega) ⟨.int z.length, H, I.tok _, ⟨_, rfl⟩, q⟩
theorem CallR.or {f : Value} {r r' : List V → Hp → VK → Prop} (h : CallR X f r) (h' : CallR X f r') : CallR X f (fun xs H Q => r xs H Q ∨ r' xs H Q) := by
  intro pins s σ H xs us Q I rs q
  rcases q with q | q
  · exact h pins s σ H xs us Q I rs q
  · exact h' pins s σ H xs us Q I rs q
theorem call_list_of : CallR X (.type "list") (fun xs H Q => ∃ p ys, xs = [.ref p] ∧ (SqL X.K H p ys ∨ SqT X.K H p ys) ∧ ∀ l, H l = none → Q (.ref l) (upd H l (.lst ys))) := by
  intro pins s σ H xs us Q I r h
  obtain ⟨p, ys, rfl, hq, q⟩ := h
  obtain ⟨u, rfl, rx⟩ := vals1 r
  cases rx
  have fin : ∀ (its : List Value), Vals ys its → ys.length ≤ sizeLine → ∀ (h' : Heap) (c' : Nat), (∀ b o', s.heap.get? b = some o' → h'.get? b = some o') →
      h'.get? s.heap.objs.size = some { cls := .type "list", dict := none, data := .seq its.toArray c', slots := #[] } → EP X pins σ Q (.ref s.heap.objs.size) { s with heap := h' } := fun its r' hz h' c' kp e =>
    ⟨.ref s.heap.objs.size, _, I.laid (t' := s.toks) kp (Nat.le_refl _) (show ObjOk X.prog X.w _ h' _ (.lst ys) from ⟨hz, its, c', r', e⟩), rfl, q _ (I.hok.fresh (Nat.le_refl _))⟩
  rcases hq with hq | hq
  · obtain ⟨its, r', pl, hz⟩ := I.list hq
    have hlen := r'.length
    obtain ⟨o, ho, hc, n, hd⟩ := pl.isList
    exact call_list_seq p (.inl rfl) ho hc hd (fun h' c' kp e => fin its r' hz h' c' kp e) (by simp only [List.size_toArray] <;> omega)
  · obtain ⟨its, r', pl, hz⟩ := I.tuple hq
    have hlen := r'.length
    obtain ⟨o, ho, hc, n, hd⟩ := pl
    exact call_list_seq p (.inr rfl) ho hc hd (fun h' c' kp e => fin its r' hz h' c' kp e) (by simp only [List.size_toArray] <;> omega)
theorem call_tuple_of : CallR X (.type "tuple") (fun xs H Q => ∃ p ys, xs = [.ref p] ∧ ((SqL X.K H p ys ∧ ∀ l, H l = none → Q (.ref l) (upd H l (.tup ys))) ∨ (SqT X.K H p ys ∧ Q (.ref p) H))) := by
  intro pins s σ H xs us Q I r h
  obtain ⟨p, ys, rfl, h⟩ := h
  obtain ⟨u, rfl, rx⟩ := vals1 r
  cases rx
  rcases h with ⟨hq, q⟩ | ⟨hq, q⟩
  · obtain ⟨its, r', pl, hz⟩ := I.list hq
    have hlen := r'.length
    refine call_tuple_list pl.isList (fun h' kp => ?_) (by simp only [List.size_toArray] <;> omega)
    have I1 : Inv X pins σ H { s with heap := h' } := I.kept (t' := s.toks) kp
    have I2 : Inv X pins σ (upd H h'.objs.size (.tup ys)) { s with heap := h'.push { cls := .type "tuple", data := .seq its.toArray } } :=
      I1.laid (t' := s.toks) (fun b o e => Heap.get?_push_of_some _ e) (Nat.le_refl _) (show ObjOk X.prog X.w _ _ _ (.tup ys) from ⟨hz, its, r', IsTup.new _ _⟩)
    exact ⟨.ref h'.objs.size, _, I2, rfl, q _ (I1.hok.fresh (Nat.le_refl _))⟩
  · obtain ⟨its, r', pl, hz⟩ := I.tuple hq
    exact call_tuple_same pl ⟨.ref p, H, I, rfl, q⟩

/-! ### the call of a builtin's method: o.m(..) -/
/-- the value is of that builtin type -/
def tyV (K : PySem.W.Frag) (T : String) (x : V) (H : Hp) : Prop := match x with
  | .str _ => T = "str"
  | .int _ => T = "int"
  | .ref p => (T = "list" ∧ ∃ xs, SqL K H p xs) ∨ (T = "tuple" ∧ ∃ o, K.lookup p = some o ∧ o.cls = .type "tuple" ∧ o.dict = none) ∨
      (T = "dict" ∧ ((∃ kvs, H p = some (.dK kvs)) ∨ ∃ kvs, H p = some (.dT kvs))) ∨ (T = "set" ∧ ∃ S n, H p = some (.set S n))
  | _ => False
theorem tyV_is {pins : List (Addr × Obj)} {σ : St} {H : Hp} {s : Shared} {T : String} {x : V} {v : Value} (I : Inv X pins σ H s) (r : RelV x v) (ty : tyV X.K T x H) :
    s.TypeIs v T ∧ ∀ a, v = .ref a → ∃ ob, s.heap.get? a = some ob ∧ ob.dict = none := by
  cases x with
  | str z =>
    obtain ⟨t, rfl⟩ := r
    cases (show T = "str" from ty)
    exact ⟨typeIs_str s z t, fun _ e => nomatch e⟩
  | int i =>
    obtain ⟨t, rfl⟩ := r
    cases (show T = "int" from ty)
    exact ⟨typeIs_int s i t, fun _ e => nomatch e⟩
  | ref p =>
    cases r
    rcases ty with ⟨rfl, xs, hq⟩ | ⟨rfl, o, hk, hc, hd⟩ | ⟨rfl, hk⟩ | ⟨rfl, S, n, hk⟩
    · obtain ⟨its, _, pl, _⟩ := I.list hq
      refine ⟨pl.isList.typeIs, fun a e => ?_⟩
      cases e
      obtain ⟨o, n, e, c, hd, _⟩ := pl
      exact ⟨o, e, hd⟩
    · refine ⟨⟨o, I.kIn p o hk, hc⟩, fun a e => ?_⟩
      cases e
      exact ⟨o, I.kIn _ o hk, hd⟩
    · have z : ∃ o, s.heap.get? p = some o ∧ o.ExactDict := by
        rcases hk with ⟨kvs, hk⟩ | ⟨kvs, hk⟩
        · obtain ⟨_, _, _, _, o, _, _, e, ex, _⟩ := I.hok p _ hk
          exact ⟨o, e, ex⟩
        · obtain ⟨_, _, _, _, o, _, _, e, ex, _⟩ := I.hok p _ hk
          exact ⟨o, e, ex⟩
      obtain ⟨o, e, ex⟩ := z
      refine ⟨⟨o, e, ex.1⟩, fun a e2 => ?_⟩
      cases e2
      exact ⟨o, e, ex.2.1⟩
    · obtain ⟨o, _, _, _, e, ex, _⟩ := I.hok p _ hk
      refine ⟨⟨o, e, ex.1⟩, fun a e2 => ?_⟩
      cases e2
      exact ⟨o, e, ex.2.1⟩
  | _ => exact False.elim ty
def tBM0 (K : PySem.W.Frag) (T : String) (r : V → List V → Hp → VK → Prop) (to : TE) : TE := fun σ H Q => to σ H fun x H1 => tyV K T x H1 ∧ r x [] H1 Q
def tBM (K : PySem.W.Frag) (T : String) (r : V → List V → Hp → VK → Prop) (to : TE) (t : TA) : TE := fun σ H Q => to σ H fun x H1 => tyV K T x H1 ∧ t σ H1 fun xs H2 => r x xs H2 Q
variable {o e : Expr} {es : List Expr} {to : TE} {t : TA} {name : Str} {apos cpos : Pos} {T id : String} {r : V → List V → Hp → VK → Prop}
theorem pe_bm0 (pa : PlainAttrs T) (slot : Slot T name id) (hty : typeOf (.builtin id) = pure (.type "method_descriptor")) (hm : MtR X id r) (ho : PE X o to)
    (hbase : attributeBase o name X.env (eval o X.env) = eval o X.env := by rfl) (hline : (apos.endLine == cpos.line) = true := by rfl) : PE X (.Call (.Attribute o name apos) [] [] cpos) (tBM0 X.K T r to) := by
  intro pins s σ H Q I h
  refine wpAny_Call_method0_late hbase hline (thn (ho pins s σ H _ I h) fun v s1 ⟨x, H1, I1, r1, ty, q1⟩ => ?_)
  obtain ⟨h1, h2⟩ := tyV_is I1 r1 ty
  exact ⟨T, id, pa, slot, hty, h1, h2, Calls.callWith_builtin rfl (PySem.evalArgs_none (hm pins s1 σ H1 x [] v [] Q I1 r1 .nil q1))⟩
theorem pe_bm (pa : PlainAttrs T) (slot : Slot T name id) (hty : typeOf (.builtin id) = pure (.type "method_descriptor")) (hm : MtR X id r) (ho : PE X o to) (ha : PA X (e :: es) t)
    (hbase : attributeBase o name X.env (eval o X.env) = eval o X.env := by rfl)
    (hfew : ((backTo cpos (starEach (e :: es) X.env)).all (fun x => !x.1) && (backToKw cpos (keywordEach [] X.env)).all (fun x => x.1.isSome)
      && decide ((e :: es).length + ([] : List Keyword).length + (if ([] : List Keyword).isEmpty then 0 else 1) < 30)) = true := by rfl)
    (hline : (apos.endLine == cpos.line) = true := by rfl) (hs : starEach (e :: es) X.env = (false, eval e X.env) :: starEach es X.env := by rfl) (hplain : (backTo cpos (starEach es X.env)).any (·.1) = false := by rfl) :
    PE X (.Call (.Attribute o name apos) (e :: es) [] cpos) (tBM X.K T r to t) := by
  intro pins s σ H Q I h
  refine wpAny_Call_method_late hbase hfew hline rfl (thn (ho pins s σ H _ I h) fun v s1 ⟨x, H1, I1, r1, ty, q1⟩ => ?_)
  obtain ⟨h1, h2⟩ := tyV_is I1 r1 ty
  refine ⟨T, id, pa, slot, hty, h1, h2, ?_⟩
  have hA := ha cpos pins s1 σ H1 _ I1 q1
  rw [hs] at hA ⊢
  refine Calls.callWith_builtin (by show (false || (backTo cpos (starEach es X.env)).any (·.1)) = false; rw [hplain] <;> rfl) (Calls.evalArgs_plain ?_)
  exact thn hA fun us s2 ⟨vs, H2, I2, r2, q2⟩ => hm pins s2 σ H2 x vs v us Q I2 r1 r2 q2
/- xs.append(e), list.index on a module's tuple .. are MtR facts of 06m -/
end
end L2

namespace L2
open PySem PySem.Spec PyProof.Rows

def MtM (X : Cx) (id : String) (r : V → List V → Hp → VK → Prop) : Prop :=
  ∀ (pins : List (Addr × Obj)) (s : Shared) (σ : St) (H : Hp) (x : V) (xs : List V) (v : Value) (us : List Value) (Q : VK), Inv X pins σ H s → RelV x v → Vals xs us → r x xs H Q →
    wpAny (model X.prog X.w) X.A (call (.builtin id) (v :: us)) (EP X pins σ Q) X.xe s

/-! ### lists of values -/
theorem Vals.one : ∀ {x : V} {us : List Value}, Vals [x] us → ∃ u, us = [u] ∧ RelV x u
  | _, _, .cons r .nil => ⟨_, rfl, r⟩
theorem Vals.two : ∀ {x y : V} {us : List Value}, Vals [x, y] us → ∃ u v, us = [u, v] ∧ RelV x u ∧ RelV y v
  | _, _, _, .cons r (.cons q .nil) => ⟨_, _, rfl, r, q⟩
theorem Vals.zero : ∀ {us : List Value}, Vals [] us → us = []
  | _, .nil => rfl
theorem Vals.dropLast {xs : List V} {us : List Value} (h : Vals xs us) : Vals xs.dropLast us.dropLast := by
  induction h with
  | nil => exact .nil
  | cons r t ih =>
    cases t with
    | nil => exact .nil
    | cons q t' => exact .cons r ih
theorem Vals.eraseIdx : ∀ {xs : List V} {us : List Value} (i : Nat), Vals xs us → Vals (xs.eraseIdx i) (us.eraseIdx i)
  | _, _, _, .nil => .nil
  | _, _, 0, .cons _ t => t
  | _, _, i + 1, .cons r t => .cons r (Vals.eraseIdx i t)
theorem Vals.reverse {xs : List V} {us : List Value} (h : Vals xs us) : Vals xs.reverse us.reverse := by
  induction h with
  | nil => exact .nil
  | cons r t ih => rw [List.reverse_cons, List.reverse_cons]; exact Vals.append ih (.cons r .nil)
theorem Vals.rep {xs : List V} {us : List Value} (h : Vals xs us) : ∀ k : Nat, Vals (List.replicate k xs).flatten (List.replicate k us).flatten
  | 0 => .nil
  | k + 1 => by
    rw [List.replicate_succ, List.replicate_succ, List.flatten_cons, List.flatten_cons]
    exact Vals.append h (Vals.rep h k)
theorem erase_last {α : Type} (l : List α) : l.eraseIdx (l.length - 1) = l.dropLast := by
  induction l with
  | nil => rfl
  | cons a r ih =>
    cases r with
    | nil => rfl
    | cons b r =>
      have e : (a :: b :: r).length - 1 = ((b :: r).length - 1) + 1 := by
        have h1 : (a :: b :: r).length = r.length + 2 := rfl
        have h2 : (b :: r).length = r.length + 1 := rfl
        omega
      rw [e, List.eraseIdx_cons_succ, ih]
      all_goals rfl
theorem len_erase {α : Type} : ∀ (l : List α) (i : Nat), (l.eraseIdx i).length ≤ l.length
  | [], _ => Nat.le_refl _
  | _ :: _, 0 => Nat.le_succ _
  | _ :: r, i + 1 => Nat.succ_le_succ (len_erase r i)
theorem foldl_rep (its : List Value) : ∀ (k : Nat) (acc : List Value),
    List.foldl (fun x1 x2 => x1 ++ x2) acc.toArray (List.replicate k its.toArray) = (acc ++ (List.replicate k its).flatten).toArray
  | 0, acc => by simp
  | k + 1, acc => by
    have e : acc.toArray ++ its.toArray = (acc ++ its).toArray := by simp
    have e2 : (acc ++ its) ++ (List.replicate k its).flatten = acc ++ (List.replicate (k + 1) its).flatten := by
      rw [List.replicate_succ, List.flatten_cons, List.append_assoc]
    rw [← e2, ← foldl_rep its k (acc ++ its), ← e, List.replicate_succ, List.foldl_cons]

section
variable {X : Cx} {pins : List (Addr × Obj)} {σ : St} {H : Hp} {s : Shared} {l b : Addr} {xs ys zs : List V}

/-! ### the two steps: a tracked list is rewritten, a new list is laid -/
theorem Inv.lset {its its' : List Value} {n : Nat} {f : Array Value → Array Value} {t' : Nat} (I : Inv X pins σ H s) (hH : H l = some (.lst xs))
    (e : s.heap.get? l = some { cls := .type "list", data := .seq its.toArray n }) (hf : f its.toArray = its'.toArray) (hv : Vals ys its') (hz : ys.length ≤ sizeLine) :
    Inv X pins σ (upd H l (.lst ys)) { s with heap := s.heap.update l (Obj.mapSeq f), toks := t' } := by
  have q := PySem.IsL.update e f
  rw [hf] at q
  refine I.write (x := l) (e := l) (by rw [hH]; exact trivial) (.inl rfl) (fun b' u hb hu => (Heap.get?_update_other s.heap (Obj.mapSeq f) (Ne.symm hb)).trans hu) ⟨_, q⟩ ?_
  exact ⟨hz, its', _, hv, q⟩
theorem Inv.lnew {its : List Value} {t' : Nat} (I : Inv X pins σ H s) (hv : Vals ys its) (hz : ys.length ≤ sizeLine) :
    Inv X pins σ (upd H s.heap.objs.size (.lst ys)) { s with heap := s.heap.push { cls := .type "list", data := .seq its.toArray }, toks := t' } :=
  I.laid (fun _ _ q => Heap.get?_push_of_some _ q) (Nat.le_refl _) ⟨hz, its, 0, hv, Heap.get?_push_size _ rfl⟩
theorem Inv.fresh (I : Inv X pins σ H s) : H s.heap.objs.size = none := I.hok.fresh (Nat.le_refl _)
theorem Inv.lstM (I : Inv X pins σ H s) (hH : H l = some (.lst xs)) : xs.length ≤ sizeLine ∧ ∃ (its : List Value) (n : Nat), Vals xs its ∧ xs.length = its.length ∧ s.heap.get? l = some { cls := .type "list", data := .seq its.toArray n } := by
  obtain ⟨z, its, n, r, e⟩ := I.hok l _ hH
  exact ⟨z, its, n, r, r.length, e⟩

theorem notLongL {n : Nat} (h : n ≤ sizeLine) : Builtin.List.listTooLong n = false := by
  unfold Builtin.List.listTooLong
  exact decide_eq_false (by omega)
end

section
variable {X : Cx}

/-! ### methods -/
def rAppend : V → List V → Hp → VK → Prop := fun x vs H Q => ∃ l xs y, x = .ref l ∧ vs = [y] ∧ H l = some (.lst xs) ∧ xs.length < sizeLine ∧ Q .non (upd H l (.lst (xs ++ [y])))
theorem mt_append : MtM X "list.append" rAppend := by
  intro pins s σ H x vs v us Q I rx rv h
  obtain ⟨l, xs, y, rfl, rfl, hH, hz, q⟩ := h
  cases rx
  obtain ⟨u, rfl, ru⟩ := rv.one
  obtain ⟨z, its, n, r, hl, e⟩ := I.lstM hH
  refine call_meets F.slot_list_append ⟨_, e, rfl⟩ F.entry_list_append (F.args_list_append_2 _ _) (PySem.list_append l its.toArray n u (by rw [List.size_toArray]; omega)) ⟨e, ?_⟩
  refine ⟨.non, _, I.lset (its' := its ++ [u]) hH e (by simp) (r.append (.cons ru .nil)) ?_, rfl, q⟩
  rw [List.length_append, List.length_singleton]
  omega

def rExtend : V → List V → Hp → VK → Prop := fun x vs H Q => ∃ l b xs zs, x = .ref l ∧ vs = [.ref b] ∧ H l = some (.lst xs) ∧ H b = some (.lst zs) ∧ xs.length + zs.length ≤ sizeLine ∧ Q .non (upd H l (.lst (xs ++ zs)))
theorem mt_extend : MtM X "list.extend" rExtend := by
  intro pins s σ H x vs v us Q I rx rv h
  obtain ⟨l, b, xs, zs, rfl, rfl, hH, hB, hz, q⟩ := h
  cases rx
  obtain ⟨u, rfl, ru⟩ := rv.one
  cases ru
  obtain ⟨z, its, n, r, hl, e⟩ := I.lstM hH
  obtain ⟨z2, its2, n2, r2, hl2, e2⟩ := I.lstM hB
  have hsz : its.toArray.size + its2.toArray.size ≤ sizeLine := by rw [List.size_toArray, List.size_toArray]; omega
  have hlong : ¬ (!its.toArray.isEmpty && Builtin.List.listTooLong (its.toArray.size + its2.toArray.size)) = true := by
    rw [notLongL hsz, Bool.and_false]
    exact Bool.false_ne_true
  refine call_meets F.slot_list_extend ⟨_, e, rfl⟩ F.entry_list_extend (F.args_list_extend_2 _ _)
    (AutoSeq1.list_extend_list_list_0 l its.toArray n b its2.toArray n2 hlong (by rw [List.size_toArray]; omega) (by omega)) ⟨e, e2, ?_⟩
  refine ⟨.non, _, I.lset (its' := its ++ its2) hH e (by simp) (r.append r2) ?_, rfl, q⟩
  rw [List.length_append]
  omega

def rPop : V → List V → Hp → VK → Prop := fun x vs H Q => ∃ l xs y, x = .ref l ∧ vs = [] ∧ H l = some (.lst xs) ∧ xs[xs.length - 1]? = some y ∧ Q y (upd H l (.lst xs.dropLast))
theorem mt_pop : MtM X "list.pop" rPop := by
  intro pins s σ H x vs v us Q I rx rv h
  obtain ⟨l, xs, y, rfl, rfl, hH, hy, q⟩ := h
  cases rx
  have hus := rv.zero
  subst hus
  obtain ⟨z, its, n, r, hl, e⟩ := I.lstM hH
  obtain ⟨u, hu, ru⟩ := r.get hy
  have hy' : its.toArray[its.toArray.size - 1]? = some u := by
    show its.toArray[its.length - 1]? = some u
    rw [← Array.getElem?_toList, ← hl]
    exact hu
  refine call_meets F.slot_list_pop ⟨_, e, rfl⟩ F.entry_list_pop (F.args_list_pop_1 _) (MeetsSeq.list_pop_last l its.toArray n u hy' (by rw [List.size_toArray]; omega)) ⟨e, ?_⟩
  refine ⟨y, _, I.lset (its' := its.dropLast) hH e ?_ r.dropLast ?_, ru, q⟩
  · show its.toArray.eraseIdxIfInBounds (its.toArray.size - 1) = its.dropLast.toArray
    rw [List.size_toArray, List.eraseIdxIfInBounds_toArray, erase_last]
  · rw [List.length_dropLast]
    omega

def rPopAt : V → List V → Hp → VK → Prop := fun x vs H Q => ∃ l xs i k y, x = .ref l ∧ vs = [.int i] ∧ H l = some (.lst xs) ∧ -(2 ^ 63) ≤ i ∧ i < 2 ^ 63 ∧ seqIndex? i xs.length = some k ∧ xs[k]? = some y ∧ Q y (upd H l (.lst (xs.eraseIdx k)))
theorem mt_popAt : MtM X "list.pop" rPopAt := by
  intro pins s σ H x vs v us Q I rx rv h
  obtain ⟨l, xs, i, k, y, rfl, rfl, hH, h1, h2, hk, hy, q⟩ := h
  cases rx
  obtain ⟨u, rfl, ru⟩ := rv.one
  obtain ⟨t, rfl⟩ := ru
  obtain ⟨z, its, n, r, hl, e⟩ := I.lstM hH
  obtain ⟨w, hw, rw'⟩ := r.get hy
  refine call_meets F.slot_list_pop ⟨_, e, rfl⟩ F.entry_list_pop (F.args_list_pop_2 _ _)
    (MeetsSeq.list_pop_at l its.toArray n i t k w (fitsIndex_both h1 h2) (by rw [List.size_toArray, ← hl]; exact hk) (by rw [← Array.getElem?_toList]; exact hw) (by rw [List.size_toArray]; omega)) ⟨e, ?_⟩
  refine ⟨y, _, I.lset (its' := its.eraseIdx k) hH e ?_ (r.eraseIdx k) ?_, rw', q⟩
  · show its.toArray.eraseIdxIfInBounds k = (its.eraseIdx k).toArray
    rw [List.eraseIdxIfInBounds_toArray]
  · have := len_erase xs k
    omega

def rReverse : V → List V → Hp → VK → Prop := fun x vs H Q => ∃ l xs, x = .ref l ∧ vs = [] ∧ H l = some (.lst xs) ∧ Q .non (upd H l (.lst xs.reverse))
theorem mt_reverse : MtM X "list.reverse" rReverse := by
  intro pins s σ H x vs v us Q I rx rv h
  obtain ⟨l, xs, rfl, rfl, hH, q⟩ := h
  cases rx
  have hus := rv.zero
  subst hus
  obtain ⟨z, its, n, r, hl, e⟩ := I.lstM hH
  refine call_meets F.slot_list_reverse ⟨_, e, rfl⟩ F.entry_list_reverse (F.args_list_reverse_1 _) (AutoSeq1.list_reverse_list_0 l its.toArray n (by rw [List.size_toArray]; omega)) ⟨e, ?_⟩
  refine ⟨.non, _, I.lset (its' := its.reverse) hH e (by simp) r.reverse ?_, rfl, q⟩
  rw [List.length_reverse]
  omega

def rClear : V → List V → Hp → VK → Prop := fun x vs H Q => ∃ l xs, x = .ref l ∧ vs = [] ∧ H l = some (.lst xs) ∧ Q .non (upd H l (.lst []))
theorem mt_clear : MtM X "list.clear" rClear := by
  intro pins s σ H x vs v us Q I rx rv h
  obtain ⟨l, xs, rfl, rfl, hH, q⟩ := h
  cases rx
  have hus := rv.zero
  subst hus
  obtain ⟨z, its, n, r, hl, e⟩ := I.lstM hH
  refine call_meets F.slot_list_clear ⟨_, e, rfl⟩ F.entry_list_clear (F.args_list_clear_1 _) (AutoSeq1.list_clear_list_0 l its.toArray n (by rw [List.size_toArray]; omega)) ⟨e, ?_⟩
  exact ⟨.non, _, I.lset (its' := []) (ys := []) hH e rfl .nil (Nat.zero_le _), rfl, q⟩

/-! ### list + list, list += list, list * int -/
def rCat : R2 := fun x y H Q => ∃ l b xs zs, x = .ref l ∧ y = .ref b ∧ H l = some (.lst xs) ∧ H b = some (.lst zs) ∧ xs.length + zs.length ≤ sizeLine ∧ ∀ p, H p = none → Q (.ref p) (upd H p (.lst (xs ++ zs)))
theorem op_cat : OpR X (binaryOp .Add) rCat := by
  intro pins s σ H x y v u Q I rx ry h
  obtain ⟨l, b, xs, zs, rfl, rfl, hH, hB, hz, q⟩ := h
  cases rx
  cases ry
  obtain ⟨z, its, n, r, hl, e⟩ := I.lstM hH
  obtain ⟨z2, its2, n2, r2, hl2, e2⟩ := I.lstM hB
  refine PySem.P.add_list e e2 ?_ (by rw [List.size_toArray, List.size_toArray]; omega)
  have ea : its.toArray ++ its2.toArray = (its ++ its2).toArray := by simp
  rw [ea]
  exact ⟨.ref _, _, I.lnew (t' := s.toks) (r.append r2) (by rw [List.length_append]; omega), rfl, q _ I.fresh⟩
/-- a list times an int (a negative one is nothing) -/
def rRep : R2 := fun x y H Q => ∃ l k xs, x = .ref l ∧ y = .int k ∧ H l = some (.lst xs) ∧ -(2 ^ 63) ≤ k ∧ k < 2 ^ 63 ∧ xs.length * k.toNat ≤ sizeLine ∧
  ∀ p, H p = none → Q (.ref p) (upd H p (.lst (List.replicate k.toNat xs).flatten))
theorem len_rep {α : Type} (xs : List α) (k : Nat) : (List.replicate k xs).flatten.length = k * xs.length := by
  induction k with
  | zero => simp
  | succ k ih => rw [List.replicate_succ, List.flatten_cons, List.length_append, ih, Nat.succ_mul, Nat.add_comm]
theorem op_rep : OpR X (binaryOp .Mult) rRep := by
  intro pins s σ H x y v u Q I rx ry h
  obtain ⟨l, k, xs, rfl, rfl, hH, h1, h2, hz, q⟩ := h
  cases rx
  obtain ⟨t, rfl⟩ := ry
  obtain ⟨z, its, n, r, hl, e⟩ := I.lstM hH
  have hlen : its.toArray.size * k.toNat ≤ sizeLine := by rw [List.size_toArray, ← hl]; exact hz
  have hcap : ¬ its.toArray.size * k.toNat > (2 ^ 63 - 1) / 8 := by
    have : (sizeLine : Nat) ≤ (2 ^ 63 - 1) / 8 := by decide
    omega
  have hfit : ¬ (!Builtin.List.listFitsIndex k) = true := by
    rw [fitsIndex_both h1 h2]
    exact Bool.false_ne_true
  have hlong : ¬ Builtin.List.listTooLong (its.toArray.size * k.toNat) = true := by
    rw [notLongL hlen]
    exact Bool.false_ne_true
  have hnew : List.foldl (fun x1 x2 => x1 ++ x2) #[] (List.replicate (if its.toArray.isEmpty = true then 0 else k.toNat) its.toArray) = (List.replicate k.toNat its).flatten.toArray := by
    have f0 : ∀ m : Nat, List.foldl (fun x1 x2 => x1 ++ x2) #[] (List.replicate m its.toArray) = (List.replicate m its).flatten.toArray := fun m => by
      have := foldl_rep its m []
      rw [List.nil_append] at this
      exact this
    rw [f0]
    cases its with
    | nil => simp
    | cons a r' => rw [if_neg (by simp)]
  refine wpAny_binaryOp_repeat_ref (T := "list") (U := "int") (by decide) ⟨_, e, rfl⟩ (fun s' => typeIs_int s' k t) noFill_list_mul F.fills_int_mul F.slot_int_rmul repeat_list F.slot_int_index.lookup
    (call_meets F.slot_int_rmul (typeIs_int s k t) F.entry_int_rmul (F.args_int_rmul_2 _ _) (int___rmul___int_list k t l its.toArray n)
      ⟨e, rfl, ⟨_, e, rfl⟩, call_meets F.slot_list_mul ⟨_, e, rfl⟩ F.entry_list_mul (F.args_list_mul_2 _ _) (AutoListH.list___mul___list_int_3 l its.toArray n k t hfit hcap hlong) ⟨e, ?_⟩⟩)
  rw [hnew]
  exact ⟨.ref _, _, I.lnew (t' := s.toks) (r.rep k.toNat) (by rw [len_rep, Nat.mul_comm]; exact hz), rfl, q _ I.fresh⟩

/-! ### del xs[i] -/
theorem del_list {pins : List (Addr × Obj)} {s : Shared} {σ : St} {H : Hp} {l : Addr} {xs : List V} {i : Int} {t : Tok} {k : Nat} {Q : Unit → Shared → Prop} (I : Inv X pins σ H s) (hH : H l = some (.lst xs))
    (h1 : -(2 ^ 63) ≤ i) (h2 : i < 2 ^ 63) (hk : seqIndex? i xs.length = some k) (h : ∀ s', Inv X pins σ (upd H l (.lst (xs.eraseIdx k))) s' → Q () s') :
    wpAny (model X.prog X.w) X.A (delItem (.ref l) (.int i t)) Q X.xe s := by
  obtain ⟨z, its, n, r, hl, e⟩ := I.lstM hH
  refine PySem.P.delItem_list (k := k) e (fitsIndex_both h1 h2) (by rw [List.size_toArray, ← hl]; exact hk) (h _ ?_) (by rw [List.size_toArray]; omega)
  refine I.lset (its' := its.eraseIdx k) (t' := s.toks) hH e ?_ (r.eraseIdx k) ?_
  · show its.toArray.eraseIdxIfInBounds k = (its.eraseIdx k).toArray
    rw [List.eraseIdxIfInBounds_toArray]
  · have := len_erase xs k
    omega
end

/-! ### xs[a:b] = ys -/
section
variable {prog : Program} {w : World} {A : Around} {E : Value → Shared → Prop} {s : Shared}
theorem splice_eq (its its2 : List Value) (a c : Nat) : its.toArray.extract 0 a ++ its2.toArray ++ its.toArray.extract c its.toArray.size = (its.take a ++ its2 ++ its.drop c).toArray := by
  apply Array.toList_inj.mp
  first
    | (simp
       exact List.take_of_length_le (by simp))
    | simp [List.take_of_length_le]
    | simp
theorem bounds_run {a c n : Nat} (hac : a ≤ c) (hc : c ≤ n) : sliceBounds (some (a : Int)) (some (c : Int)) none n = ((a : Int), (c : Int), 1) := by
  simp only [sliceBounds, Option.getD_none]
  have h1 : ¬ ((a : Int) < 0) := by omega
  have h2 : ¬ ((c : Int) < 0) := by omega
  simp only [h1, h2, if_false, show (1 : Int) > 0 by decide, if_true]
  congr 1
  · omega
  · congr 1; omega
set_option maxRecDepth 100000 in
/-- list.__setitem__ with a slice of step one and another list -/
theorem setItem_slice {l b sl : Addr} {items new : Array Value} {n n2 : Nat} {vl vu : Value} {a c : Nat} {Q : Unit → Shared → Prop}
    (e : s.heap.get? l = some { cls := .type "list", data := .seq items n }) (e2 : s.heap.get? b = some { cls := .type "list", data := .seq new n2 }) (hne : l ≠ b)
    (hs : s.heap.IsSliceOf sl vl vu .none) (pl : IsPart vl (some (a : Int))) (pu : IsPart vu (some (c : Int))) (hac : a ≤ c) (hc : c ≤ items.size)
    (hsz : items.size + new.size ≤ sizeLine) (h : Q () { s with heap := s.heap.update l (Obj.mapSeq fun xs => xs.extract 0 a ++ new ++ xs.extract c xs.size) }) :
    wpAny (model prog w) A (setItem (.ref l) (.ref sl) (.ref b)) Q E s := by
  have hl : s.heap.IsList l items := PySem.IsL.isList e
  have hb : s.heap.IsList b new := PySem.IsL.isList e2
  obtain ⟨os, hos, hcs, hds⟩ := id hs
  have hTs : s.TypeIs (.ref sl) "slice" := ⟨os, hos, hcs⟩
  have hstep : ¬ ((rawPart none == rawInt 0) = true) := Bool.false_ne_true
  have hsame : Builtin.List.listSameRef (.ref l) (.ref b) = false := by
    unfold Builtin.List.listSameRef
    exact beq_eq_false_iff_ne.mpr hne
  have hmax : (max (a : Int) (c : Int)).toNat = c := by omega
  have hz' : ((fun xs : Array Value => xs.extract 0 a ++ new ++ xs.extract c xs.size) items).size ≤ sizeLine + 1 := by
    simp only [Array.size_append, Array.size_extract]
    omega
  unfold setItem
  try with_reducible refine wpAny_holding ?_
  first | refine wpAny_bind (wpAny_pure ?_) | skip
  refine wpAny_bind (wpAny_sequenceKey hl.typeIs (by decide) ?_)
  refine wpAny_bind (wpAny_callSpecial?_slot (name := Str.ofString "__setitem__") hl.typeIs slot_list_setitem
    (wpAny_call_entry slot_list_setitem hl.typeIs entry_list_setitem ?_ (args_list_setitem _ _ _)))
  show wpAny _ _ (Builtin.List.listSubscript? (.ref sl) >>= _) _ _ s
  refine wpAny_bind ?_
  unfold Builtin.List.listSubscript?
  refine wpAny_bind (wpAny_specialOf hTs slice_no_index ?_)
  simp only [Option.isNone_none, if_true]
  refine wpAny_pure ?_
  show wpAny _ _ (typeOf (.ref sl) >>= _) _ _ s
  refine wpAny_bind (wpAny_typeOf hTs ?_)
  first
    | rw [if_neg (by decide)]
    | refine PySem.W.KFB.if_not (by decide) ?_
  rw [listSliceParts_eq]
  refine wpAny_bind (wpAny_bind (wpAny_field hos hds (x := .none) rfl (wpAny_bind (wpAny_listPart .none ?_))))
  rw [if_neg hstep]
  refine wpAny_bind (wpAny_field hos hds (x := vl) rfl (wpAny_bind (wpAny_listPart pl ?_)))
  refine wpAny_bind (wpAny_field hos hds (x := vu) rfl (wpAny_bind (wpAny_listPart pu (wpAny_pure ?_))))
  first
    | simp only [hsame, Bool.false_eq_true, if_false]
    | refine PySem.W.KFB.if_not hsame ?_
    | (dsimp only
       rw [if_neg (by rw [hsame]; exact Bool.false_ne_true)])
  refine wpAny_bind (m := Builtin.List.listAllItems (.ref b) "must assign iterable to extended slice") ?_
  unfold Builtin.List.listAllItems
  refine wpAny_bind (wpAny_typeOf hb.typeIs ?_)
  first
    | refine PySem.W.KFB.if_so (by decide) ?_
    | rw [if_pos (by decide)]
    | simp only [beq_self_eq_true, Bool.true_or, if_true]
  unfold Builtin.List.listItems
  refine wpAny_bind (wpAny_seqItems e2 rfl (wpAny_pure ?_))
  refine wpAny_bind (wpAny_bind (wpAny_seqItems e rfl (wpAny_pure ?_)))
  refine wpAny_bind (wpAny_of_eq ((sliceIndices_raw (some (a : Int)) (some (c : Int)) none items.size (by simp)).trans (congrArg (pure : Int × Int × Int → Sem (Int × Int × Int)) (bounds_run hac hc))) ?_)
  show wpAny _ _ (if ((1 : Int) == 1) = true then _ else _) _ _ s
  rw [if_pos (by decide)]
  refine wpAny_bind (wpAny_rule ?_)
  first
    | simp only [notLongL hsz, Bool.false_eq_true, if_false]
    | refine PySem.W.KFB.if_not (notLongL hsz) ?_
  first | refine wpAny_bind (wpAny_pure ?_) | skip
  show wpAny _ _ (updateSeq l (fun xs => xs.extract 0 ((a : Int)).toNat ++ new ++ xs.extract (max (a : Int) (c : Int)).toNat xs.size) >>= _) _ _ s
  rw [hmax, Int.toNat_natCast]
  refine wpAny_bind (wpAny_updateSeq (hz := Nat.le_trans (Nat.le_add_right _ _) hsz) (_hz' := hz') e rfl ?_)
  refine wpAny_bind (wpAny_letGo ?_)
  first
    | exact wpAny_bind (wpAny_pure (wpAny_pure ⟨.none, rfl, wpAny_pure h⟩))
    | exact wpAny_pure ⟨.none, rfl, wpAny_pure h⟩
end

section
variable {X : Cx}
/-- xs[a:c] = ys of another list, at the value level: sl is the slice object that was just made -/
theorem set_slice {pins : List (Addr × Obj)} {s : Shared} {σ : St} {H : Hp} {l b sl : Addr} {xs ys : List V} {a c : Int} {vl vu : Value} {Q : Unit → Shared → Prop} (I : Inv X pins σ H s)
    (hH : H l = some (.lst xs)) (hB : H b = some (.lst ys)) (hne : l ≠ b) (hs : s.heap.IsSliceOf sl vl vu .none) (ra : RelV (.int a) vl) (rc : RelV (.int c) vu) (h0 : 0 ≤ a) (hac : a ≤ c) (hc : c ≤ xs.length)
    (hz : xs.length + ys.length ≤ sizeLine) (h : ∀ s', Inv X pins σ (upd H l (.lst (xs.take a.toNat ++ ys ++ xs.drop c.toNat))) s' → Q () s') :
    wpAny (model X.prog X.w) X.A (setItem (.ref l) (.ref sl) (.ref b)) Q X.xe s := by
  obtain ⟨ta, rfl⟩ := ra
  obtain ⟨tc, rfl⟩ := rc
  obtain ⟨z, its, n, r, hl, e⟩ := I.lstM hH
  obtain ⟨z2, its2, n2, r2, hl2, e2⟩ := I.lstM hB
  obtain ⟨a', rfl⟩ := Int.eq_ofNat_of_zero_le h0
  obtain ⟨c', rfl⟩ := Int.eq_ofNat_of_zero_le (Int.le_trans h0 hac)
  simp only [Int.toNat_natCast] at h
  refine setItem_slice (a := a') (c := c') e e2 hne hs (.int _ _) (.int _ _) (by omega) (by rw [List.size_toArray]; omega) (by rw [List.size_toArray, List.size_toArray]; omega) (h _ ?_)
  refine I.lset (its' := its.take a' ++ its2 ++ its.drop c') (t' := s.toks) hH e ?_ (Vals.append (Vals.append (r.take _) r2) (r.drop _)) ?_
  · exact splice_eq its its2 a' c'
  · rw [List.length_append, List.length_append, List.length_take, List.length_drop]
    omega
end
end L2

namespace Att
open PySem PySem.W PySem.Calls PyProof.Rows

/-! ### the script -/
theorem ints_of_wellAll {P : Params} {h : Heap} : ∀ (ns : List Int) (vs : List Value), WellAll P h vs (ns.map WData.int) → IntsAre vs ns := by
  intro ns
  induction ns with
  | nil =>
    intro vs w
    rw [List.map_nil] at w
    cases w
    exact .nil
  | cons n ns ih =>
    intro vs w
    rw [List.map_cons] at w
    cases w with
    | cons a b =>
      cases a
      exact .cons _ _ (ih _ b)

theorem script_of {l : OpenLaw} {n : Nat} (hn : l.most = some n) {P : Params} {h : Heap} {args : List WData} {vals : List Value}
    (hpre : l.row.toRowW.claim.pre args = true) (hwl : WellAll P h vals args) :
    ∃ a vs ns, vals = [Value.ref a] ∧ args = [WData.list (ns.map WData.int)] ∧ h.get? a = some { cls := .type "list", data := .seq vs.toArray } ∧ IntsAre vs ns ∧ ns.length ≤ n := by
  have hsh : WShape.hasAll [] args [.list .int] = true := (pre_splitW hpre).1
  have hc : l.pre.holds [] { args := args } = true := (pre_splitW hpre).2
  obtain ⟨d, r, rfl, h1, h2⟩ := hasAllW_cons hsh
  obtain rfl := hasAllW_nil h2
  obtain ⟨xs, rfl, h3⟩ := hasW_list h1
  obtain ⟨ns, rfl⟩ := items_int h3
  have hlen : ns.length ≤ n := by
    unfold OpenLaw.pre at hc
    have h4 : (WTm.not (.lt (.lit (.int (n : Int))) (.len (.arg 0)))).holds [] { args := [.list (ns.map .int)] } = true := by
      have h4 := (holds_andW hc).1
      rw [hn] at h4
      exact h4
    have h5 := condW_of h4 (w_not (w_lt w_lit (w_len_list (w_arg rfl))))
    rw [List.length_map] at h5
    refine Nat.le_of_not_lt fun q => ?_
    have q' : (n : Int) < ((ns.length : Nat) : Int) := by omega
    first
      | (rw [decide_eq_true q'] at h5; exact absurd h5 (by decide))
      | (simp at h5; omega)
  cases hwl with
  | cons w1 w2 =>
    cases w2
    cases w1 with
    | list ho hall => exact ⟨_, _, ns, rfl, rfl, ho, ints_of_wellAll ns _ hall, hlen⟩

theorem post_true (l : OpenLaw) (args : List WData) : l.row.toRowW.claim.post args (.bool true) args = true :=
  postW_of (r := l.row.toRowW) (X := (true == true))
    (show WShape.has [] (.bool true) .bool = true by first | rfl | decide | simp [WShape.has, WShape.arms, WShape.armsAll])
    (show (WTm.eq .res (.lit (.bool true))).value [] { args := args, res := some (.bool true), after := args } = some (.bool (true == true)) from w_eq_bool (w_res rfl) w_lit) rfl

/-! ### the attachment: holds_open's last premise (the goal 'hc' behind k_head) from a wpAny of the law's body -/
theorem attach {l : OpenLaw} {n : Nat} {q : Program} {loose : List Str} {XP : (Str → Option Value) → Heap → Prop} {YP : World → Heap → Prop} {d : DefRec} {x : Str}
    (hn : l.most = some n) (hdf : d.params.defaults = [])
    (hbind : ∀ pm cd doc v : Value, bindArgs (docDef d.name d.params d.body d.scope pm cd doc) ⟨[v], []⟩ = pure [(x, v)])
    (hx : d.scope.names.lookup x = some .local ∨ d.scope.names.lookup x = some .cell)
    (hk : d.scope.kind = .function) (hco : d.scope.isCoroutine = false) (hgen : d.scope.isGenerator = false)
    (body : ∀ (w : World) (s₀ s₁ s : Shared) (mg mb : Str → Option Value) (fa : Addr) (o : Obj) (pm cd doc : Value) (a : Addr) (vs : List Value) (ns : List Int),
      Ground q loose [] XP w s₀ mg mb s₁.heap → YP w s₁.heap →
      s₁.heap.get? fa = some o → o.data = .func (docDef d.name d.params d.body d.scope pm cd doc) → s₁.heap.CodeRec cd d.name → mg d.name = some (.ref fa) →
      s₁.heap.get? a = some { cls := .type "list", data := .seq vs.toArray } → IntsAre vs ns → ns.length ≤ n →
      s.gens = #[] → s.os = s₁.os →
      Fr s₁.heap s₁.heap.objs.size s.heap (bindL (envOfC d.name d.scope s₁.heap.objs.size fa cd).kindOf [(x, .ref a)] fun _ => none) →
      Cl s₁.heap.objs.size (cellsFrom (s₁.heap.objs.size + 1) d.scope.names []) s.heap (bindC (envOfC d.name d.scope s₁.heap.objs.size fa cd).kindOf [(x, .ref a)] fun _ => none) →
      wpAny (model l.prog w) (callerA.deeper (envOfC d.name d.scope s₁.heap.objs.size fa cd)) (execs d.body (envOfC d.name d.scope s₁.heap.objs.size fa cd))
        (fun f s' => f = .ret (.bool true) ∧ OldK s₁.heap s'.heap ∧ s'.os = s₁.os ∧ AllBare s'.gens) (fun _ _ => False) s) :
    WalkO q loose XP YP l.row.toRowW d [] (fun f vs => PySem.call f vs) := by
  intro w s₀ s₁ mg mb G Y fa o pm cd doc dV kV ho hd hcd hD hmg hg args vals as hpre hlay hrd hwl hlo
  obtain rfl : dV = .none := Dflts.none hD hdf
  obtain rfl : kV = .none := Dflts.noKw hD
  obtain ⟨a, vs, ns, rfl, rfl, hobj, hints, hlen⟩ := script_of hn hpre hwl
  refine enter_call ?_
  refine call_cells_ret (o := o) (by rw [depth_caller]; decide) ho (fd_plain hd) G.T.nolimit hcd (hbind pm cd doc (.ref a)) (fun y hy => ?_) (fun h₁ tk F X => ?_) hco hgen hk
  · obtain rfl : y = (x, Value.ref a) := List.mem_singleton.mp hy
    rcases hx with e | e
    · exact .inl e
    · exact .inr ⟨e, cellsFrom_some _ _ _ (.inl e)⟩
  · refine wpAny_mono (body w s₀ s₁ { s₁ with heap := h₁, toks := tk } mg mb fa o pm cd doc a vs ns G Y ho (fd_plain hd) hcd hmg hobj hints hlen hg rfl F X) (fun f s' hq => ?_) (fun _ _ hq => hq)
    obtain ⟨rfl, h2, h3, h4⟩ := hq
    exact ⟨.inl ⟨.bool true, .bool true, [], rfl, fun _ => rfl, .bool true, post_true l _, fun _ => ⟨List.Pairwise.nil, fun _ hm => (nomatch hm)⟩⟩, h2, h3, h4⟩

/-- the same from a codeAny of the CALL (for a layer whose function contracts speak of calls) -/
theorem attach_call {l : OpenLaw} {n : Nat} {q : Program} {loose : List Str} {XP : (Str → Option Value) → Heap → Prop} {YP : World → Heap → Prop} {d : DefRec}
    (hn : l.most = some n) (hdf : d.params.defaults = [])
    (call : ∀ (w : World) (s₀ s₁ : Shared) (mg mb : Str → Option Value) (fa : Addr) (o : Obj) (pm cd doc : Value) (a : Addr) (vs : List Value) (ns : List Int),
      Ground q loose [] XP w s₀ mg mb s₁.heap → YP w s₁.heap →
      s₁.heap.get? fa = some o → o.data = .func (docDef d.name d.params d.body d.scope pm cd doc) → s₁.heap.CodeRec cd d.name → mg d.name = some (.ref fa) →
      s₁.heap.get? a = some { cls := .type "list", data := .seq vs.toArray } → IntsAre vs ns → ns.length ≤ n → s₁.gens = #[] →
      codeAny (model l.prog w) callerA (.call (.ref fa) ⟨[.ref a], []⟩) (fun r s' => r = .ok (.ret (.bool true)) ∧ OldK s₁.heap s'.heap ∧ s'.os = s₁.os ∧ AllBare s'.gens) s₁) :
    WalkO q loose XP YP l.row.toRowW d [] (fun f vs => PySem.call f vs) := by
  intro w s₀ s₁ mg mb G Y fa o pm cd doc dV kV ho hd hcd hD hmg hg args vals as hpre hlay hrd hwl hlo
  obtain rfl : dV = .none := Dflts.none hD hdf
  obtain rfl : kV = .none := Dflts.noKw hD
  obtain ⟨a, vs, ns, rfl, rfl, hobj, hints, hlen⟩ := script_of hn hpre hwl
  refine enter_call (codeAny_mono (call w s₀ s₁ mg mb fa o pm cd doc a vs ns G Y ho (fd_plain hd) hcd hmg hobj hints hlen hg) fun r s' hq => ?_)
  obtain ⟨rfl, h2, h3, h4⟩ := hq
  exact ⟨.inl ⟨.bool true, .bool true, [], rfl, fun _ => rfl, .bool true, post_true l _, fun _ => ⟨List.Pairwise.nil, fun _ hm => (nomatch hm)⟩⟩, h2, h3, h4⟩

/-- the same where the top left finished generators (o_head chose holds_openN): nothing may have changed at all and no generator may be left -/
theorem attachN {l : OpenLaw} {n : Nat} {q : Program} {loose : List Str} {XP : (Str → Option Value) → Heap → Prop} {YP : World → Heap → Prop} {d : DefRec} {x : Str}
    (hn : l.most = some n) (hdf : d.params.defaults = [])
    (hbind : ∀ pm cd doc v : Value, bindArgs (docDef d.name d.params d.body d.scope pm cd doc) ⟨[v], []⟩ = pure [(x, v)])
    (hx : d.scope.names.lookup x = some .local ∨ d.scope.names.lookup x = some .cell)
    (hk : d.scope.kind = .function) (hco : d.scope.isCoroutine = false) (hgen : d.scope.isGenerator = false)
    (body : ∀ (w : World) (s₀ s₁ s : Shared) (mg mb : Str → Option Value) (fa : Addr) (o : Obj) (pm cd doc : Value) (a : Addr) (vs : List Value) (ns : List Int),
      Ground q loose [] XP w s₀ mg mb s₁.heap → YP w s₁.heap →
      s₁.heap.get? fa = some o → o.data = .func (docDef d.name d.params d.body d.scope pm cd doc) → s₁.heap.CodeRec cd d.name → mg d.name = some (.ref fa) →
      s₁.heap.get? a = some { cls := .type "list", data := .seq vs.toArray } → IntsAre vs ns → ns.length ≤ n →
      s.gens = #[] → s.os = s₁.os →
      Fr s₁.heap s₁.heap.objs.size s.heap (bindL (envOfC d.name d.scope s₁.heap.objs.size fa cd).kindOf [(x, .ref a)] fun _ => none) →
      Cl s₁.heap.objs.size (cellsFrom (s₁.heap.objs.size + 1) d.scope.names []) s.heap (bindC (envOfC d.name d.scope s₁.heap.objs.size fa cd).kindOf [(x, .ref a)] fun _ => none) →
      wpAny (model l.prog w) (callerA.deeper (envOfC d.name d.scope s₁.heap.objs.size fa cd)) (execs d.body (envOfC d.name d.scope s₁.heap.objs.size fa cd))
        (fun f s' => f = .ret (.bool true) ∧ (∀ b o, s₁.heap.get? b = some o → s'.heap.get? b = some o) ∧ s'.os = s₁.os ∧ s'.gens = #[]) (fun _ _ => False) s) :
    WalkN q loose XP YP l.row.toRowW d [] (fun f vs => PySem.call f vs) := by
  intro w s₀ s₁ mg mb G Y fa o pm cd doc dV kV ho hd hcd hD hmg hg args vals as hpre hlay hrd hwl hlo
  obtain rfl : dV = .none := Dflts.none hD hdf
  obtain rfl : kV = .none := Dflts.noKw hD
  obtain ⟨a, vs, ns, rfl, rfl, hobj, hints, hlen⟩ := script_of hn hpre hwl
  refine enter_callW ?_
  refine call_cells_ret (o := o) (by rw [depth_caller]; decide) ho (fd_plain hd) G.T.nolimit hcd (hbind pm cd doc (.ref a)) (fun y hy => ?_) (fun h₁ tk F X => ?_) hco hgen hk
  · obtain rfl : y = (x, Value.ref a) := List.mem_singleton.mp hy
    rcases hx with e | e
    · exact .inl e
    · exact .inr ⟨e, cellsFrom_some _ _ _ (.inl e)⟩
  · refine wpAny_mono (body w s₀ s₁ { s₁ with heap := h₁, toks := tk } mg mb fa o pm cd doc a vs ns G Y ho (fd_plain hd) hcd hmg hobj hints hlen hg rfl F X) (fun f s' hq => ?_) (fun _ _ hq => hq)
    obtain ⟨rfl, h2, h3, h4⟩ := hq
    exact ⟨.inl ⟨.bool true, .bool true, [], rfl, fun _ => rfl, .bool true, post_true l _, fun _ => ⟨List.Pairwise.nil, fun _ hm => (nomatch hm)⟩⟩, h2, h3, h4⟩

/-! ### rules over ANY heap (no ledger) from facts about the written part K: the library's own take a ledger (News) for what they write -/
section
variable {prog : Program} {w : World} {A : Around} {E : Value → Shared → Prop} {s : Shared} {K : Frag}

/-- a def of the module, or a method (qual 'C.m'), entered: the frame is the next address; cells behind it -/
theorem call_fn {R : Result → Shared → Prop} {name qual : Str} {params : Arguments} {body : List Stmt} {scope : Scope} {dV kV doc pm cdv ct oc : Value} {an od : Option Addr} {osl : Array (Option Value)} {f : Addr} {args : Args} {binds : List (Str × Value)}
    (X : K.In s.heap) (hlim : s.heap.NoLimit) (ho : K.lookup f = some ⟨oc, od, .func (fnOf name qual params body scope dV kV doc pm an cdv ct), osl⟩) (hcd : codeIn K cdv qual = true) (hroom : A.depth < recursionLimit)
    (hbind : BindsTo s (fnOf name qual params body scope dV kV doc pm an cdv ct) args binds)
    (hkind : (binds.all fun y => scope.names.lookup y.1 == some .local || scope.names.lookup y.1 == some .cell) = true)
    (h : ∀ s₁, InCallC s s.heap.objs.size (bindL (envOfC qual scope s.heap.objs.size f cdv).kindOf binds fun _ => none) (cellsFrom (s.heap.objs.size + 1) scope.names [])
        (bindC (envOfC qual scope s.heap.objs.size f cdv).kindOf binds fun _ => none) s₁ →
      wpAny (model prog w) (A.deeper (envOfC qual scope s.heap.objs.size f cdv)) (execs body (envOfC qual scope s.heap.objs.size f cdv))
        (fun fl s' => R (.ok (.ret (match fl with | .ret v => v | _ => .none))) s')
        (fun e s' => wpAny (model prog w) (A.deeper (envOfC qual scope s.heap.objs.size f cdv)) (leaving (envOfC qual scope s.heap.objs.size f cdv) e) (fun _ s'' => R (.error e) s'') (fun e' s'' => R (.error e') s'') s') s₁)
    (hco : scope.isCoroutine = false) (hgen : scope.isGenerator = false) (hk : scope.kind = .function) : codeAny (model prog w) A (.call (.ref f) args) R s := by
  refine codeAny_call_function hroom (X _ _ ho) rfl hco hgen rfl (codeRec_of X hcd) (hbind _ _ _ _ ?_)
  refine wpAny_newFunctionEnv_cells hk (kindsX hkind _) fun env he s₁ x => ?_
  subst he
  exact ⟨hlim.keeps x.toInCall.keep, codeAny_func (h s₁ x)⟩

/-- C(..): dict at size, instance at size + 1, then __init__ -/
theorem make_obj {R : Result → Shared → Prop} {C fI : Addr} {rest : List Value} {kw : List (Str × Value)}
    (X : K.In s.heap) (hm : makesIn K C = true) (hi : findIn K (.ref C) "__init__" = some (some (.ref fI))) (hf : isFn K (.ref fI) = true)
    (h : codeAny (model prog w) (A.under (.builtin "type.__call__" ⟨.ref C :: rest, kw⟩)) (.call (.ref fI) ⟨.ref (s.heap.objs.size + 1) :: rest, kw⟩) (InitBack (s.heap.objs.size + 1) R)
      { s with heap := (s.heap.push emptyDict).push (instObj C s.heap.objs.size) }) : codeAny (model prog w) A (.call (.ref C) ⟨rest, kw⟩) R s := by
  obtain ⟨hh, g, d, t, os⟩ := s
  exact make_core (makes_of X hm) (looks_findIn X hi) (fun self => bind_fn X self (beq_iff_eq.mp hf)) (.inl rfl) h

/-- x.name where the instance's dict holds the name and the class does not -/
theorem get_field {x C : Addr} {ox : Obj} {es : List DictEntry} {n : Nat} {name : Str} {expr : Bool} {v : Value} {Q : Value → Shared → Prop}
    (X : K.In s.heap) (I : PySem.W.InstAt s.heap x ox C (some (dictOf es n))) (hg : plainGet K C name = true) (hh : hasDictIn K C = true) (ha : findIn K (.ref C) name = some none)
    (hl : getL name es = some (some v)) (hv : handedIn v = true) (h : Q v { s with toks := s.toks + 1 }) : wpAny (model prog w) A (getAttr (.ref x) name expr) Q E s :=
  get_value X I (plainGet_of hg).1 (findObj_own hh ha rfl hl) hv h

/-- x.m(..): the method found in the class -/
theorem get_method {x C f : Addr} {ox : Obj} {es : List DictEntry} {n : Nat} {name : Str} {pl : Sem Bool} {Q : Value × List Value → Shared → Prop}
    (X : K.In s.heap) (I : PySem.W.InstAt s.heap x ox C (some (dictOf es n))) (hg : plainGet K C name = true) (hf : findIn K (.ref C) name = some (some (.ref f))) (ht : isFn K (.ref f) = true)
    (hl : getL name es = some none) (h : Q (.ref f, [.ref x]) s) : wpAny (model prog w) A (getMethod (.ref x) name pl) Q E s :=
  method_fn X I (plainGet_of hg).1 (plainGet_of hg).2 hf (beq_iff_eq.mp ht) (by show (lookIn name (dictOf es n)).map _ = _; rw [lookIn_dict, hl]; rfl) h

/-! the whole heap as the ledger: makes every rule that writes through a ledger a rule over any heap -/
def noObjs (h : Heap) : Heap := { h with objs := #[] }
theorem noObjs_get (h : Heap) (b : Addr) : (noObjs h).get? b = none := by
  cases e : (noObjs h).get? b with
  | none => rfl
  | some o => exact absurd (Heap.lt_size e) (Nat.not_lt_zero _)
def ledger (h : Heap) (L d : Addr) : List (Addr × Obj) := (List.range h.objs.size).filterMap fun a => if a = L ∨ a = d then none else (h.get? a).map fun o => (a, o)
theorem mem_ledger {h : Heap} {L d a : Addr} {o : Obj} : (a, o) ∈ ledger h L d ↔ a ≠ L ∧ a ≠ d ∧ h.get? a = some o := by
  unfold ledger
  rw [List.mem_filterMap]
  constructor
  · rintro ⟨b, _, e⟩
    split at e
    · cases e
    · rename_i hb
      obtain ⟨o', ho, e'⟩ := Option.map_eq_some_iff.mp e
      cases e'
      exact ⟨fun q => hb (.inl q), fun q => hb (.inr q), ho⟩
  · rintro ⟨n1, n2, ho⟩
    refine ⟨a, List.mem_range.mpr (Heap.lt_size ho), ?_⟩
    rw [if_neg (show ¬ (a = L ∨ a = d) from fun q => q.elim n1 n2), ho] <;> rfl
theorem news_ledger {h : Heap} {L d : Addr} {od : Obj} (hne : d ≠ L) (ho : h.get? d = some od) : News (noObjs h) L h ([] ++ (d, od) :: ledger h L d) := by
  rintro ⟨a, o⟩ hp
  rcases List.mem_cons.mp hp with e | hp
  · cases e
    exact ⟨ho, hne, noObjs_get _ _⟩
  · obtain ⟨n1, n2, e⟩ := mem_ledger.mp hp
    exact ⟨e, n1, noObjs_get _ _⟩
theorem fr_all {h : Heap} {L : Addr} {m : Str → Option Value} (n : h.Ns L m) : Fr (noObjs h) L h m :=
  ⟨n, fun b o e => (by rw [noObjs_get] at e; cases e), Nat.zero_le _⟩
/-- Upd of the head entry (for append_K, setItem_K ..) -/
theorem upd_ledger {h : Heap} {L d : Addr} {o o' : Obj} : Upd d o o' ((d, o) :: ledger h L d) ((d, o') :: ledger h L d) :=
  .head fun ⟨_, _⟩ hp => (mem_ledger.mp hp).2.1

/-- x.name = v over any heap: L is any namespace of the heap (the frame's, say): its map stays, its object is not told; all else but the dict stays -/
theorem set_field {x C dx L : Addr} {ox : Obj} {m : Str → Option Value} {es es' : List DictEntry} {n n' : Nat} {name : Str} {v : Value} {Q : Unit → Shared → Prop}
    (X : K.In s.heap) (I : PySem.W.InstAt s.heap x ox C (some (dictOf es n))) (hd : ox.dict = some dx) (hL : s.heap.Ns L m) (hne : dx ≠ L)
    (hs : findIn K (.ref C) "__setattr__" = some (some (.builtin "object.__setattr__"))) (hp : plainOver K C = true) (ht : takerIn K C name = some none) (hh : hasDictIn K C = true) (hl : (getL name es).isSome = true)
    (e : (putL name (PyData.keyHash w.params name) (.str name (s.toks + 1)) v es, putN name es n) = (es', n')) (hz : es'.length ≤ 1000)
    (h : ∀ h' : Heap, h'.Ns L m → h'.get? dx = some (dictOf es' n') → (∀ b o, b ≠ dx → b ≠ L → s.heap.get? b = some o → h'.get? b = some o) → Q () { s with heap := h', toks := s.toks + 2 }) :
    wpAny (model prog w) A (setAttr (.ref x) name v) Q E s := by
  obtain ⟨e1, e2⟩ := Prod.mk.inj e
  have hdx : s.heap.get? dx = some (dictOf es n) := by
    have := I.dict
    rw [hd] at this
    exact this
  refine set_plain X I hs (osa_dict (s := { s with toks := s.toks + 1 }) (h₀ := noObjs s.heap) (L := L) (m := m) (od := dictOf es n) (od' := dictOf es' n') (es := es') (n := n') (pre := []) (post := ledger s.heap L dx)
    (fr_all hL) (news_ledger hne hdx) X I hd hp ht hh hl (fun _ q => nomatch q) (fun ⟨_, _⟩ q => (mem_ledger.mp q).2.1) (by rw [putName_dict, e1, e2]) rfl hz fun h' F' N' => ?_)
  exact h h' F'.ns (N'.get (List.Mem.head _)) fun b o n1 n2 ho => N'.get (List.Mem.tail _ (mem_ledger.mpr ⟨n2, n1, ho⟩))
end
end Att

namespace L2
open PySem PySem.Spec PyProof.Rows

theorem vals_ints : ∀ {vs : List Value} {ns : List Int}, IntsAre vs ns → Vals (ns.map V.int) vs
  | _, _, .nil => .nil
  | _, _, .cons n t h => .cons ⟨t, rfl⟩ (vals_ints h)

/-- nothing is tracked but the script, known to the object (or it is an object of the module) -/
def Only (H : Hp) : Prop := ∀ b, H b = none ∨ ∃ o xs, H b = some (.frz o (.lst xs))

/-- THE HEAD: the law's promise, at the heap behind the top. F, the promise of the law's def, may use that base is part of the heap (so K.In base, base.Ns mainGlobals mg stand in Mod) -/
theorem law_call {P : Program} {w : World} {K : PySem.W.Frag} {mg mb : Str → Option Value} {CX : CXT} {k : Nat} {fa a : Addr} {fd : FuncData} {x : Str} {sp : Sp} {s₁ : Shared} {vs : List Value} {ns : List Int}
    (KX : K.In s₁.heap) (hns : s₁.heap.Ns mainGlobals mg) (hb : s₁.heap.Ns builtinsNs mb) (hbb : ∀ x : Str, x ≠ "__name__" → mb x = bootBuiltins x) (hlim : s₁.heap.NoLimit) (hg : s₁.gens = #[])
    (ha : s₁.heap.get? a = some { cls := .type "list", data := .seq vs.toArray }) (hi : IntsAre vs ns) (hl : ns.length ≤ sizeLine) (hr : Room k callerA)
    (F : ∀ base : Heap, K.In base → base.Ns mainGlobals mg → FnOk P w K mg base CX k fa fd [x] sp) (hbind : ∀ (s : Shared) (u : Value), BindsTo s fd ⟨[u], []⟩ [(x, u)])
    (hsp : ∀ H : Hp, Only H → SqL K H a (ns.map V.int) → sp [.ref a] H (fun v _ => v = .bl true) fun _ _ _ => False)
    (hCX : ∀ H e s', CX [] H s₁ (fun _ _ _ => False) e s' → False) :
    codeAny (model P w) callerA (.call (.ref fa) ⟨[.ref a], []⟩) (fun r s' => r = .ok (.ret (.bool true)) ∧ OldK s₁.heap s'.heap ∧ s'.os = s₁.os ∧ AllBare s'.gens) s₁ := by
  have rv := vals_ints hi
  have lenV := hi.length
  -- from an abstract heap in which nothing but the script may be tracked
  have core : ∀ H : Hp, Only H → SqL K H a (ns.map V.int) → HOk P w H s₁.heap → (∀ b, H b ≠ none → b = a) → (H a ≠ none → K.lookup a = none) →
      codeAny (model P w) callerA (.call (.ref fa) ⟨[.ref a], []⟩) (fun r s' => r = .ok (.ret (.bool true)) ∧ OldK s₁.heap s'.heap ∧ s'.os = s₁.os ∧ AllBare s'.gens) s₁ := by
    intro H hO hS hok hA hK
    have base_of : ∀ {b : Addr} {o : Obj}, s₁.heap.get? b = some o → H b = none → (hidT s₁.heap H).get? b = some o := fun e n => hidT_get e n
    have noA : ∀ {b : Addr} {o : Obj} {es : Array DictEntry} {ep : Nat}, s₁.heap.get? b = some o → o.data = .dict es ep → H b = none := fun {b o es ep} e d => by
      cases q : H b with
      | none => rfl
      | some u =>
        have e' : b = a := hA b (by rw [q]; simp)
        subst e'
        rw [ha] at e; cases e
        have d' : Data.seq vs.toArray _ = Data.dict es ep := d
        cases d'
    have nsK : ∀ {b : Addr} {m : Str → Option Value}, s₁.heap.Ns b m → (hidT s₁.heap H).Ns b m := fun {b m} ⟨o, es, ep, e, d, r⟩ => ⟨o, es, ep, base_of e (noA e d), d, r⟩
    have hKb : K.In (hidT s₁.heap H) := fun b o e => base_of (KX b o e) (by
      cases q : H b with
      | none => rfl
      | some u =>
        have e' : b = a := hA b (by rw [q]; simp)
        subst e'
        rw [hK (by rw [q]; simp)] at e; cases e)
    have hM : Mod K mg (hidT s₁.heap H) := ⟨hKb, nsK hns, ⟨mb, nsK hb, hbb⟩, let ⟨mc, h1, h2⟩ := hlim; ⟨mc, nsK h1, h2⟩⟩
    have e0 : Env0 P w K mg (hidT s₁.heap H) callerA [] s₁ H := ⟨rfl, hM, fun b o e => of_hidT e, Nat.le_of_eq (hidT_size _ _), trivial, fun b hb => absurd (show b ∈ ([] : List Addr) from hb) (by simp), hok, .of_eq hg⟩
    refine codeAny_mono ((F _ hKb (nsK hns)).run callerA [] s₁ H ⟨[.ref a], []⟩ [.ref a] [.ref a] _ _ hr e0 (hbind s₁ (.ref a)) (.cons rfl .nil) (hsp H hO hS)) fun r s' h => ?_
    cases r with
    | error e => exact (hCX H e s' h).elim
    | ok fl =>
      cases fl with
      | next => exact False.elim h
      | brk => exact False.elim h
      | cont => exact False.elim h
      | ret u =>
        obtain ⟨v, H', os, bare, un, hok', r', q⟩ := h
        have q' : v = .bl true := q
        subst q'
        obtain rfl : u = Value.bool true := r'
        refine ⟨rfl, OldK.of_keep fun b o e => ?_, os, bare⟩
        cases q : H b with
        | none => exact un.keep b o e q (by intro z; exact absurd (show b ∈ ([] : List Addr) from z) (by simp)) (by simp)
        | some u =>
          rcases hO b with z | ⟨ob, xs, z⟩
          · rw [q] at z; cases z
          · have z2 := un.frzs b ob _ z
            obtain ⟨e1, _⟩ := hok b _ z
            obtain ⟨e2, _⟩ := hok' b _ z2
            rw [e] at e1; cases e1
            exact e2
  cases hk : K.lookup a with
  | some o =>
    -- the script is one of the module's own objects
    have e := KX a o hk
    rw [ha] at e
    cases e
    refine core (fun _ => none) (fun _ => .inl rfl) (.inr ⟨_, vs.toArray, _, hk, rfl, rfl, rfl, by rw [List.size_toArray, lenV]; exact hl, by simpa using rv⟩) (fun b u z => by have z' : (none : Option HO) = some u := z; cases z') (fun b z => absurd rfl z) fun z => absurd rfl z
  | none =>
    refine core (fun b => if b = a then some (.frz { cls := .type "list", data := .seq vs.toArray } (.lst (ns.map V.int))) else none) (fun b => ?_) (.inl (.inr ⟨{ cls := .type "list", data := .seq vs.toArray }, if_pos rfl⟩)) (fun b u z => ?_) (fun b z => ?_) fun _ => hk
    · by_cases hb : b = a
      · exact .inr ⟨_, _, if_pos hb⟩
      · exact .inl (if_neg hb)
    · by_cases hb : b = a
      · have z' := (if_pos hb).symm.trans z
        cases z'
        subst hb
        exact ⟨ha, by rw [List.length_map]; exact hl, vs, _, rv, ha⟩
      · have z' := (if_neg hb).symm.trans z
        cases z'
    · by_cases hb : b = a
      · exact hb
      · exact absurd (if_neg hb) z
end L2

namespace L2
open PySem PySem.Spec PyProof.Rows

abbrev KOf {K : PySem.W.Frag} {h : Heap} (_ : K.In h) : PySem.W.Frag := K

/-- the goal that k_head leaves (case hc), from the law's promise. F gives the function object fd (K's own) once, then the promise over every base -/
theorem walk_of {l : PySem.W.OpenLaw} {n k : Nat} {q : Program} {loose : List Str} {XP : (Str → Option Value) → Heap → Prop} {YP : World → Heap → Prop} {d : DefRec} {K : Params → PySem.W.Frag} {CX : World → CXT} {sp : World → Sp} {x : Str}
    (hn : l.most = some n) (hn2 : n ≤ sizeLine) (hdf : d.params.defaults = []) (hr : Room k callerA)
    (hY : ∀ (w : World) (h : Heap), YP w h → (K w.params).In h)
    (F : ∀ (w : World) (mg : Str → Option Value) (fa : Addr) (h : Heap), (K w.params).In h → h.Ns mainGlobals mg → mg d.name = some (.ref fa) →
      ∃ fd : FuncData, (∀ (s : Shared) (u : Value), BindsTo s fd ⟨[u], []⟩ [(x, u)]) ∧
        ∀ base : Heap, (K w.params).In base → base.Ns mainGlobals mg → FnOk l.prog w (K w.params) mg base (CX w) k fa fd [x] (sp w))
    (hsp : ∀ (w : World) (H : Hp) (a : Addr) (ns : List Int), ns.length ≤ n → Only H → SqL (K w.params) H a (ns.map V.int) → sp w [.ref a] H (fun v _ => v = .bl true) fun _ _ _ => False)
    (hCX : ∀ (w : World) (H : Hp) (s : Shared) (e : Value) (s' : Shared), CX w [] H s (fun _ _ _ => False) e s' → False) :
    PySem.W.WalkO q loose XP YP l.row.toRowW d [] (fun f vs => PySem.call f vs) := by
  refine Att.attach_call hn hdf fun w s₀ s₁ mg mb fa o pm cd doc a vs ns G Y ho hd hcd hmg hobj hints hlen hg => ?_
  have KX := hY w _ Y
  obtain ⟨fd, hb, hF⟩ := F w mg fa _ KX G.T.g hmg
  exact law_call KX G.T.g G.T.b G.T.builtins G.T.nolimit hg hobj hints (Nat.le_trans hlen hn2) hr hF hb (fun H hO hS => hsp w H a ns hlen hO hS) fun H e s' => hCX w H s₁ e s'
/-- the same where the promise hangs on the written part alone: (sp := My.sp_law), no hole under a binder -/
theorem walk_ofK {l : PySem.W.OpenLaw} {n k : Nat} {q : Program} {loose : List Str} {XP : (Str → Option Value) → Heap → Prop} {YP : World → Heap → Prop} {d : DefRec} {K : Params → PySem.W.Frag} {CX : CXT} {sp : PySem.W.Frag → Sp} {x : Str}
    (hn : l.most = some n) (hn2 : n ≤ sizeLine) (hdf : d.params.defaults = []) (hr : Room k callerA)
    (hY : ∀ (w : World) (h : Heap), YP w h → (K w.params).In h)
    (F : ∀ (w : World) (mg : Str → Option Value) (fa : Addr) (h : Heap), (K w.params).In h → h.Ns mainGlobals mg → mg d.name = some (.ref fa) →
      ∃ fd : FuncData, (∀ (s : Shared) (u : Value), BindsTo s fd ⟨[u], []⟩ [(x, u)]) ∧
        ∀ base : Heap, (K w.params).In base → base.Ns mainGlobals mg → FnOk l.prog w (K w.params) mg base CX k fa fd [x] (sp (K w.params)))
    (hsp : ∀ (K : PySem.W.Frag) (H : Hp) (a : Addr) (ns : List Int), ns.length ≤ n → Only H → SqL K H a (ns.map V.int) → sp K [.ref a] H (fun v _ => v = .bl true) fun _ _ _ => False)
    (hCX : ∀ (H : Hp) (s : Shared) (e : Value) (s' : Shared), CX [] H s (fun _ _ _ => False) e s' → False) :
    PySem.W.WalkO q loose XP YP l.row.toRowW d [] (fun f vs => PySem.call f vs) :=
  walk_of (K := K) (CX := fun _ => CX) (sp := fun w => sp (K w.params)) hn hn2 hdf hr hY F (fun w H a ns h1 h2 h3 => hsp (K w.params) H a ns h1 h2 h3) fun _ H s e s' => hCX H s e s'
end L2



/-! SHORT WORDS over the layer: a def of the text, its body, what a loop and a test want. -/
namespace L2
open PySem PySem.Spec PyProof.Rows

/-! ### the text by places -/
/-- the j-th statement of a class's body -/
def inClass (s : Stmt) (j : Nat) : Stmt := match s with
  | .ClassDef _ _ _ body _ _ _ _ _ _ _ => body.getD j (.Pass ⟨0, 0, 0, 0⟩)
  | _ => .Pass ⟨0, 0, 0, 0⟩
def defArgs (s : Stmt) : Arguments := match s with
  | .FunctionDef _ a _ _ _ _ _ _ _ _ => a
  | _ => { posonlyargs := [], args := [], vararg := none, kwonlyargs := [], kw_defaults := [], kwarg := none, defaults := [] }
def defBody (s : Stmt) : List Stmt := match s with
  | .FunctionDef _ _ b _ _ _ _ _ _ _ => b
  | _ => []
def defScope (s : Stmt) : Scope := match s with
  | .FunctionDef _ _ _ _ _ _ sc _ _ _ => sc
  | _ => { kind := .function, names := [], isGenerator := false, isCoroutine := false }

/-! ### no exception leaves a def -/
abbrev CX0 : CXT := fun _ _ _ _ _ _ => False
abbrev E0 : XK := fun _ _ _ => False
theorem pass0 {X : Cx} : Passes CX0 X E0 := fun _ _ _ _ _ _ _ h => h.elim

/-! ### a def (or method) of the text as it stands behind the top -/
structure Fun (K : PySem.W.Frag) (x qual : Str) (st : Stmt) (f : Addr) (fd : FuncData) : Prop where
  ex : ∃ (oc : Value) (od : Option Addr) (kV doc pm : Value) (an : Option Addr) (cdv ct : Value) (osl : Array (Option Value)),
    fd = PySem.W.fnOf x qual (defArgs st) (defBody st) (defScope st) .none kV doc pm an cdv ct ∧ K.lookup f = some ⟨oc, od, .func fd, osl⟩ ∧ PySem.W.codeIn K cdv qual = true
  kp : PySem.W.keepIn K (.ref f) = true
section
variable {P : Program} {w : World} {K : PySem.W.Frag} {mg : Str → Option Value} {base : Heap}
/-- THE RULE for a def: its body as a term of rules, and the reading of that term -/
theorem Fun.ok {x qual : Str} {st : Stmt} {f : Addr} {fd : FuncData} {N ps : List Str} {k : Nat} {sp : Sp} (F : Fun K x qual st f fd) (S : FnScope N ps (defScope st)) (len : ∀ vs H Q E, sp vs H Q E → vs.length = ps.length)
    (hbody : ∀ (cdv : Value) (A : Around) (outer : List Env) (s : Shared) (H : Hp) (vs : List V) (Q : VK) (E : XK), Room k (A.deeper (envOfC qual (defScope st) s.heap.objs.size f cdv)) → sp vs H Q E →
      ∃ t, PSs (cxOf CX0 P w K mg base N qual (defScope st) f cdv A outer s H E).nox (defBody st) t ∧ t { nx := fun _ H' => Q .non H', rt := Q } (start N vs) H) : FnOk P w K mg base CX0 (k + 1) f fd ps sp := by
  obtain ⟨oc, od, kV, doc, pm, an, cdv, ct, osl, rfl, lk, hcd⟩ := F.ex
  refine fn_of lk hcd S len fun A outer s H vs Q E hr hsp => ?_
  obtain ⟨t, h, q⟩ := hbody cdv A outer s H vs Q E hr hsp
  exact ⟨t, h.nox, q⟩
/-- how its arguments bind (no defaults): h is «fun _ _ _ _ _ _ us hl => match us, hl with | [_, _], _ => rfl», one _ a parameter -/
theorem Fun.binds {x qual : Str} {st : Stmt} {f : Addr} {fd : FuncData} {ps : List Str} (F : Fun K x qual st f fd)
    (h : ∀ (kV doc pm : Value) (an : Option Addr) (cdv ct : Value) (us : List Value), us.length = ps.length → bindArgs (PySem.W.fnOf x qual (defArgs st) (defBody st) (defScope st) .none kV doc pm an cdv ct) ⟨us, []⟩ = pure (ps.zip us)) : Binds K fd ps [] := by
  obtain ⟨oc, od, kV, doc, pm, an, cdv, ct, osl, rfl, lk, hcd⟩ := F.ex
  exact .all (h kV doc pm an cdv ct)
theorem fun_mk {x qual : Str} {st : Stmt} {f : Addr} {oc : Value} {od an : Option Addr} {osl : Array (Option Value)} {kV doc pm cdv ct : Value} (l : K.lookup f = some ⟨oc, od, .func (PySem.W.fnOf x qual (defArgs st) (defBody st) (defScope st) .none kV doc pm an cdv ct), osl⟩)
    (c : PySem.W.codeIn K cdv qual = true) (k : PySem.W.keepIn K (.ref f) = true) : Fun K x qual st f (PySem.W.fnOf x qual (defArgs st) (defBody st) (defScope st) .none kV doc pm an cdv ct) := ⟨⟨oc, od, kV, doc, pm, an, cdv, ct, osl, rfl, l, c⟩, k⟩
end
theorem hu_of {A : Around} {k : Nat} (hr : Room k A) : A.units + 1 < cLine := Nat.lt_of_le_of_lt (Nat.add_le_add_left (by decide : 1 ≤ 64) _) hr.units
theorem small1000 {n : Nat} (h : n ≤ 1000) : n < sizeLine := Nat.lt_of_le_of_lt h (by decide)

/-! ### expressions in short: the name that stands in the i-th slot -/
section
variable {X : Cx}
theorem pv (i : Nat) {x : Str} {pos : Pos} (hN : X.N[i]? = some x := by rfl) (hv : Vis X.env.scope x := by first | exact Or.inl rfl | exact Or.inr (Or.inl rfl) | exact Or.inr (Or.inr rfl)) (hd : (x == ("__debug__" : Str)) = false := by decide)
    (hcd : (x == ("__classdict__" : Str)) = false := by decide) : PE X (.Name x pos) (tVar i) := pe_var hN hv hd hcd
end

/-! ### tests -/
theorem iteF {A B : Prop} (h : B) : if false = true then A else B := by
  rw [if_neg Bool.false_ne_true]
  exact h
theorem iteT {A B : Prop} (h : A) : if true = true then A else B := by
  rw [if_pos rfl]
  exact h
theorem ite2 {c A B : Prop} [Decidable c] (h1 : c → A) (h2 : ¬ c → B) : if c then A else B := by
  by_cases h : c
  · rw [if_pos h]
    exact h1 h
  · rw [if_neg h]
    exact h2 h
theorem iteNS {c A B : Prop} [Decidable c] (hc : c) (h : B) : if (!decide c) = true then A else B := by
  rw [decide_eq_true hc]
  exact iteF h

/-! ### heaps -/
/-- all that was tracked is as it was -/
def Same (H H' : Hp) : Prop := ∀ b o, H b = some o → H' b = some o
theorem Same.refl (H : Hp) : Same H H := fun _ _ h => h
theorem Same.trans {H H1 H2 : Hp} (a : Same H H1) (b : Same H1 H2) : Same H H2 := fun c o h => b c o (a c o h)
theorem Same.free {H H' : Hp} (e : Same H H') {l : Addr} (h : H' l = Option.none) : H l = Option.none := by
  cases q : H l with
  | none => rfl
  | some o =>
    rw [e l o q] at h
    cases h
theorem Same.seq {K : PySem.W.Frag} {H H' : Hp} {a : Addr} {xs : List V} (e : Same H H') (h : SqL K H a xs) : SqL K H' a xs := by
  rcases h with (h | ⟨o, h⟩) | h
  · exact .inl (.inl (e _ _ h))
  · exact .inl (.inr ⟨o, e _ _ h⟩)
  · exact .inr h

end L2

section
set_option Elab.async false
set_option linter.all false
set_option maxRecDepth 100000
set_option maxHeartbeats 4000000
namespace L2
open PySem PySem.Spec PyProof.Rows

/-! ### cells of a block -/
theorem cellsFrom_inj : ∀ (names : List (Str × NameKind)) (n : Nat) (acc : List (Str × Addr)),
    (∀ x y c, acc.lookup x = some c → acc.lookup y = some c → x = y) → (∀ x c, acc.lookup x = some c → c < n) →
    ∀ x y c, (cellsFrom n names acc).lookup x = some c → (cellsFrom n names acc).lookup y = some c → x = y
  | [], _, _, h, _ => h
  | (z, k) :: r, n, acc, h, hb => by
    unfold cellsFrom
    split
    · refine cellsFrom_inj r (n + 1) ((z, n) :: acc) ?_ ?_
      · intro x y c hx hy
        rw [List.lookup_cons] at hx hy
        cases ex : x == z with
        | true =>
          rw [ex] at hx
          have e1 : n = c := Option.some.inj hx
          cases ey : y == z with
          | true => rw [beq_iff_eq.mp ex, beq_iff_eq.mp ey]
          | false =>
            rw [ey] at hy
            have := hb y c hy
            rw [← e1] at this
            exact absurd this (Nat.lt_irrefl _)
        | false =>
          rw [ex] at hx
          cases ey : y == z with
          | true =>
            rw [ey] at hy
            have e1 : n = c := Option.some.inj hy
            have := hb x c hx
            rw [← e1] at this
            exact absurd this (Nat.lt_irrefl _)
          | false =>
            rw [ey] at hy
            exact h x y c hx hy
      · intro x c hx
        rw [List.lookup_cons] at hx
        cases ex : x == z with
        | true =>
          rw [ex] at hx
          have e1 : n = c := Option.some.inj hx
          rw [← e1]
          exact Nat.lt_succ_self n
        | false =>
          rw [ex] at hx
          exact Nat.lt_succ_of_lt (hb x c hx)
    · exact cellsFrom_inj r n acc h hb
theorem cellsFrom_low (x : Str) (lo : Nat) : ∀ (names : List (Str × NameKind)) (n : Nat) (acc : List (Str × Addr)), lo ≤ n →
    ((x, NameKind.cell) ∈ names ∨ ∀ c, acc.lookup x = some c → lo ≤ c) → ∀ c, (cellsFrom n names acc).lookup x = some c → lo ≤ c
  | [], _, _, _, h => h.elim (fun z => nomatch z) id
  | (z, k) :: r, n, acc, hl, h => by
    unfold cellsFrom
    split
    · refine cellsFrom_low x lo r (n + 1) ((z, n) :: acc) (by omega) ?_
      by_cases ex : x = z
      · refine .inr fun c hc => ?_
        rw [List.lookup_cons, ex, beq_self_eq_true] at hc
        have : n = c := Option.some.inj hc
        omega
      · rcases h with h | h
        · rcases List.mem_cons.mp h with e | h
          · exact absurd (Prod.mk.inj e).1 ex
          · exact .inl h
        · refine .inr fun c hc => h c ?_
          rw [List.lookup_cons, beq_false_of_ne ex] at hc
          exact hc
    · rename_i hk
      refine cellsFrom_low x lo r n acc hl ?_
      rcases h with h | h
      · rcases List.mem_cons.mp h with e | h
        · rw [← (Prod.mk.inj e).2] at hk
          exact absurd rfl hk
        · exact .inl h
      · exact .inr h
theorem cellsFrom_out {x : Str} : ∀ (names : List (Str × NameKind)) (n : Nat) (acc : List (Str × Addr)), (∀ y ∈ names, y.1 = x → y.2 ≠ .cell) → (cellsFrom n names acc).lookup x = acc.lookup x
  | [], _, _, _ => rfl
  | (z, k) :: r, n, acc, h => by
    unfold cellsFrom
    split
    · rename_i hk
      rw [cellsFrom_out r (n + 1) ((z, n) :: acc) fun y hy => h y (List.mem_cons_of_mem _ hy), List.lookup_cons]
      have : x ≠ z := fun e => h (z, k) List.mem_cons_self e.symm (by simpa using hk)
      rw [beq_false_of_ne this]
    · exact cellsFrom_out r n acc fun y hy => h y (List.mem_cons_of_mem _ hy)
/-- a cell of the block is an own one (above n) or one of acc -/
theorem cellsFrom_or (x : Str) : ∀ (names : List (Str × NameKind)) (n : Nat) (acc : List (Str × Addr)) (c : Addr), (cellsFrom n names acc).lookup x = some c → n ≤ c ∨ acc.lookup x = some c
  | [], _, _, _, h => .inr h
  | (z, k) :: r, n, acc, c, h => by
    unfold cellsFrom at h
    split at h
    · rcases cellsFrom_or x r (n + 1) ((z, n) :: acc) c h with q | q
      · exact .inl (by omega)
      · rw [List.lookup_cons] at q
        cases ex : x == z with
        | true => rw [ex] at q; have : n = c := Option.some.inj q; exact .inl (by omega)
        | false => rw [ex] at q; exact .inr q
    · exact cellsFrom_or x r n acc c h
theorem cellsFrom_isCell : ∀ (names : List (Str × NameKind)) (h : Heap) (acc : List (Str × Addr)), (∀ x c, acc.lookup x = some c → ∃ v, h.IsCell c v) →
    ∀ x c, (cellsFrom h.objs.size names acc).lookup x = some c → ∃ v, (pushCells h names).IsCell c v
  | [], _, _, h => h
  | (z, k) :: r, h, acc, ha => by
    unfold cellsFrom pushCells
    split
    · have := cellsFrom_isCell r (h.push { cls := .type "cell", data := .cell none }) ((z, h.objs.size) :: acc) (fun x c hx => by
        rw [List.lookup_cons] at hx
        cases ex : x == z with
        | true =>
          rw [ex] at hx
          cases hx
          exact ⟨none, _, Heap.get?_push_size _ rfl, rfl⟩
        | false =>
          rw [ex] at hx
          obtain ⟨v, q⟩ := ha x c hx
          exact ⟨v, q.keeps fun b o e => Heap.get?_push_of_some _ e⟩)
      rwa [Heap.size_push] at this
    · exact cellsFrom_isCell r h acc ha

/-- the block's env is made -/
theorem newEnvC {M : Model} {A : Around} {E : Value → Shared → Prop} {s : Shared} {scope : Scope} {globals : Addr} {cl : List (Str × Addr)} {qual : Str} {env : Env} {Q : Env → Shared → Prop}
    (hQ : Q (newEnv scope s.heap.objs.size globals (cellsFrom (s.heap.objs.size + 1) scope.names cl) qual none .none (some env) builtinsNs)
      { s with heap := pushCells (s.heap.push { cls := .type "dict", data := .dict #[] }) scope.names }) :
    wpAny M A (newFunctionEnv scope globals cl [] qual none .none (some env)) Q E s := by
  simp only [newFunctionEnv, Option.isSome_some, if_true]
  refine wpAny_bind (wpAny_alloc ?_)
  refine wpAny_bind (wpAny_layCells _ (fun name kind cells => by cases hkc : kind == NameKind.cell <;> simp [hkc]) _ _ _ _ ?_)
  rw [show ({ s with heap := s.heap.push { cls := .type "dict", data := .dict #[] } } : Shared).heap.objs.size = s.heap.objs.size + 1 from Heap.size_push ..]
  rw [List.forIn_nil]
  exact wpAny_bind (wpAny_pure (wpAny_pure hQ))

/-! ### the closure of a block -/
theorem closure_go {env : Env} : ∀ (l : List (Str × NameKind)) (acc : List (Str × Addr)), (∀ y ∈ l, y.2 = .free → ∃ c, env.cells.lookup y.1 = some c) →
    (∀ x c, acc.lookup x = some c → env.cells.lookup x = some c) →
    ∃ cl, (forIn l acc fun (x : Str × NameKind) r => if (x.2 == .free) = true then (do let a ← cellOf env x.1; pure (ForInStep.yield ((x.1, a) :: r))) else pure (ForInStep.yield r) : Sem (List (Str × Addr))) = pure cl ∧
      (∀ x c, cl.lookup x = some c → env.cells.lookup x = some c) ∧ (∀ x, ((∃ c, acc.lookup x = some c) ∨ (x, NameKind.free) ∈ l) → ∃ c, cl.lookup x = some c)
  | [], acc, _, ha => ⟨acc, by rw [List.forIn_nil], ha, fun x hx => hx.elim id fun z => nomatch z⟩
  | (z, k) :: r, acc, hl, ha => by
    by_cases hk : k = .free
    · subst hk
      obtain ⟨c, hc⟩ := hl (z, .free) List.mem_cons_self rfl
      obtain ⟨cl, h1, h2, h3⟩ := closure_go r ((z, c) :: acc) (fun y hy => hl y (List.mem_cons_of_mem _ hy)) (fun x c' hx => by
        rw [List.lookup_cons] at hx
        cases ex : x == z with
        | true => rw [ex] at hx; cases hx; rw [beq_iff_eq.mp ex]; exact hc
        | false => rw [ex] at hx; exact ha x c' hx)
      refine ⟨cl, ?_, h2, fun x hx => h3 x ?_⟩
      · rw [List.forIn_cons]
        have e : cellOf env z = pure c := by unfold cellOf; rw [show env.cells.lookup z = some c from hc]
        simp only [beq_self_eq_true, if_true, e]
        exact h1
      · rcases hx with ⟨c', hx⟩ | hx
        · refine .inl ?_
          rw [List.lookup_cons]
          cases ex : x == z with
          | true => exact ⟨c, rfl⟩
          | false => exact ⟨c', hx⟩
        · rcases List.mem_cons.mp hx with e | hx
          · refine .inl ⟨c, ?_⟩
            rw [(Prod.mk.inj e).1, List.lookup_cons, beq_self_eq_true]
          · exact .inr hx
    · obtain ⟨cl, h1, h2, h3⟩ := closure_go r acc (fun y hy => hl y (List.mem_cons_of_mem _ hy)) ha
      refine ⟨cl, ?_, h2, fun x hx => h3 x ?_⟩
      · rw [List.forIn_cons]
        have e : (k == NameKind.free) = false := by simpa using hk
        simp only [e, Bool.false_eq_true, if_false]
        exact h1
      · rcases hx with hx | hx
        · exact .inl hx
        · rcases List.mem_cons.mp hx with e | hx
          · exact absurd (Prod.mk.inj e).2.symm hk
          · exact .inr hx
theorem closure_ex {scope : Scope} {env : Env} (h : ∀ y ∈ scope.names, y.2 = .free → ∃ c, env.cells.lookup y.1 = some c) :
    ∃ cl, closureFor scope env = pure cl ∧ (∀ x c, cl.lookup x = some c → env.cells.lookup x = some c) ∧ (∀ x, (x, NameKind.free) ∈ scope.names → ∃ c, cl.lookup x = some c) := by
  obtain ⟨cl, h1, h2, h3⟩ := closure_go scope.names [] h (fun x c e => by simp at e)
  refine ⟨cl, ?_, h2, fun x hx => h3 x (.inr hx)⟩
  unfold closureFor
  simp only [bind_pure]
  exact h1

/-! ### the names of a block -/
/-- the block's names as the model relabels them, by scopes alone -/
def relabelS (scope sc : Scope) : Scope :=
  { scope with names := scope.names.map fun (n, k) => if (k == .free && sc.kind == .function && sc.names.lookup n == some .cell) then (n, .cell) else (n, k) }
theorem relabel_eq (scope : Scope) (env : Env) : relabel scope env = relabelS scope env.scope := rfl
theorem lookup_map_val {α β : Type} (g : Str → α → β) (x : Str) : ∀ l : List (Str × α), (l.map fun (n, k) => (n, g n k)).lookup x = (l.lookup x).map (g x)
  | [] => rfl
  | (n, k) :: r => by
    rw [List.map_cons, List.lookup_cons, List.lookup_cons]
    cases e : x == n with
    | true => rw [beq_iff_eq.mp e]; rfl
    | false => exact lookup_map_val g x r
theorem lookup_relabelS (scope sc : Scope) (x : Str) : (relabelS scope sc).names.lookup x = (scope.names.lookup x).map fun k => if (k == .free && sc.kind == .function && sc.names.lookup x == some .cell) then NameKind.cell else k := by
  have e : (relabelS scope sc).names = scope.names.map fun (n, k) => (n, if (k == .free && sc.kind == .function && sc.names.lookup n == some .cell) then NameKind.cell else k) := by
    unfold relabelS
    refine List.map_congr_left fun y _ => ?_
    obtain ⟨n, k⟩ := y
    show (if _ then _ else _) = (n, if _ then _ else _)
    split <;> rfl
  rw [e]
  exact lookup_map_val (fun n k => if (k == .free && sc.kind == .function && sc.names.lookup n == some .cell) then NameKind.cell else k) x scope.names

/-- all that must be so of a block's names: N0, sc0 the body's, N, scope the block's, cap: from which slot a name's value comes -/
def capOk (N0 : List Str) (sc0 scope : Scope) : List Str → List (Option Nat) → Bool
  | [], [] => true
  | x :: N, none :: c => capOk N0 sc0 scope N c
  | x :: N, some j :: c => (N0[j]? == some x) && (sc0.names.lookup x == some .cell || sc0.names.lookup x == some .free) && (scope.names.lookup x == some .free) && (scope.names.all fun y => y.1 != x || y.2 != .cell) && capOk N0 sc0 scope N c
  | _, _ => false
def compOk (N0 : List Str) (sc0 scope : Scope) (N : List Str) (cap : List (Option Nat)) : Bool :=
  (scope.kind == .function) && (scope.names.all fun y => y.2 != .local || scope.names.lookup y.1 == some .local) && (scope.names.all fun y => y.2 != .free || (sc0.names.lookup y.1 == some .cell || sc0.names.lookup y.1 == some .free)) &&
  (scope.names.all fun y => y.2 != .cell || scope.names.lookup y.1 == some .cell) && capOk N0 sc0 scope N cap
def capS (cap : List (Option Nat)) (σ : St) : St := cap.map fun o => match o with
  | none => none
  | some j => (σ[j]?).join
theorem capOk_len {N0 : List Str} {sc0 scope : Scope} : ∀ {N : List Str} {cap : List (Option Nat)}, capOk N0 sc0 scope N cap = true → cap.length = N.length
  | [], [], _ => rfl
  | x :: N, none :: c, h => by
    have := capOk_len (N := N) (cap := c) h
    simp [this]
  | x :: N, some j :: c, h => by
    simp only [capOk, Bool.and_eq_true] at h
    have := capOk_len (N := N) (cap := c) h.2
    simp [this]
  | [], _ :: _, h => by simp [capOk] at h
  | _ :: _, [], h => by simp [capOk] at h
theorem capOk_at {N0 : List Str} {sc0 scope : Scope} : ∀ {N : List Str} {cap : List (Option Nat)} {i j : Nat} {x : Str}, capOk N0 sc0 scope N cap = true → N[i]? = some x → cap[i]? = some (some j) →
    N0[j]? = some x ∧ (sc0.names.lookup x = some .cell ∨ sc0.names.lookup x = some .free) ∧ scope.names.lookup x = some .free ∧ ∀ y ∈ scope.names, y.1 = x → y.2 ≠ .cell
  | [], [], i, j, x, _, h, _ => by simp at h
  | y :: N, none :: c, 0, j, x, _, _, h => by simp at h
  | y :: N, none :: c, i + 1, j, x, h, h1, h2 => capOk_at (N := N) (cap := c) (i := i) h (by simpa using h1) (by simpa using h2)
  | y :: N, some j' :: c, 0, j, x, h, h1, h2 => by
    simp at h1 h2
    subst h1 h2
    simp only [capOk, Bool.and_eq_true, Bool.or_eq_true, beq_iff_eq, List.all_eq_true, bne_iff_ne] at h
    exact ⟨h.1.1.1.1, h.1.1.1.2, h.1.1.2, fun z hz e => (h.1.2 z hz).elim (fun q => absurd e q) id⟩
  | y :: N, some j' :: c, i + 1, j, x, h, h1, h2 => by
    simp only [capOk, Bool.and_eq_true] at h
    exact capOk_at (N := N) (cap := c) (i := i) h.2 (by simpa using h1) (by simpa using h2)
  | [], _ :: _, _, _, _, h, _, _ => by simp [capOk] at h
  | _ :: _, [], _, _, _, h, _, _ => by simp [capOk] at h

/-- the context of a comprehension's block: s the state when the iterator has come -/
def cxC (X : Cx) (scope : Scope) (cl : List (Str × Addr)) (N : List Str) (s : Shared) (H : Hp) (fp : List Addr) : Cx where
  prog := X.prog
  w := X.w
  K := X.K
  mg := X.mg
  base := X.base
  A := X.A
  N := N
  s₀ := s
  H₀ := H
  env := compEnvC scope (cellsFrom (s.heap.objs.size + 1 + 1) scope.names cl) (s.heap.objs.size + 1) X.env
  outer := X.stack
  stack := X.stack
  ex := fp
  fn := fun x => scope.names.lookup x == some .cell
  calm := X.calm
  pn := []
  xe := fun _ _ => False

theorem cxC_inv {X : Cx} {pins : List (Addr × Obj)} {σ : St} {H : Hp} {s : Shared} {scope sc0 : Scope} {cl : List (Str × Addr)} {N N0 : List Str} {cap : List (Option Nat)} {fp : List Addr}
    (I : Inv X pins σ H s) (hf : ∀ b ∈ fp, FpOk X pins H b) (ho : ∀ b ∈ fp, ∃ o, s.heap.get? b = some o ∧ ∀ v, o.data ≠ .cell v)
    (hs0 : X.env.scope = sc0) (hN : X.N = N0) (ok : compOk N0 sc0 scope N cap = true)
    (hcl : ∀ x c, cl.lookup x = some c → X.env.cells.lookup x = some c) (hfr : ∀ x, (x, NameKind.free) ∈ scope.names → ∃ c, cl.lookup x = some c) :
    Inv (cxC X scope cl N s H fp) [] (capS cap σ) (upd H s.heap.objs.size (.lst [])) { s with heap := pushCells ((s.heap.push { cls := .type "list", data := .seq ([] : List Value).toArray }).push { cls := .type "dict", data := .dict #[] }) scope.names } := by
  simp only [compOk, Bool.and_eq_true, beq_iff_eq] at ok
  obtain ⟨⟨⟨⟨hk, hloc⟩, hfree⟩, hcell⟩, hcap⟩ := ok
  -- the heap
  have e1 : (s.heap.push { cls := .type "list", data := .seq ([] : List Value).toArray }).objs.size = s.heap.objs.size + 1 := Heap.size_push ..
  have e2 : ((s.heap.push { cls := .type "list", data := .seq ([] : List Value).toArray }).push { cls := .type "dict", data := .dict #[] }).objs.size = s.heap.objs.size + 1 + 1 := by rw [Heap.size_push, e1]
  have k1 : ∀ b o, s.heap.get? b = some o → (pushCells ((s.heap.push { cls := .type "list", data := .seq ([] : List Value).toArray }).push { cls := .type "dict", data := .dict #[] }) scope.names).get? b = some o :=
    fun b o e => pushCells_keeps _ _ b o (Heap.get?_push_of_some _ (Heap.get?_push_of_some _ e))
  have kD : (pushCells ((s.heap.push { cls := .type "list", data := .seq ([] : List Value).toArray }).push { cls := .type "dict", data := .dict #[] }) scope.names).get? s.heap.objs.size = some { cls := .type "list", data := .seq ([] : List Value).toArray } :=
    pushCells_keeps _ _ _ _ (Heap.get?_push_of_some _ (Heap.get?_push_size _ rfl))
  have kC : (pushCells ((s.heap.push { cls := .type "list", data := .seq ([] : List Value).toArray }).push { cls := .type "dict", data := .dict #[] }) scope.names).Ns (s.heap.objs.size + 1) fun _ => none := by
    have q := (Heap.Ns.new (s.heap.push { cls := .type "list", data := .seq ([] : List Value).toArray }) (.type "dict")).keeps (pushCells_keeps scope.names _)
    rw [e1] at q
    exact q
  have hD : H s.heap.objs.size = none := I.hok.fresh (Nat.le_refl _)
  have clLt : ∀ x c, cl.lookup x = some c → c < s.heap.objs.size := fun x c e => by
    obtain ⟨v, q⟩ := I.cell x c (hcl x c e)
    exact q.lt
  have cells : ∀ x c, (cellsFrom (s.heap.objs.size + 1 + 1) scope.names cl).lookup x = some c → s.heap.objs.size + 1 + 1 ≤ c ∨ cl.lookup x = some c := fun x c e => cellsFrom_or x _ _ _ c e
  have fpLt : ∀ b ∈ fp, b < s.heap.objs.size := fun b hb => by
    obtain ⟨o, e, _⟩ := ho b hb
    exact Heap.lt_size e
  refine ⟨⟨I.ok.mod, hk, I.ok.glob, I.ok.blt, Nat.le_succ _, ?_, ?_, ?_, I.ok.hd, I.ok.frames, .inl rfl, ?_, I.bs, Nat.le_trans I.ok.bsz I.sz, ?_, ?_, I.stack, I.stkFree⟩,
    rfl, I.bare, ?_, ?_, ?_, ?_, ?_, fun p hp => absurd (show p ∈ ([] : List (Addr × Obj)) from hp) (by simp), ?_, ?_⟩
  · -- inj
    refine cellsFrom_inj scope.names _ cl (fun x y c h1 h2 => I.ok.inj x y c (hcl x c h1) (hcl y c h2)) fun x c h => ?_
    exact Nat.lt_succ_of_lt (Nat.lt_succ_of_lt (clLt x c h))
  · -- has
    intro x hx
    have hx : (relabel scope X.env).names.lookup x = some .cell ∨ (relabel scope X.env).names.lookup x = some .free := hx
    rw [relabel_eq, lookup_relabelS] at hx
    have : scope.names.lookup x = some .cell ∨ scope.names.lookup x = some .free := by
      cases e : scope.names.lookup x with
      | none => rw [e] at hx; simp at hx
      | some k =>
        rw [e] at hx
        cases k <;> simp at hx <;> simp
    refine Option.isSome_iff_exists.mp (PySem.W.cellsFrom_some scope.names _ cl ?_)
    rcases this with h | h
    · exact .inl h
    · exact .inr (Option.isSome_iff_exists.mpr (hfr x (PySem.mem_of_lookup h)))
  · -- cab
    intro x c hx hc
    have hx : scope.names.lookup x = some .cell := by simpa [cxC] using hx
    have := cellsFrom_low x (s.heap.objs.size + 1 + 1) scope.names (s.heap.objs.size + 1 + 1) cl (Nat.le_refl _) (.inl (PySem.mem_of_lookup hx)) c hc
    exact Nat.le_trans (Nat.le_succ _) (Nat.le_trans (Nat.le_succ _) this)
  · -- exf
    intro b hb
    have hlt := fpLt b hb
    refine ⟨Nat.ne_of_lt (Nat.lt_succ_of_lt hlt), fun x c e => ?_⟩
    rcases cells x c e with q | q
    · exact Nat.ne_of_gt (Nat.lt_of_lt_of_le (Nat.lt_succ_of_lt (Nat.lt_succ_of_lt hlt)) q)
    · exact (hf b hb).2.2.2.2.1 x c (hcl x c q)
  · -- noex
    intro b o e hb
    rcases (hf b hb).2.2.2.1 with q | q
    · exact I.ok.noex b o e q
    · exact absurd (Nat.lt_of_lt_of_le (Heap.lt_size (I.ok.bs b o e).1) q) (Nat.lt_irrefl _)
  · -- exfs
    intro b hb z
    rcases List.mem_cons.mp (I.stkSub b z) with q | q
    · exact (hf b hb).2.1 q
    · exact (hf b hb).2.2.1 q
  · -- base
    exact Un.laid k1 (Nat.le_refl _) hD
  · -- loc
    refine ⟨_, kC, fun i x v h1 h2 h3 => ?_⟩
    have h2 : (capS cap σ)[i]? = some (some v) := h2
    unfold capS at h2
    rw [List.getElem?_map] at h2
    cases e : cap[i]? with
    | none => rw [e] at h2; cases h2
    | some o =>
      rw [e] at h2
      cases o with
      | none => cases h2
      | some j =>
        have h2 : some ((σ[j]?).join) = some (some v) := h2
        have h2 : (σ[j]?).join = some v := Option.some.inj h2
        obtain ⟨q1, q2, q3, q4⟩ := capOk_at hcap h1 e
        have q5 : σ[j]? = some (some v) := by
          cases es : σ[j]? with
          | none => rw [es] at h2; cases h2
          | some w' => rw [es] at h2; cases w' with
            | none => cases h2
            | some w'' => have : some w'' = some v := h2; rw [this]
        obtain ⟨m, hn, hl⟩ := I.loc
        have hk0 : X.env.kindOf x = some .cell ∨ X.env.kindOf x = some .free := by
          show X.env.scope.names.lookup x = _ ∨ X.env.scope.names.lookup x = _
          rw [hs0]; exact q2
        obtain ⟨u, r, l⟩ := hl j x v (by rw [hN]; exact q1) q5 (hk0.elim (fun z => .inr (.inl z)) fun z => .inr (.inr z))
        refine ⟨u, r, ?_⟩
        rcases l with ⟨z, _⟩ | ⟨_, c, e1, z⟩
        · rcases hk0 with y | y <;> (rw [y] at z; cases z)
        · obtain ⟨c', hc'⟩ := hfr x (PySem.mem_of_lookup q3)
          have ec : c' = c := by
            have := hcl x c' hc'
            rw [e1] at this
            exact (Option.some.inj this).symm
          subst ec
          refine .inr ⟨?_, c', ?_, z.keeps k1⟩
          · show (relabel scope X.env).names.lookup x = _ ∨ (relabel scope X.env).names.lookup x = _
            rw [relabel_eq, lookup_relabelS, q3]
            by_cases hz : (NameKind.free == NameKind.free && X.env.scope.kind == ScopeKind.function && X.env.scope.names.lookup x == some NameKind.cell) = true
            · left; show some (if _ then _ else _) = _; rw [if_pos hz]
            · right; show some (if _ then _ else _) = _; rw [if_neg hz]
          · show (cellsFrom (s.heap.objs.size + 1 + 1) scope.names cl).lookup x = some c'
            rw [cellsFrom_out _ _ _ q4]
            exact hc'
  · -- cell
    intro x c e
    have e : (cellsFrom (s.heap.objs.size + 1 + 1) scope.names cl).lookup x = some c := e
    rw [← e2] at e
    exact cellsFrom_isCell scope.names _ cl (fun y d hy => by
      obtain ⟨v, q⟩ := I.cell y d (hcl y d hy)
      exact ⟨v, q.keeps fun b o z => Heap.get?_push_of_some _ (Heap.get?_push_of_some _ z)⟩) x c e
  · -- free
    show upd H s.heap.objs.size (.lst []) (s.heap.objs.size + 1) = none
    rw [upd_ne (Nat.ne_of_gt (Nat.lt_succ_self _))]
    exact I.hok.fresh (Nat.le_succ _)
  · -- freeC
    intro x c e
    rcases cells x c e with q | q
    · have q2 : s.heap.objs.size < c := Nat.lt_of_lt_of_le (Nat.lt_succ_of_lt (Nat.lt_succ_self _)) q
      rw [upd_ne (Nat.ne_of_gt q2)]
      exact I.hok.fresh (Nat.le_of_lt q2)
    · have := clLt x c q
      rw [upd_ne (Nat.ne_of_lt this)]
      exact I.freeC x c (hcl x c q)
  · -- hok
    refine I.hok.laid k1 (Nat.le_refl _) ⟨Nat.zero_le _, [], 0, .nil, kD⟩
  · show (capS cap σ).length = N.length
    unfold capS
    rw [List.length_map, capOk_len hcap]
end L2
end

section
set_option Elab.async false
set_option linter.all false
set_option maxRecDepth 100000
set_option maxHeartbeats 4000000
namespace L2
open PySem PySem.Spec PyProof.Rows

/-- the tests of a comprehension -/
def PIfs (X : Cx) (ifs : List Expr) (t : TT) : Prop := ∀ (pins : List (Addr × Obj)) (s : Shared) (σ : St) (H : Hp) (Q : Bool → Hp → Prop), Inv X pins σ H s → t σ H Q →
  wpAny (model X.prog X.w) X.A (forIn ifs true fun c r => if r = true then do let ok ← isTrue c X.env (eval c X.env); pure (ForInStep.yield ok) else pure (ForInStep.yield r)) (TP X pins σ Q) X.xe s
def tAll : TT := fun _ H Q => Q true H
theorem pifs_nil {X : Cx} : PIfs X [] tAll := fun _ _ _ H _ I h => wpAny_tests_nil ⟨H, I, h⟩
theorem pifs_one {X : Cx} {c : Expr} {t : TT} (h : PT X c t) : PIfs X [c] t := fun pins s σ H Q I q => wpAny_tests_one (h pins s σ H Q I q)

/-- what the turns of a block ask -/
def CompW (J : It) (g : TG) (tt : TT) (te : TE) (D : Addr) (σ : St) (H : Hp) (Qe : Hp → Prop) : Prop :=
  ∃ W : Nat → Nat → St → Hp → Prop, (∃ m, W 0 m σ H) ∧ ∀ i m σ H, W i m σ H →
    (J.stop i H ∧ Qe H) ∨ (J.go i H ∧ ∃ N : St → Hp → Prop, (∀ σ' H', N σ' H' → ∃ m', m' < m ∧ W (i + 1) m' σ' H') ∧
      ∀ x H', J.yld i H x H' → g x σ H' fun σ2 H2 => tt σ2 H2 fun b H3 => if b = true then te σ2 H3 fun y H4 => ∃ xs, H4 D = some (.lst xs) ∧ xs.length < sizeLine ∧ N σ2 (upd H4 D (.lst (xs ++ [y]))) else N σ2 H3)

theorem comp_turns {X : Cx} {tg iter elt : Expr} {ifs : List Expr} {scope : Scope} {pos : Pos} {it D : Addr} {fp : List Addr} {tn : Nat → Heap → Prop} {J : It} {g : TG} {tt : TT} {te : TE} {R : Result → Shared → Prop} {s : Shared} {σ : St} {H : Hp} {Qe : Hp → Prop}
    (hc : X.calm = true) (hxe : ∀ e s, X.xe e s → False) (hg : PG X tg g) (ht : PIfs X ifs tt) (he : PE X elt te) (T : Turn X.prog X.w X.K tg J fp it tn)
    (fpk : ∀ H', (∀ b ∈ fp, H' b = none) → ∀ b ∈ fp, FpOk X [] H' b) (I : Inv X [] σ H s) (st : tn 0 s.heap) (fr : ∀ b ∈ fp, H b = none)
    (h : CompW J g tt te D σ H Qe) (hR : ∀ σ' H' s', Inv X [] σ' H' s' → Qe H' → R (.ok .next) s') :
    codeAny (model X.prog X.w) X.A (.compLoop (.ListComp elt [⟨tg, iter, ifs, 0⟩] scope pos) 0 (.ref it) (.ref D) X.env) R s := by
  obtain ⟨W, ⟨m0, w0⟩, turn⟩ := h
  refine codeAny_loop rfl (fun n s' => ∃ i σ' H', Inv X [] σ' H' s' ∧ tn i s'.heap ∧ (∀ b ∈ fp, H' b = none) ∧ W i n σ' H') (fun n s3 hI => ?_) m0 ⟨0, σ, H, I, st, fr, w0⟩
  obtain ⟨i, σ3, H3, I3, st3, fr3, w3⟩ := hI
  show wpAny _ X.A ((compTurn (.ListComp elt [⟨tg, iter, ifs, 0⟩] scope pos) 0 (.ref it) (.ref D) X.env).onRaise (fun x => do noteFrame x X.env; theTreesLotGoes x)) _ _ s3
  refine wpAny_noted ?_
  rw [compTurn_list]
  refine wpAny_bind (wpAny_standAt (wpAny_bind ?_))
  rcases turn i n σ3 H3 w3 with ⟨stop, qn⟩ | ⟨go, N, hN, step⟩
  · refine wpAny_mono (T.done X rfl rfl rfl hc i [] s3 σ3 H3 (fun _ _ => False) I3 (fpk H3 fr3) st3 stop) (fun r s4 hr => ?_) (fun _ _ f => f.elim)
    obtain ⟨hr, I4⟩ := hr
    subst hr
    exact wpAny_pure (hR σ3 H3 s4 I4 qn)
  · refine wpAny_mono (T.item X rfl rfl rfl hc i [] s3 σ3 H3 (fun _ _ => False) I3 (fpk H3 fr3) st3 go) (fun r s4 hr => ?_) (fun _ _ f => f.elim)
    obtain ⟨u, hr, h4⟩ := hr
    subst hr
    refine wpAny_bind (wpAny_mono h4 (fun _ s5 h5 => ?_) fun _ _ f => f.elim)
    obtain ⟨x, H5, I5, r5, y5, st5, fr5⟩ := h5
    have I5' := I5.pinned (fpk H5 fr5) (T.obj _ _ st5)
    refine wpAny_bind (wpAny_mono (hg _ s5 σ3 H5 x u _ I5' r5 (step x H5 y5)) (fun _ s6 h6 => ?_) fun e s f => (hxe e s f).elim)
    obtain ⟨σ6, H6, I6, q6⟩ := h6
    refine wpAny_bind (wpAny_mono (ht _ s6 σ6 H6 _ I6 q6) (fun ok s7 h7 => ?_) fun e s f => (hxe e s f).elim)
    obtain ⟨H7, I7, q7⟩ := h7
    have again : ∀ {s7 : Shared} {σ7 : St} {H7 : Hp}, Inv X ([] ++ pinsAt fp s5.heap) σ7 H7 s7 → N σ7 H7 → ∃ m, m < n ∧ ∃ i σ' H', Inv X [] σ' H' s7 ∧ tn i s7.heap ∧ (∀ b ∈ fp, H' b = none) ∧ W i m σ' H' := fun {s7 σ7 H7} I7 n7 => by
      obtain ⟨m', hm, w7⟩ := hN σ7 H7 n7
      refine ⟨m', hm, i + 1, σ7, H7, I7.unpinned, T.keep _ _ _ st5 fun b hb o e => (I7.pin (b, o) (List.mem_append_right _ (List.mem_append_right _ (mem_pinsAt hb e)))).1, fun b hb => ?_, w7⟩
      obtain ⟨o, e, d⟩ := T.obj _ _ st5 b hb
      exact (I7.pin (b, o) (List.mem_append_right _ (List.mem_append_right _ (mem_pinsAt hb e)))).2.1
    cases ok with
    | false => exact wpAny_pure ⟨rfl, again I7 q7⟩
    | true =>
      refine wpAny_bind (wpAny_bind (wpAny_mono (he _ s7 σ6 H7 _ I7 q7) (fun y s8 h8 => wpAny_bind ?_) fun e s f => (hxe e s f).elim))
      obtain ⟨v8, H8, I8, r8, xs, hD, hz, n8⟩ := h8
      refine wpAny_mono (mt_append (X := X) _ s8 σ6 H8 (.ref D) [v8] (.ref D) [y] (fun _ H9 => N σ6 H9) I8 rfl (.cons r8 .nil) ⟨D, xs, v8, rfl, rfl, hD, hz, n8⟩) (fun _ s9 h9 => ?_) fun e s f => (hxe e s f).elim
      obtain ⟨_, H9, I9, _, n9⟩ := h9
      exact wpAny_pure (wpAny_pure ⟨rfl, again I9 n9⟩)

theorem cxC_back {X : Cx} {pins pins' : List (Addr × Obj)} {σ σ' : St} {H H' : Hp} {s s' : Shared} {scope : Scope} {cl : List (Str × Addr)} {N : List Str} {fp : List Addr} (I : Inv X pins σ H s) (hf : ∀ b ∈ fp, FpOk X pins H b)
    (J : Inv (cxC X scope cl N s H fp) pins' σ' H' s') : Inv X pins σ H' s' :=
  I.call' (ch := fp) J.os J.base J.hok J.bare fun b hb => ⟨(hf b hb).2.2.2.1, (hf b hb).2.1, (hf b hb).2.2.2.2.1, (hf b hb).2.2.2.2.2⟩

/-- the reading of a comprehension -/
def tComp (cap : List (Option Nat)) (wi : TI) (g : TG) (tt : TT) (te : TE) : TE := fun σ H Q => wi σ H fun J H1 => ∀ D, H1 D = none → CompW J g tt te D (capS cap σ) (upd H1 D (.lst [])) fun H2 => Q (.ref D) H2

theorem comp_core {X : Cx} {sc0 scope : Scope} {N0 N : List Str} {cap : List (Option Nat)} {tg iter elt : Expr} {ifs : List Expr} {pos pos' : Pos} {wi : TI} {g : TG} {tt : TT} {te : TE} {use : Option (Value → Sem Unit)} {Qv : Value → Shared → Prop}
    {pins : List (Addr × Obj)} {s : Shared} {σ : St} {H : Hp} {Q : VK}
    (hc : X.calm = true) (hs0 : X.env.scope = sc0) (hN : X.N = N0) (ok : compOk N0 sc0 scope N cap = true) (hi : PI X tg iter wi)
    (hg : ∀ cl s H fp, PG (cxC X scope cl N s H fp) tg g) (ht : ∀ cl s H fp, PIfs (cxC X scope cl N s H fp) ifs tt) (he : ∀ cl s H fp, PE (cxC X scope cl N s H fp) elt te) (hfs : ∀ x, foldedSetIterable iter X.env x = pure x)
    (I : Inv X pins σ H s) (h : tComp cap wi g tt te σ H Q)
    (hend : ∀ (D C : Addr) (m : Str → Option Value) (H' : Hp) (s' : Shared), Inv X pins σ H' s' → s'.heap.Ns C m → H' C = none → C ≠ X.env.locals → X.s₀.heap.objs.size ≤ C → (∀ x c, X.env.cells.lookup x = some c → c ≠ C) → (∀ p ∈ X.pn ++ pins, p.1 ≠ C) → Q (.ref D) H' →
      compPost (model X.prog X.w) X.A X.xe use Qv (.ref D) C (.ok .next) s') :
    wpAny (model X.prog X.w) X.A (comprehension (.ListComp elt [⟨tg, iter, ifs, 0⟩] scope pos) scope X.env pos' (newList []) false (eval iter X.env) use) Qv X.xe s := by
  have ok' := ok
  simp only [compOk, Bool.and_eq_true, beq_iff_eq, List.all_eq_true, Bool.or_eq_true, bne_iff_ne] at ok'
  obtain ⟨⟨⟨⟨hk, hloc⟩, hfree⟩, hcell⟩, hcap⟩ := ok'
  obtain ⟨cl, hcl1, hcl2, hcl3⟩ := closure_ex (scope := scope) (env := X.env) (fun y hy e => I.ok.has y.1 (by
    show X.env.scope.names.lookup y.1 = _ ∨ X.env.scope.names.lookup y.1 = _
    rw [hs0]
    rcases hfree y hy with z | z
    · exact absurd e z
    · exact z))
  refine wpAny_comprehension_free rfl hfs hcl1 hk (fun y hy e => by
    rcases hloc y hy with z | z
    · exact absurd e z
    · exact z) (wpAny_mono (hi pins s σ H _ I h) (fun v s1 h1 => wpAny_mono h1 (fun itv s2 h2 => ?_) fun _ _ e => e) fun _ _ e => e)
  obtain ⟨it, fp, tn, J, H2, e, I2, T, st2, f2, q2⟩ := h2
  subst e
  refine wpAny_newObj_type (newEnvC ?_)
  have I3 := cxC_inv I2 f2 (T.obj _ _ st2) hs0 hN ok hcl2 hcl3
  have eC : (s2.heap.push { cls := .type "list", data := .seq ([] : List Value).toArray }).objs.size = s2.heap.objs.size + 1 := Heap.size_push ..
  show codeAny _ _ (.compStart (.ListComp elt [⟨tg, iter, ifs, 0⟩] scope pos) 0 (.ref it) (.ref s2.heap.objs.size)
    (compEnvC scope (cellsFrom ((s2.heap.push { cls := .type "list", data := .seq ([] : List Value).toArray }).objs.size + 1) scope.names cl) ((s2.heap.push { cls := .type "list", data := .seq ([] : List Value).toArray }).objs.size) X.env))
    (compPost _ _ _ use Qv (.ref s2.heap.objs.size) ((s2.heap.push { cls := .type "list", data := .seq ([] : List Value).toArray }).objs.size)) _
  rw [eC]
  have fpk : ∀ H', (∀ b ∈ fp, H' b = none) → ∀ b ∈ fp, FpOk (cxC X scope cl N s2 H2 fp) [] H' b := fun H' hn b hb =>
    ⟨hn b hb, (I3.ok.exf b hb).1, I3.ok.exfs b hb, .inl hb, (I3.ok.exf b hb).2, fun p hp => absurd (show p ∈ ([] : List (Addr × Obj)) from hp) (by simp)⟩
  have fpLt : ∀ b ∈ fp, b < s2.heap.objs.size := fun b hb => by
    obtain ⟨o, e, _⟩ := T.obj _ _ st2 b hb
    exact Heap.lt_size e
  have k1 : ∀ b o, s2.heap.get? b = some o → (pushCells ((s2.heap.push { cls := .type "list", data := .seq ([] : List Value).toArray }).push { cls := .type "dict", data := .dict #[] }) scope.names).get? b = some o :=
    fun b o e => pushCells_keeps _ _ b o (Heap.get?_push_of_some _ (Heap.get?_push_of_some _ e))
  have st3 := T.keep 0 s2.heap (pushCells ((s2.heap.push { cls := .type "list", data := .seq ([] : List Value).toArray }).push { cls := .type "dict", data := .dict #[] }) scope.names) st2 fun b _ o e => k1 b o e
  have loop := comp_turns (X := cxC X scope cl N s2 H2 fp) (iter := iter) (scope := scope) (pos := pos) (it := it) (D := s2.heap.objs.size) (R := compPost (model X.prog X.w) X.A X.xe use Qv (.ref s2.heap.objs.size) (s2.heap.objs.size + 1)) hc (fun _ _ f => f) (hg cl s2 H2 fp) (ht cl s2 H2 fp) (he cl s2 H2 fp) T fpk I3 st3
    (fun b hb => by rw [upd_ne (Nat.ne_of_lt (fpLt b hb))]; exact (f2 b hb).1) (q2 _ (I2.hok.fresh (Nat.le_refl _))) (fun σ' H' s' J' q => by
      obtain ⟨m, hm, _⟩ := id J'.loc
      refine hend _ _ m H' s' (cxC_back I2 f2 J') hm J'.free ?_ ?_ ?_ ?_ q
      · exact Nat.ne_of_gt (Nat.lt_succ_of_lt I2.lt)
      · exact Nat.le_succ_of_le I2.sz
      · intro x c e
        obtain ⟨v, q⟩ := I2.cell x c e
        exact Nat.ne_of_lt (Nat.lt_succ_of_lt q.lt)
      · intro p hp
        exact Nat.ne_of_lt (Nat.lt_succ_of_lt (Heap.lt_size (I2.pin p hp).1)))
  exact codeAny_compStart_list loop (T.self X.A 0 _ _ _ st3 loop)

theorem pe_comp {X : Cx} {sc0 scope : Scope} {N0 N : List Str} {cap : List (Option Nat)} {tg iter elt : Expr} {ifs : List Expr} {pos : Pos} {wi : TI} {g : TG} {tt : TT} {te : TE}
    (hc : X.calm = true) (hs0 : X.env.scope = sc0) (hN : X.N = N0) (ok : compOk N0 sc0 scope N cap = true) (hi : PI X tg iter wi)
    (hg : ∀ cl s H fp, PG (cxC X scope cl N s H fp) tg g) (ht : ∀ cl s H fp, PIfs (cxC X scope cl N s H fp) ifs tt) (he : ∀ cl s H fp, PE (cxC X scope cl N s H fp) elt te) (hfs : ∀ x, foldedSetIterable iter X.env x = pure x := by intro _; rfl) :
    PE X (.ListComp elt [⟨tg, iter, ifs, 0⟩] scope pos) (tComp cap wi g tt te) := by
  intro pins s σ H Q I h
  rw [eval_ListComp]
  refine comp_core hc hs0 hN ok hi hg ht he hfs I h fun D C m H' s' J hm hC1 hC2 hC3 hC4 hC5 q => ⟨m, hm, fun h' hs => ?_⟩
  exact ⟨.ref D, H', J.turned (t' := s'.toks) (fun b o hb e => (hs.2 b hb).trans e) hC1 hC2 (.inr hC3) hC4 hC5, rfl, q⟩

theorem ps_setC {X : Cx} {sc0 scope : Scope} {N0 N : List Str} {cap : List (Option Nat)} {tg iter elt : Expr} {ifs : List Expr} {pos spos pos' : Pos} {wi : TI} {g : TG} {tt : TT} {te : TE} {i : Nat} {x : Str}
    (hNd : X.N.Nodup) (hix : X.N[i]? = some x) (hx : X.env.scope.names.lookup x = some .local)
    (hc : X.calm = true) (hs0 : X.env.scope = sc0) (hN : X.N = N0) (ok : compOk N0 sc0 scope N cap = true) (hi : PI X tg iter wi)
    (hg : ∀ cl s H fp, PG (cxC X scope cl N s H fp) tg g) (ht : ∀ cl s H fp, PIfs (cxC X scope cl N s H fp) ifs tt) (he : ∀ cl s H fp, PE (cxC X scope cl N s H fp) elt te) (hfs : ∀ x, foldedSetIterable iter X.env x = pure x := by intro _; rfl)
    (hsw : swapsWith (.ListComp elt [⟨tg, iter, ifs, 0⟩] scope pos) (some (.Name x pos')) spos.line X.env = pure true := by rfl) :
    PS X (.Assign [.Name x pos'] (.ListComp elt [⟨tg, iter, ifs, 0⟩] scope pos) spos) (tAsg (tComp cap wi g tt te) (gName i)) := by
  intro pins s σ H D I h
  rw [exec_Assign_Name_used _ _ _ _ hsw]
  refine wpAny_bind (wpAny_standAt (wpAny_bind ?_))
  show wpAny _ X.A (do let _ ← comprehension (.ListComp elt [⟨tg, iter, ifs, 0⟩] scope pos) scope X.env _ (newList []) false (eval iter X.env) (some (assign (.Name x pos') X.env))) _ _ s
  refine wpAny_bind (wpAny_mono (comp_core (use := some (assign (.Name x pos') X.env)) (Qv := fun _ s' => SP X pins D .next s') hc hs0 hN ok hi hg ht he hfs I h fun A C m H' s' J hm hC1 hC2 hC3 hC4 hC5 q => ?_) (fun _ s' hq => wpAny_pure (wpAny_pure hq)) fun _ _ e => e)
  show wpAny _ X.A (assign (.Name x pos') X.env (.ref A)) _ _ s'
  refine wpAny_assign_Name (store_ok2 (v := .ref A) J hNd hix (.inl hx) rfl (fun s2 J2 hs2 => ?_) (.inr hx))
  obtain ⟨a, hs2, ha⟩ := hs2
  have hCa : C ≠ a := by
    rcases ha with z | z
    · rw [z]; exact hC2
    · exact fun e => hC4 _ _ z e.symm
  refine ⟨m, hm.sameBut hs2 hCa, fun h' hs => ?_⟩
  exact ⟨_, H', J2.turned (t' := s2.toks) (fun b o hb e => (hs.2 b hb).trans e) hC1 hC2 (.inr hC3) hC4 hC5, q⟩
end L2
end

section
set_option Elab.async false
set_option linter.all false
set_option maxRecDepth 100000
set_option maxHeartbeats 4000000
namespace L2
open PySem PySem.Spec PyProof.Rows

/-! ### a def that may have defaults; a def that may be called -/
structure FunD (K : PySem.W.Frag) (x qual : Str) (st : Stmt) (dV : Value) (f : Addr) (fd : FuncData) : Prop where
  ex : ∃ (oc : Value) (od : Option Addr) (kV doc pm : Value) (an : Option Addr) (cdv ct : Value) (osl : Array (Option Value)),
    fd = PySem.W.fnOf x qual (defArgs st) (defBody st) (defScope st) dV kV doc pm an cdv ct ∧ K.lookup f = some ⟨oc, od, .func fd, osl⟩ ∧ PySem.W.codeIn K cdv qual = true
  kp : PySem.W.keepIn K (.ref f) = true
section
variable {P : Program} {w : World} {K : PySem.W.Frag} {mg : Str → Option Value} {base : Heap} {CX : CXT}
/-- a def from which no exception leaves -/
theorem FunD.ok {x qual : Str} {st : Stmt} {dV : Value} {f : Addr} {fd : FuncData} {N ps : List Str} {k : Nat} {sp : Sp} (F : FunD K x qual st dV f fd) (S : FnScope N ps (defScope st)) (len : ∀ vs H Q E, sp vs H Q E → vs.length = ps.length)
    (hbody : ∀ (cdv : Value) (A : Around) (outer : List Env) (s : Shared) (H : Hp) (vs : List V) (Q : VK) (E : XK), Room k (A.deeper (envOfC qual (defScope st) s.heap.objs.size f cdv)) → sp vs H Q E →
      ∃ t, PSs (cxOf CX P w K mg base N qual (defScope st) f cdv A outer s H E).nox (defBody st) t ∧ t { nx := fun _ H' => Q .non H', rt := Q } (start N vs) H) : FnOk P w K mg base CX (k + 1) f fd ps sp := by
  obtain ⟨oc, od, kV, doc, pm, an, cdv, ct, osl, rfl, lk, hcd⟩ := F.ex
  refine fn_of lk hcd S len fun A outer s H vs Q E hr hsp => ?_
  obtain ⟨t, h, q⟩ := hbody cdv A outer s H vs Q E hr hsp
  exact ⟨t, h.nox, q⟩
end
/-- a name of the text by which a def is called: ps its parameters, dvs the defaults that fill up -/
structure Cal (P : Program) (w : World) (K : PySem.W.Frag) (mg : Str → Option Value) (base : Heap) (CX : CXT) (k : Nat) (x : Str) (ps : List Str) (dvs : List V) (sp : Sp) : Prop where
  ex : ∃ (f : Addr) (fd : FuncData) (ds : List Value), FnOk P w K mg base CX k f fd ps sp ∧ mg x = some (.ref f) ∧ PySem.W.keepIn K (.ref f) = true ∧ Binds K fd ps ds ∧ Vals dvs ds
/-- what the text says of a def (before any promise): Tx -/
structure Tx (K : PySem.W.Frag) (mg : Str → Option Value) (x : Str) (st : Stmt) (ps : List Str) (dvss : List (List V)) : Prop where
  ex : ∃ (dV : Value) (f : Addr) (fd : FuncData), FunD K x x st dV f fd ∧ mg x = some (.ref f) ∧ ∀ dvs ∈ dvss, ∃ ds, Binds K fd ps ds ∧ Vals dvs ds
theorem Cal.mono {P : Program} {w : World} {K : PySem.W.Frag} {mg : Str → Option Value} {base : Heap} {CX : CXT} {j k : Nat} {x : Str} {ps : List Str} {dvs : List V} {sp : Sp} (c : Cal P w K mg base CX j x ps dvs sp) (h : j ≤ k) : Cal P w K mg base CX k x ps dvs sp :=
  let ⟨f, fd, ds, h1, h2⟩ := c.ex
  ⟨f, fd, ds, h1.mono h, h2⟩
/-- the promise of a def of the text -/
theorem Tx.cal {P : Program} {w : World} {K : PySem.W.Frag} {mg : Str → Option Value} {base : Heap} {CX : CXT} {x : Str} {st : Stmt} {N ps : List Str} {dvss : List (List V)} {k : Nat} {sp : Sp} (T : Tx K mg x st ps dvss) (S : FnScope N ps (defScope st))
    (len : ∀ vs H Q E, sp vs H Q E → vs.length = ps.length)
    (hbody : ∀ (f : Addr) (cdv : Value) (A : Around) (outer : List Env) (s : Shared) (H : Hp) (vs : List V) (Q : VK) (E : XK), Room k (A.deeper (envOfC x (defScope st) s.heap.objs.size f cdv)) → sp vs H Q E →
      ∃ t, PSs (cxOf CX P w K mg base N x (defScope st) f cdv A outer s H E).nox (defBody st) t ∧ t { nx := fun _ H' => Q .non H', rt := Q } (start N vs) H) :
    ∀ dvs ∈ dvss, Cal P w K mg base CX (k + 1) x ps dvs sp := by
  obtain ⟨dV, f, fd, F, m, b⟩ := T.ex
  intro dvs hd
  obtain ⟨ds, b1, b2⟩ := b dvs hd
  exact ⟨f, fd, ds, F.ok S len (fun cdv A outer s H vs Q E hr h => hbody f cdv A outer s H vs Q E hr h), m, F.kp, b1, b2⟩
section
variable {X : Cx} {CX : CXT} {k : Nat} {ps : List Str} {sp : Sp} {dvs : List V} {E : XK} {x : Str} {p pos : Pos} {e : Expr} {es : List Expr} {t : TA}
/-- f(e, ..) -/
theorem pe_cal (c : Cal X.prog X.w X.K X.mg X.base CX k x ps dvs sp) (hr : Room k X.A) (hg : Gl X x) (hx : Passes CX X E) (ha : PA X (e :: es) t) (hdb : (x == ("__debug__" : Str)) = false := by decide)
    (he : starEach (e :: es) X.env = (false, eval e X.env) :: starEach es X.env := by rfl) (hpl : (backTo pos (starEach es X.env)).any (·.1) = false := by rfl) :
    PE X (.Call (.Name x p) (e :: es) [] pos) (tCall sp dvs E t) := by
  obtain ⟨f, fd, ds, h1, h2, h3, h4, h5⟩ := c.ex
  exact pe_call h1 hr hg h2 h3 h4 h5 hx ha hdb he hpl
theorem pe_cal0 (c : Cal X.prog X.w X.K X.mg X.base CX k x ps dvs sp) (hr : Room k X.A) (hg : Gl X x) (hx : Passes CX X E) (hdb : (x == ("__debug__" : Str)) = false := by decide) :
    PE X (.Call (.Name x p) [] [] pos) (tCall sp dvs E tNil) := by
  obtain ⟨f, fd, ds, h1, h2, h3, h4, h5⟩ := c.ex
  exact pe_call0 h1 hr hg h2 h3 h4 h5 hx hdb
end

/-! ### isinstance -/
section
variable {X : Cx}
def clsV : V → Option Value
  | .ty n => some (.type n)
  | .ref a => some (.ref a)
  | _ => none
theorem clsV_rel {c : V} {cv u : Value} (h : clsV c = some cv) (r : RelV c u) : u = cv := by
  cases c <;> simp [clsV] at h
  · subst h; exact r
  · subst h; exact r
def rIsi (K : PySem.W.Frag) : List V → Hp → VK → Prop := fun xs H Q => ∃ x c t cv b, xs = [x, c] ∧ clsV c = some cv ∧ TyOf K H x t ∧ PySem.W.kitOne K t cv = some b ∧ Q (.bl b) H
def rLen (K : PySem.W.Frag) : List V → Hp → VK → Prop := fun xs H Q => ∃ p ys, xs = [.ref p] ∧ (SqL K H p ys ∨ SqT K H p ys) ∧ Q (.int ys.length) H
def rLst (K : PySem.W.Frag) : List V → Hp → VK → Prop := fun xs H Q => ∃ p ys, xs = [.ref p] ∧ (SqL K H p ys ∨ SqT K H p ys) ∧ ∀ l, H l = none → Q (.ref l) (upd H l (.lst ys))
def rTpl (K : PySem.W.Frag) : List V → Hp → VK → Prop := fun xs H Q => ∃ p ys, xs = [.ref p] ∧ ((SqL K H p ys ∧ ∀ l, H l = none → Q (.ref l) (upd H l (.tup ys))) ∨ (SqT K H p ys ∧ Q (.ref p) H))
theorem call_lenS : CallR X (.builtin "len") (rLen X.K) := call_len_seq
theorem call_listS : CallR X (.type "list") (rLst X.K) := call_list_of
theorem call_tupS : CallR X (.type "tuple") (rTpl X.K) := call_tuple_of
theorem call_isiS : CallR X (.builtin "isinstance") (rIsi X.K) := by
  intro pins s σ H xs us Q I r h
  obtain ⟨x, c, t, cv, b, rfl, hc, ty, e, q⟩ := h
  obtain ⟨u, w', rfl, r1, r2⟩ := vals2 r
  rw [clsV_rel hc r2]
  exact isinst_ok I r1 ty e fun tk => ⟨.bl b, H, I.tok tk, rfl, q⟩
end

/-! ### xs[::-1] -/
section
variable {X : Cx}
theorem slicePick_rev (its : List Value) : slicePick its.toArray none none (some (-1)) = its.reverse.toArray := PySem.W.krv_pick its.toArray
def rRev (K : PySem.W.Frag) : V → Hp → VK → Prop := fun x H1 Q => ∃ a xs, x = .ref a ∧ SqL K H1 a xs ∧ ∀ p, H1 p = none → Q (.ref p) (upd H1 p (.lst xs.reverse))
def tRev (K : PySem.W.Frag) (te : TE) : TE := fun σ H Q => te σ H fun x H1 => rRev K x H1 Q
theorem pe_rev {e : Expr} {te : TE} {j : Nat} {p1 p2 p3 pos : Pos} (he : PE X e te) : PE X (.Subscript e (.Slice none none (some (.UnaryOp .USub (.Constant (.int 1) j p1) p2)) p3) pos) (tRev X.K te) := by
  intro pins s σ H Q I h
  refine Subscript_ (thn (he pins s σ H _ I h) fun v s1 ⟨x, H1, I1, r1, q1⟩ => ?_)
  obtain ⟨a, xs, rfl, hx, q⟩ := q1
  cases r1
  refine wpAny_Slice ?_
  rw [evalPart_none]
  refine wpAny_pure (wpAny_pure ?_)
  refine thn (po_some (pe_un un_neg pe_int) pins s1 σ H1 (fun o H2 => o = some (-1) ∧ H2 = H1) I1 ⟨_, rfl, _, rfl, rfl, rfl⟩) fun vs s2 h2 => ?_
  obtain ⟨o, H2, I2, ps, rfl, rfl⟩ := h2
  have I4 : Inv X pins σ H2 { s2 with heap := s2.heap.push { cls := .type "slice", data := .fields #[.none, .none, vs] } } := I2.kept (t' := s2.toks) fun b ob q => Heap.get?_push_of_some _ q
  obtain ⟨its, r, ht, hz⟩ := I4.list hx
  have hlen := r.length
  show wpAny (model X.prog X.w) X.A (subscriptTail e (.Slice none none (some (.UnaryOp .USub (.Constant (.int 1) j p1) p2)) p3) (.ref a) (.ref s2.heap.objs.size)) (EP X pins σ Q) X.xe { s2 with heap := s2.heap.push { cls := .type "slice", data := .fields #[.none, .none, vs] } }
  refine tail_any (ops := [.ref a, .ref s2.heap.objs.size]) ht.isList.typeIs slot_list_getitem.lookup ?_ (by with_unfolding_all rfl)
  refine wpAny_getItem_list_slice ht.isList (Heap.IsSliceOf.new ..) .none .none ps (by simp) ?_ (by rw [List.size_toArray] <;> omega)
  rw [slicePick_rev]
  refine ⟨.ref _, _, I4.laid (t' := s2.toks) (o := .lst xs.reverse) (fun b ob q => Heap.get?_push_of_some _ q) (Nat.le_refl _) ?_, rfl, q _ (I4.hok.fresh (Nat.le_refl _))⟩
  exact ⟨by rw [List.length_reverse]; exact hz, _, 0, r.reverse, Heap.get?_push_size _ rfl⟩
end

/-! ### data: what a value is, all the way down -/
mutual
inductive Rep (K : PySem.W.Frag) (H : Hp) : V → PyData → Prop
  | non : Rep K H .non .none
  | bl (b : Bool) : Rep K H (.bl b) (.bool b)
  | int (i : Int) : Rep K H (.int i) (.int i)
  | str (x : Str) : Rep K H (.str x) (.str x)
  | lst {a : Addr} {xs : List V} {ds : List PyData} : SqL K H a xs → Reps K H xs ds → Rep K H (.ref a) (.list ds)
  | tup {a : Addr} {xs : List V} {ds : List PyData} : SqT K H a xs → Reps K H xs ds → Rep K H (.ref a) (.tuple ds)
inductive Reps (K : PySem.W.Frag) (H : Hp) : List V → List PyData → Prop
  | nil : Reps K H [] []
  | cons {x : V} {d : PyData} {xs : List V} {ds : List PyData} : Rep K H x d → Reps K H xs ds → Reps K H (x :: xs) (d :: ds)
end
section
variable {X : Cx} {pins : List (Addr × Obj)} {σ : St} {H H' : Hp} {s : Shared} {K : PySem.W.Frag}
mutual
theorem Rep.reads (I : Inv X pins σ H s) : ∀ {v : V} {d : PyData} {u : Value}, Rep X.K H v d → RelV v u → ∃ as, Reads s.heap u d as
  | _, _, u, .non, r => by cases (show u = Value.none from r); exact ⟨_, Reads.none⟩
  | _, _, u, .bl b, r => by cases (show u = Value.bool b from r); exact ⟨_, Reads.bool b⟩
  | _, _, u, .int i, r => by obtain ⟨t, q⟩ := (show ∃ t, u = Value.int i t from r); cases q; exact ⟨_, Reads.int i t⟩
  | _, _, u, .str x, r => by obtain ⟨t, q⟩ := (show ∃ t, u = Value.str x t from r); cases q; exact ⟨_, Reads.str x t⟩
  | _, _, u, .lst (a := a) h rs, r => by
    cases (show u = Value.ref a from r)
    obtain ⟨its, rv, p, _⟩ := I.list h
    obtain ⟨as, q⟩ := Reps.reads I rs rv
    obtain ⟨o, h1, h2, n, h3⟩ := p.isList
    exact ⟨_, Reads.list h1 h2 h3 (by simpa using q)⟩
  | _, _, u, .tup (a := a) h rs, r => by
    cases (show u = Value.ref a from r)
    obtain ⟨its, rv, p, _⟩ := I.tuple h
    obtain ⟨as, q⟩ := Reps.reads I rs rv
    obtain ⟨o, h1, h2, n, h3⟩ := p
    exact ⟨_, Reads.tuple h1 h2 h3 (by simpa using q)⟩
theorem Reps.reads (I : Inv X pins σ H s) : ∀ {vs : List V} {ds : List PyData} {us : List Value}, Reps X.K H vs ds → Vals vs us → ∃ as, ReadsAll s.heap us ds as
  | _, _, _, .nil, .nil => ⟨_, ReadsAll.nil⟩
  | _, _, _, .cons r rs, .cons q qs => by
    obtain ⟨as, h1⟩ := Rep.reads I r q
    obtain ⟨bs, h2⟩ := Reps.reads I rs qs
    exact ⟨_, ReadsAll.cons h1 h2⟩
end
theorem Same.tupS (e : Same H H') {a : Addr} {xs : List V} (h : SqT K H a xs) : SqT K H' a xs := by
  rcases h with (h | ⟨o, h⟩) | h
  · exact .inl (.inl (e _ _ h))
  · exact .inl (.inr ⟨o, e _ _ h⟩)
  · exact .inr h
mutual
theorem Rep.same (e : Same H H') : ∀ {v : V} {d : PyData}, Rep K H v d → Rep K H' v d
  | _, _, .non => .non
  | _, _, .bl b => .bl b
  | _, _, .int i => .int i
  | _, _, .str x => .str x
  | _, _, .lst h rs => .lst (e.seq h) (Reps.same e rs)
  | _, _, .tup h rs => .tup (e.tupS h) (Reps.same e rs)
theorem Reps.same (e : Same H H') : ∀ {vs : List V} {ds : List PyData}, Reps K H vs ds → Reps K H' vs ds
  | _, _, .nil => .nil
  | _, _, .cons r rs => .cons (Rep.same e r) (Reps.same e rs)
end
theorem Reps.length : ∀ {vs : List V} {ds : List PyData}, Reps K H vs ds → vs.length = ds.length
  | _, _, .nil => rfl
  | _, _, .cons _ rs => by rw [List.length_cons, List.length_cons, Reps.length rs]
theorem Reps.get : ∀ {vs : List V} {ds : List PyData} {i : Nat} {d : PyData}, Reps K H vs ds → ds[i]? = some d → ∃ v, vs[i]? = some v ∧ Rep K H v d
  | _, _, i, d, .nil, e => by simp at e
  | _, _, 0, d, .cons r _, e => by simp at e; subst e; exact ⟨_, rfl, r⟩
  | _, _, i + 1, d, .cons _ rs, e => by
    obtain ⟨v, h1, h2⟩ := Reps.get (i := i) rs (by simpa using e)
    exact ⟨v, by simpa using h1, h2⟩
theorem Reps.snoc {x : V} {d : PyData} : ∀ {vs : List V} {ds : List PyData}, Reps K H vs ds → Rep K H x d → Reps K H (vs ++ [x]) (ds ++ [d])
  | _, _, .nil, h => .cons h .nil
  | _, _, .cons r rs, h => .cons r (Reps.snoc rs h)
theorem Reps.append : ∀ {vs ws : List V} {ds es : List PyData}, Reps K H vs ds → Reps K H ws es → Reps K H (vs ++ ws) (ds ++ es)
  | _, _, _, _, .nil, h => h
  | _, _, _, _, .cons r rs, h => .cons r (Reps.append rs h)
theorem Reps.ints (ns : List Int) : Reps K H (ns.map V.int) (ns.map PyData.int) := by
  induction ns with
  | nil => exact .nil
  | cons n ns ih => exact .cons (.int n) ih
/-- a new object changes nothing -/
theorem same_new {p : Addr} {o : HO} (h : H p = none) : Same H (upd H p o) := fun b u e => by rw [upd_ne (ne_of_none e h)]; exact e

/-- x == y, x != y over data -/
def dOk (d : PyData) : Prop := SeqAt.shaped d = true
def rEqD (K : PySem.W.Frag) : R2 := fun x y H Q => ∃ d e, Rep K H x d ∧ Rep K H y e ∧ dOk d ∧ dOk e ∧ Q (.bl (PyData.eqv d e)) H
def rNeD (K : PySem.W.Frag) : R2 := fun x y H Q => ∃ d e, Rep K H x d ∧ Rep K H y e ∧ dOk d ∧ dOk e ∧ Q (.bl (!PyData.eqv d e)) H
theorem op_eqD (hu : X.A.units + 64 < cLine) : OpR X (compareOp .Eq) (rEqD X.K) := by
  intro pins s σ H x y v u Q I rx ry h
  obtain ⟨d, e, h1, h2, h3, h4, q⟩ := h
  obtain ⟨as, k1⟩ := Rep.reads I h1 rx
  obtain ⟨bs, k2⟩ := Rep.reads I h2 ry
  exact eq_dataH k1 k2 h3 h4 hu ⟨.bl _, H, I, rfl, q⟩
theorem op_neD (hu : X.A.units + 64 < cLine) : OpR X (compareOp .NotEq) (rNeD X.K) := by
  intro pins s σ H x y v u Q I rx ry h
  obtain ⟨d, e, h1, h2, h3, h4, q⟩ := h
  obtain ⟨as, k1⟩ := Rep.reads I h1 rx
  obtain ⟨bs, k2⟩ := Rep.reads I h2 ry
  exact ne_dataH k1 k2 h3 h4 hu ⟨.bl _, H, I, rfl, q⟩
end

/-! ### encodings: a type of data whose == is equality -/
structure Enc {α : Type} (f : α → PyData) (n : Nat) : Prop where
  eqv : ∀ a b, PyData.eqv (f a) (f b) = true ↔ a = b
  lay : ∀ a, (f a).canLay0 = true
  dep : ∀ a, (f a).depth ≤ n
theorem Enc.ok {α : Type} {f : α → PyData} {n : Nat} (E : Enc f n) (hn : n ≤ 32) (a : α) : dOk (f a) := by
  unfold dOk SeqAt.shaped
  rw [E.lay a, Bool.true_and]
  exact decide_eq_true (Nat.le_trans (E.dep a) (Nat.le_trans hn (by decide)))
theorem Enc.int : Enc PyData.int 0 := ⟨fun a b => by simp [PyData.eqv], fun _ => by simp [PyData.canLay0], fun _ => by simp [PyData.depth]⟩
theorem eqvAll_map {α : Type} {f : α → PyData} (h : ∀ a b, PyData.eqv (f a) (f b) = true ↔ a = b) : ∀ xs ys : List α, PyData.eqvAll (xs.map f) (ys.map f) = true ↔ xs = ys
  | [], [] => by simp [PyData.eqvAll]
  | [], _ :: _ => by simp [PyData.eqvAll]
  | _ :: _, [] => by simp [PyData.eqvAll]
  | x :: xs, y :: ys => by simp [PyData.eqvAll, h x y, eqvAll_map h xs ys]
theorem layAll_map {α : Type} {f : α → PyData} (h : ∀ a, (f a).canLay0 = true) : ∀ xs : List α, PyData.canLayAll0 (xs.map f) = true
  | [] => rfl
  | x :: xs => by simp [PyData.canLayAll0, h x, layAll_map h xs]
theorem depAll_map {α : Type} {f : α → PyData} {n : Nat} (h : ∀ a, (f a).depth ≤ n) : ∀ xs : List α, PyData.depthAll (xs.map f) ≤ n
  | [] => Nat.zero_le _
  | x :: xs => by
    have h1 := h x
    have h2 := depAll_map h xs
    simp only [List.map_cons, PyData.depthAll]
    omega
theorem Enc.list {α : Type} {f : α → PyData} {n : Nat} (E : Enc f n) : Enc (fun xs : List α => PyData.list (xs.map f)) (n + 1) :=
  ⟨fun a b => by simp only [PyData.eqv]; exact eqvAll_map E.eqv a b, fun a => by simp only [PyData.canLay0]; exact layAll_map E.lay a, fun a => by simp only [PyData.depth]; have := depAll_map E.dep a; omega⟩
theorem Enc.tuple {α : Type} {f : α → PyData} {n : Nat} (E : Enc f n) : Enc (fun xs : List α => PyData.tuple (xs.map f)) (n + 1) :=
  ⟨fun a b => by simp only [PyData.eqv]; exact eqvAll_map E.eqv a b, fun a => by simp only [PyData.canLay0]; exact layAll_map E.lay a, fun a => by simp only [PyData.depth]; have := depAll_map E.dep a; omega⟩
theorem Enc.pair {α β : Type} {f : α → PyData} {g : β → PyData} {n : Nat} (E : Enc f n) (G : Enc g n) : Enc (fun p : α × β => PyData.tuple [f p.1, g p.2]) (n + 1) :=
  ⟨fun a b => by
    obtain ⟨a1, a2⟩ := a
    obtain ⟨b1, b2⟩ := b
    simp [PyData.eqv, PyData.eqvAll, E.eqv, G.eqv], fun a => by simp [PyData.canLay0, PyData.canLayAll0, E.lay, G.lay], fun a => by
    have h1 := E.dep a.1
    have h2 := G.dep a.2
    simp only [PyData.depth, PyData.depthAll]
    omega⟩
theorem Enc.dec {α : Type} {f : α → PyData} {n : Nat} [DecidableEq α] (E : Enc f n) (a b : α) : PyData.eqv (f a) (f b) = decide (a = b) := by
  by_cases h : a = b
  · rw [decide_eq_true h]; exact (E.eqv a b).mpr h
  · rw [decide_eq_false h]; exact Bool.eq_false_iff.mpr fun z => h ((E.eqv a b).mp z)
end L2
end

section
set_option Elab.async false
set_option linter.all false
set_option maxRecDepth 100000
set_option maxHeartbeats 4000000
namespace L2
open PySem PySem.Spec PyProof.Rows

/-- a constant of the top -/
theorem pe_cst {X : Cx} {x : Str} {i : Int} {pos : Pos} (hm : ∃ t, X.mg x = some (.int i t)) (hg : Gl X x) (hd : (x == ("__debug__" : Str)) = false := by decide) : PE X (.Name x pos) (tC (.int i)) := by
  obtain ⟨t, h⟩ := hm
  exact pe_glob hg h ⟨t, rfl⟩ hd

/-! ### the readings, step by step -/
section
variable {σ : St} {H : Hp} {Q : VK} {v : V} {ta tb te : TE} {nx bk ct : St → Hp → Prop} {rt : VK} {t u : TS} {i j : Int}

theorem rd_v0 {r : St} (h : Q v H) : tVar 0 (some v :: r) H Q := ⟨v, rfl, h⟩
theorem rd_v1 {s0 : Option V} {r : St} (h : Q v H) : tVar 1 (s0 :: some v :: r) H Q := ⟨v, rfl, h⟩
theorem rd_v2 {s0 s1 : Option V} {r : St} (h : Q v H) : tVar 2 (s0 :: s1 :: some v :: r) H Q := ⟨v, rfl, h⟩
theorem rd_v3 {s0 s1 s2 : Option V} {r : St} (h : Q v H) : tVar 3 (s0 :: s1 :: s2 :: some v :: r) H Q := ⟨v, rfl, h⟩
theorem rd_v4 {s0 s1 s2 s3 : Option V} {r : St} (h : Q v H) : tVar 4 (s0 :: s1 :: s2 :: s3 :: some v :: r) H Q := ⟨v, rfl, h⟩
theorem rd_v5 {s0 s1 s2 s3 s4 : Option V} {r : St} (h : Q v H) : tVar 5 (s0 :: s1 :: s2 :: s3 :: s4 :: some v :: r) H Q := ⟨v, rfl, h⟩
theorem rd_v6 {s0 s1 s2 s3 s4 s5 : Option V} {r : St} (h : Q v H) : tVar 6 (s0 :: s1 :: s2 :: s3 :: s4 :: s5 :: some v :: r) H Q := ⟨v, rfl, h⟩
theorem rd_v7 {s0 s1 s2 s3 s4 s5 s6 : Option V} {r : St} (h : Q v H) : tVar 7 (s0 :: s1 :: s2 :: s3 :: s4 :: s5 :: s6 :: some v :: r) H Q := ⟨v, rfl, h⟩
theorem rd_v8 {s0 s1 s2 s3 s4 s5 s6 s7 : Option V} {r : St} (h : Q v H) : tVar 8 (s0 :: s1 :: s2 :: s3 :: s4 :: s5 :: s6 :: s7 :: some v :: r) H Q := ⟨v, rfl, h⟩
theorem rd_v9 {s0 s1 s2 s3 s4 s5 s6 s7 s8 : Option V} {r : St} (h : Q v H) : tVar 9 (s0 :: s1 :: s2 :: s3 :: s4 :: s5 :: s6 :: s7 :: s8 :: some v :: r) H Q := ⟨v, rfl, h⟩
theorem rd_v10 {s0 s1 s2 s3 s4 s5 s6 s7 s8 s9 : Option V} {r : St} (h : Q v H) : tVar 10 (s0 :: s1 :: s2 :: s3 :: s4 :: s5 :: s6 :: s7 :: s8 :: s9 :: some v :: r) H Q := ⟨v, rfl, h⟩
theorem rd_v11 {s0 s1 s2 s3 s4 s5 s6 s7 s8 s9 s10 : Option V} {r : St} (h : Q v H) : tVar 11 (s0 :: s1 :: s2 :: s3 :: s4 :: s5 :: s6 :: s7 :: s8 :: s9 :: s10 :: some v :: r) H Q := ⟨v, rfl, h⟩
theorem rd_v12 {s0 s1 s2 s3 s4 s5 s6 s7 s8 s9 s10 s11 : Option V} {r : St} (h : Q v H) : tVar 12 (s0 :: s1 :: s2 :: s3 :: s4 :: s5 :: s6 :: s7 :: s8 :: s9 :: s10 :: s11 :: some v :: r) H Q := ⟨v, rfl, h⟩
theorem rd_v13 {s0 s1 s2 s3 s4 s5 s6 s7 s8 s9 s10 s11 s12 : Option V} {r : St} (h : Q v H) : tVar 13 (s0 :: s1 :: s2 :: s3 :: s4 :: s5 :: s6 :: s7 :: s8 :: s9 :: s10 :: s11 :: s12 :: some v :: r) H Q := ⟨v, rfl, h⟩
theorem rd_v14 {s0 s1 s2 s3 s4 s5 s6 s7 s8 s9 s10 s11 s12 s13 : Option V} {r : St} (h : Q v H) : tVar 14 (s0 :: s1 :: s2 :: s3 :: s4 :: s5 :: s6 :: s7 :: s8 :: s9 :: s10 :: s11 :: s12 :: s13 :: some v :: r) H Q := ⟨v, rfl, h⟩
theorem rd_v15 {s0 s1 s2 s3 s4 s5 s6 s7 s8 s9 s10 s11 s12 s13 s14 : Option V} {r : St} (h : Q v H) : tVar 15 (s0 :: s1 :: s2 :: s3 :: s4 :: s5 :: s6 :: s7 :: s8 :: s9 :: s10 :: s11 :: s12 :: s13 :: s14 :: some v :: r) H Q := ⟨v, rfl, h⟩
theorem rd_v16 {s0 s1 s2 s3 s4 s5 s6 s7 s8 s9 s10 s11 s12 s13 s14 s15 : Option V} {r : St} (h : Q v H) : tVar 16 (s0 :: s1 :: s2 :: s3 :: s4 :: s5 :: s6 :: s7 :: s8 :: s9 :: s10 :: s11 :: s12 :: s13 :: s14 :: s15 :: some v :: r) H Q := ⟨v, rfl, h⟩
theorem rd_v17 {s0 s1 s2 s3 s4 s5 s6 s7 s8 s9 s10 s11 s12 s13 s14 s15 s16 : Option V} {r : St} (h : Q v H) : tVar 17 (s0 :: s1 :: s2 :: s3 :: s4 :: s5 :: s6 :: s7 :: s8 :: s9 :: s10 :: s11 :: s12 :: s13 :: s14 :: s15 :: s16 :: some v :: r) H Q := ⟨v, rfl, h⟩
theorem rd_v18 {s0 s1 s2 s3 s4 s5 s6 s7 s8 s9 s10 s11 s12 s13 s14 s15 s16 s17 : Option V} {r : St} (h : Q v H) : tVar 18 (s0 :: s1 :: s2 :: s3 :: s4 :: s5 :: s6 :: s7 :: s8 :: s9 :: s10 :: s11 :: s12 :: s13 :: s14 :: s15 :: s16 :: s17 :: some v :: r) H Q := ⟨v, rfl, h⟩
theorem rd_v19 {s0 s1 s2 s3 s4 s5 s6 s7 s8 s9 s10 s11 s12 s13 s14 s15 s16 s17 s18 : Option V} {r : St} (h : Q v H) : tVar 19 (s0 :: s1 :: s2 :: s3 :: s4 :: s5 :: s6 :: s7 :: s8 :: s9 :: s10 :: s11 :: s12 :: s13 :: s14 :: s15 :: s16 :: s17 :: s18 :: some v :: r) H Q := ⟨v, rfl, h⟩
theorem rd_s0 {s0 : Option V} {r : St} (h : te (s0 :: r) H fun x H1 => nx (some x :: r) H1) : tAsg te (gName 0) ⟨nx, rt, bk, ct⟩ (s0 :: r) H := h
theorem rd_s1 {s0 s1 : Option V} {r : St} (h : te (s0 :: s1 :: r) H fun x H1 => nx (s0 :: some x :: r) H1) : tAsg te (gName 1) ⟨nx, rt, bk, ct⟩ (s0 :: s1 :: r) H := h
theorem rd_s2 {s0 s1 s2 : Option V} {r : St} (h : te (s0 :: s1 :: s2 :: r) H fun x H1 => nx (s0 :: s1 :: some x :: r) H1) : tAsg te (gName 2) ⟨nx, rt, bk, ct⟩ (s0 :: s1 :: s2 :: r) H := h
theorem rd_s3 {s0 s1 s2 s3 : Option V} {r : St} (h : te (s0 :: s1 :: s2 :: s3 :: r) H fun x H1 => nx (s0 :: s1 :: s2 :: some x :: r) H1) : tAsg te (gName 3) ⟨nx, rt, bk, ct⟩ (s0 :: s1 :: s2 :: s3 :: r) H := h
theorem rd_s4 {s0 s1 s2 s3 s4 : Option V} {r : St} (h : te (s0 :: s1 :: s2 :: s3 :: s4 :: r) H fun x H1 => nx (s0 :: s1 :: s2 :: s3 :: some x :: r) H1) : tAsg te (gName 4) ⟨nx, rt, bk, ct⟩ (s0 :: s1 :: s2 :: s3 :: s4 :: r) H := h
theorem rd_s5 {s0 s1 s2 s3 s4 s5 : Option V} {r : St} (h : te (s0 :: s1 :: s2 :: s3 :: s4 :: s5 :: r) H fun x H1 => nx (s0 :: s1 :: s2 :: s3 :: s4 :: some x :: r) H1) : tAsg te (gName 5) ⟨nx, rt, bk, ct⟩ (s0 :: s1 :: s2 :: s3 :: s4 :: s5 :: r) H := h
theorem rd_s6 {s0 s1 s2 s3 s4 s5 s6 : Option V} {r : St} (h : te (s0 :: s1 :: s2 :: s3 :: s4 :: s5 :: s6 :: r) H fun x H1 => nx (s0 :: s1 :: s2 :: s3 :: s4 :: s5 :: some x :: r) H1) : tAsg te (gName 6) ⟨nx, rt, bk, ct⟩ (s0 :: s1 :: s2 :: s3 :: s4 :: s5 :: s6 :: r) H := h
theorem rd_s7 {s0 s1 s2 s3 s4 s5 s6 s7 : Option V} {r : St} (h : te (s0 :: s1 :: s2 :: s3 :: s4 :: s5 :: s6 :: s7 :: r) H fun x H1 => nx (s0 :: s1 :: s2 :: s3 :: s4 :: s5 :: s6 :: some x :: r) H1) : tAsg te (gName 7) ⟨nx, rt, bk, ct⟩ (s0 :: s1 :: s2 :: s3 :: s4 :: s5 :: s6 :: s7 :: r) H := h
theorem rd_s8 {s0 s1 s2 s3 s4 s5 s6 s7 s8 : Option V} {r : St} (h : te (s0 :: s1 :: s2 :: s3 :: s4 :: s5 :: s6 :: s7 :: s8 :: r) H fun x H1 => nx (s0 :: s1 :: s2 :: s3 :: s4 :: s5 :: s6 :: s7 :: some x :: r) H1) : tAsg te (gName 8) ⟨nx, rt, bk, ct⟩ (s0 :: s1 :: s2 :: s3 :: s4 :: s5 :: s6 :: s7 :: s8 :: r) H := h
theorem rd_s9 {s0 s1 s2 s3 s4 s5 s6 s7 s8 s9 : Option V} {r : St} (h : te (s0 :: s1 :: s2 :: s3 :: s4 :: s5 :: s6 :: s7 :: s8 :: s9 :: r) H fun x H1 => nx (s0 :: s1 :: s2 :: s3 :: s4 :: s5 :: s6 :: s7 :: s8 :: some x :: r) H1) : tAsg te (gName 9) ⟨nx, rt, bk, ct⟩ (s0 :: s1 :: s2 :: s3 :: s4 :: s5 :: s6 :: s7 :: s8 :: s9 :: r) H := h
theorem rd_s10 {s0 s1 s2 s3 s4 s5 s6 s7 s8 s9 s10 : Option V} {r : St} (h : te (s0 :: s1 :: s2 :: s3 :: s4 :: s5 :: s6 :: s7 :: s8 :: s9 :: s10 :: r) H fun x H1 => nx (s0 :: s1 :: s2 :: s3 :: s4 :: s5 :: s6 :: s7 :: s8 :: s9 :: some x :: r) H1) : tAsg te (gName 10) ⟨nx, rt, bk, ct⟩ (s0 :: s1 :: s2 :: s3 :: s4 :: s5 :: s6 :: s7 :: s8 :: s9 :: s10 :: r) H := h
theorem rd_s11 {s0 s1 s2 s3 s4 s5 s6 s7 s8 s9 s10 s11 : Option V} {r : St} (h : te (s0 :: s1 :: s2 :: s3 :: s4 :: s5 :: s6 :: s7 :: s8 :: s9 :: s10 :: s11 :: r) H fun x H1 => nx (s0 :: s1 :: s2 :: s3 :: s4 :: s5 :: s6 :: s7 :: s8 :: s9 :: s10 :: some x :: r) H1) : tAsg te (gName 11) ⟨nx, rt, bk, ct⟩ (s0 :: s1 :: s2 :: s3 :: s4 :: s5 :: s6 :: s7 :: s8 :: s9 :: s10 :: s11 :: r) H := h
theorem rd_s12 {s0 s1 s2 s3 s4 s5 s6 s7 s8 s9 s10 s11 s12 : Option V} {r : St} (h : te (s0 :: s1 :: s2 :: s3 :: s4 :: s5 :: s6 :: s7 :: s8 :: s9 :: s10 :: s11 :: s12 :: r) H fun x H1 => nx (s0 :: s1 :: s2 :: s3 :: s4 :: s5 :: s6 :: s7 :: s8 :: s9 :: s10 :: s11 :: some x :: r) H1) : tAsg te (gName 12) ⟨nx, rt, bk, ct⟩ (s0 :: s1 :: s2 :: s3 :: s4 :: s5 :: s6 :: s7 :: s8 :: s9 :: s10 :: s11 :: s12 :: r) H := h
theorem rd_s13 {s0 s1 s2 s3 s4 s5 s6 s7 s8 s9 s10 s11 s12 s13 : Option V} {r : St} (h : te (s0 :: s1 :: s2 :: s3 :: s4 :: s5 :: s6 :: s7 :: s8 :: s9 :: s10 :: s11 :: s12 :: s13 :: r) H fun x H1 => nx (s0 :: s1 :: s2 :: s3 :: s4 :: s5 :: s6 :: s7 :: s8 :: s9 :: s10 :: s11 :: s12 :: some x :: r) H1) : tAsg te (gName 13) ⟨nx, rt, bk, ct⟩ (s0 :: s1 :: s2 :: s3 :: s4 :: s5 :: s6 :: s7 :: s8 :: s9 :: s10 :: s11 :: s12 :: s13 :: r) H := h
theorem rd_s14 {s0 s1 s2 s3 s4 s5 s6 s7 s8 s9 s10 s11 s12 s13 s14 : Option V} {r : St} (h : te (s0 :: s1 :: s2 :: s3 :: s4 :: s5 :: s6 :: s7 :: s8 :: s9 :: s10 :: s11 :: s12 :: s13 :: s14 :: r) H fun x H1 => nx (s0 :: s1 :: s2 :: s3 :: s4 :: s5 :: s6 :: s7 :: s8 :: s9 :: s10 :: s11 :: s12 :: s13 :: some x :: r) H1) : tAsg te (gName 14) ⟨nx, rt, bk, ct⟩ (s0 :: s1 :: s2 :: s3 :: s4 :: s5 :: s6 :: s7 :: s8 :: s9 :: s10 :: s11 :: s12 :: s13 :: s14 :: r) H := h
theorem rd_s15 {s0 s1 s2 s3 s4 s5 s6 s7 s8 s9 s10 s11 s12 s13 s14 s15 : Option V} {r : St} (h : te (s0 :: s1 :: s2 :: s3 :: s4 :: s5 :: s6 :: s7 :: s8 :: s9 :: s10 :: s11 :: s12 :: s13 :: s14 :: s15 :: r) H fun x H1 => nx (s0 :: s1 :: s2 :: s3 :: s4 :: s5 :: s6 :: s7 :: s8 :: s9 :: s10 :: s11 :: s12 :: s13 :: s14 :: some x :: r) H1) : tAsg te (gName 15) ⟨nx, rt, bk, ct⟩ (s0 :: s1 :: s2 :: s3 :: s4 :: s5 :: s6 :: s7 :: s8 :: s9 :: s10 :: s11 :: s12 :: s13 :: s14 :: s15 :: r) H := h
theorem rd_s16 {s0 s1 s2 s3 s4 s5 s6 s7 s8 s9 s10 s11 s12 s13 s14 s15 s16 : Option V} {r : St} (h : te (s0 :: s1 :: s2 :: s3 :: s4 :: s5 :: s6 :: s7 :: s8 :: s9 :: s10 :: s11 :: s12 :: s13 :: s14 :: s15 :: s16 :: r) H fun x H1 => nx (s0 :: s1 :: s2 :: s3 :: s4 :: s5 :: s6 :: s7 :: s8 :: s9 :: s10 :: s11 :: s12 :: s13 :: s14 :: s15 :: some x :: r) H1) : tAsg te (gName 16) ⟨nx, rt, bk, ct⟩ (s0 :: s1 :: s2 :: s3 :: s4 :: s5 :: s6 :: s7 :: s8 :: s9 :: s10 :: s11 :: s12 :: s13 :: s14 :: s15 :: s16 :: r) H := h
theorem rd_s17 {s0 s1 s2 s3 s4 s5 s6 s7 s8 s9 s10 s11 s12 s13 s14 s15 s16 s17 : Option V} {r : St} (h : te (s0 :: s1 :: s2 :: s3 :: s4 :: s5 :: s6 :: s7 :: s8 :: s9 :: s10 :: s11 :: s12 :: s13 :: s14 :: s15 :: s16 :: s17 :: r) H fun x H1 => nx (s0 :: s1 :: s2 :: s3 :: s4 :: s5 :: s6 :: s7 :: s8 :: s9 :: s10 :: s11 :: s12 :: s13 :: s14 :: s15 :: s16 :: some x :: r) H1) : tAsg te (gName 17) ⟨nx, rt, bk, ct⟩ (s0 :: s1 :: s2 :: s3 :: s4 :: s5 :: s6 :: s7 :: s8 :: s9 :: s10 :: s11 :: s12 :: s13 :: s14 :: s15 :: s16 :: s17 :: r) H := h
theorem rd_s18 {s0 s1 s2 s3 s4 s5 s6 s7 s8 s9 s10 s11 s12 s13 s14 s15 s16 s17 s18 : Option V} {r : St} (h : te (s0 :: s1 :: s2 :: s3 :: s4 :: s5 :: s6 :: s7 :: s8 :: s9 :: s10 :: s11 :: s12 :: s13 :: s14 :: s15 :: s16 :: s17 :: s18 :: r) H fun x H1 => nx (s0 :: s1 :: s2 :: s3 :: s4 :: s5 :: s6 :: s7 :: s8 :: s9 :: s10 :: s11 :: s12 :: s13 :: s14 :: s15 :: s16 :: s17 :: some x :: r) H1) : tAsg te (gName 18) ⟨nx, rt, bk, ct⟩ (s0 :: s1 :: s2 :: s3 :: s4 :: s5 :: s6 :: s7 :: s8 :: s9 :: s10 :: s11 :: s12 :: s13 :: s14 :: s15 :: s16 :: s17 :: s18 :: r) H := h
theorem rd_s19 {s0 s1 s2 s3 s4 s5 s6 s7 s8 s9 s10 s11 s12 s13 s14 s15 s16 s17 s18 s19 : Option V} {r : St} (h : te (s0 :: s1 :: s2 :: s3 :: s4 :: s5 :: s6 :: s7 :: s8 :: s9 :: s10 :: s11 :: s12 :: s13 :: s14 :: s15 :: s16 :: s17 :: s18 :: s19 :: r) H fun x H1 => nx (s0 :: s1 :: s2 :: s3 :: s4 :: s5 :: s6 :: s7 :: s8 :: s9 :: s10 :: s11 :: s12 :: s13 :: s14 :: s15 :: s16 :: s17 :: s18 :: some x :: r) H1) : tAsg te (gName 19) ⟨nx, rt, bk, ct⟩ (s0 :: s1 :: s2 :: s3 :: s4 :: s5 :: s6 :: s7 :: s8 :: s9 :: s10 :: s11 :: s12 :: s13 :: s14 :: s15 :: s16 :: s17 :: s18 :: s19 :: r) H := h
theorem rd_g0 {Qg : St → Hp → Prop} {s0 : Option V} {r : St} (h : Qg (some v :: r) H) : gName 0 v (s0 :: r) H Qg := h
theorem rd_g1 {Qg : St → Hp → Prop} {s0 s1 : Option V} {r : St} (h : Qg (s0 :: some v :: r) H) : gName 1 v (s0 :: s1 :: r) H Qg := h
theorem rd_g2 {Qg : St → Hp → Prop} {s0 s1 s2 : Option V} {r : St} (h : Qg (s0 :: s1 :: some v :: r) H) : gName 2 v (s0 :: s1 :: s2 :: r) H Qg := h
theorem rd_g3 {Qg : St → Hp → Prop} {s0 s1 s2 s3 : Option V} {r : St} (h : Qg (s0 :: s1 :: s2 :: some v :: r) H) : gName 3 v (s0 :: s1 :: s2 :: s3 :: r) H Qg := h
theorem rd_g4 {Qg : St → Hp → Prop} {s0 s1 s2 s3 s4 : Option V} {r : St} (h : Qg (s0 :: s1 :: s2 :: s3 :: some v :: r) H) : gName 4 v (s0 :: s1 :: s2 :: s3 :: s4 :: r) H Qg := h
theorem rd_g5 {Qg : St → Hp → Prop} {s0 s1 s2 s3 s4 s5 : Option V} {r : St} (h : Qg (s0 :: s1 :: s2 :: s3 :: s4 :: some v :: r) H) : gName 5 v (s0 :: s1 :: s2 :: s3 :: s4 :: s5 :: r) H Qg := h
theorem rd_g6 {Qg : St → Hp → Prop} {s0 s1 s2 s3 s4 s5 s6 : Option V} {r : St} (h : Qg (s0 :: s1 :: s2 :: s3 :: s4 :: s5 :: some v :: r) H) : gName 6 v (s0 :: s1 :: s2 :: s3 :: s4 :: s5 :: s6 :: r) H Qg := h
theorem rd_g7 {Qg : St → Hp → Prop} {s0 s1 s2 s3 s4 s5 s6 s7 : Option V} {r : St} (h : Qg (s0 :: s1 :: s2 :: s3 :: s4 :: s5 :: s6 :: some v :: r) H) : gName 7 v (s0 :: s1 :: s2 :: s3 :: s4 :: s5 :: s6 :: s7 :: r) H Qg := h
theorem rd_g8 {Qg : St → Hp → Prop} {s0 s1 s2 s3 s4 s5 s6 s7 s8 : Option V} {r : St} (h : Qg (s0 :: s1 :: s2 :: s3 :: s4 :: s5 :: s6 :: s7 :: some v :: r) H) : gName 8 v (s0 :: s1 :: s2 :: s3 :: s4 :: s5 :: s6 :: s7 :: s8 :: r) H Qg := h
theorem rd_g9 {Qg : St → Hp → Prop} {s0 s1 s2 s3 s4 s5 s6 s7 s8 s9 : Option V} {r : St} (h : Qg (s0 :: s1 :: s2 :: s3 :: s4 :: s5 :: s6 :: s7 :: s8 :: some v :: r) H) : gName 9 v (s0 :: s1 :: s2 :: s3 :: s4 :: s5 :: s6 :: s7 :: s8 :: s9 :: r) H Qg := h
theorem rd_g10 {Qg : St → Hp → Prop} {s0 s1 s2 s3 s4 s5 s6 s7 s8 s9 s10 : Option V} {r : St} (h : Qg (s0 :: s1 :: s2 :: s3 :: s4 :: s5 :: s6 :: s7 :: s8 :: s9 :: some v :: r) H) : gName 10 v (s0 :: s1 :: s2 :: s3 :: s4 :: s5 :: s6 :: s7 :: s8 :: s9 :: s10 :: r) H Qg := h
theorem rd_g11 {Qg : St → Hp → Prop} {s0 s1 s2 s3 s4 s5 s6 s7 s8 s9 s10 s11 : Option V} {r : St} (h : Qg (s0 :: s1 :: s2 :: s3 :: s4 :: s5 :: s6 :: s7 :: s8 :: s9 :: s10 :: some v :: r) H) : gName 11 v (s0 :: s1 :: s2 :: s3 :: s4 :: s5 :: s6 :: s7 :: s8 :: s9 :: s10 :: s11 :: r) H Qg := h
theorem rd_g12 {Qg : St → Hp → Prop} {s0 s1 s2 s3 s4 s5 s6 s7 s8 s9 s10 s11 s12 : Option V} {r : St} (h : Qg (s0 :: s1 :: s2 :: s3 :: s4 :: s5 :: s6 :: s7 :: s8 :: s9 :: s10 :: s11 :: some v :: r) H) : gName 12 v (s0 :: s1 :: s2 :: s3 :: s4 :: s5 :: s6 :: s7 :: s8 :: s9 :: s10 :: s11 :: s12 :: r) H Qg := h
theorem rd_g13 {Qg : St → Hp → Prop} {s0 s1 s2 s3 s4 s5 s6 s7 s8 s9 s10 s11 s12 s13 : Option V} {r : St} (h : Qg (s0 :: s1 :: s2 :: s3 :: s4 :: s5 :: s6 :: s7 :: s8 :: s9 :: s10 :: s11 :: s12 :: some v :: r) H) : gName 13 v (s0 :: s1 :: s2 :: s3 :: s4 :: s5 :: s6 :: s7 :: s8 :: s9 :: s10 :: s11 :: s12 :: s13 :: r) H Qg := h
theorem rd_g14 {Qg : St → Hp → Prop} {s0 s1 s2 s3 s4 s5 s6 s7 s8 s9 s10 s11 s12 s13 s14 : Option V} {r : St} (h : Qg (s0 :: s1 :: s2 :: s3 :: s4 :: s5 :: s6 :: s7 :: s8 :: s9 :: s10 :: s11 :: s12 :: s13 :: some v :: r) H) : gName 14 v (s0 :: s1 :: s2 :: s3 :: s4 :: s5 :: s6 :: s7 :: s8 :: s9 :: s10 :: s11 :: s12 :: s13 :: s14 :: r) H Qg := h
theorem rd_g15 {Qg : St → Hp → Prop} {s0 s1 s2 s3 s4 s5 s6 s7 s8 s9 s10 s11 s12 s13 s14 s15 : Option V} {r : St} (h : Qg (s0 :: s1 :: s2 :: s3 :: s4 :: s5 :: s6 :: s7 :: s8 :: s9 :: s10 :: s11 :: s12 :: s13 :: s14 :: some v :: r) H) : gName 15 v (s0 :: s1 :: s2 :: s3 :: s4 :: s5 :: s6 :: s7 :: s8 :: s9 :: s10 :: s11 :: s12 :: s13 :: s14 :: s15 :: r) H Qg := h
theorem rd_g16 {Qg : St → Hp → Prop} {s0 s1 s2 s3 s4 s5 s6 s7 s8 s9 s10 s11 s12 s13 s14 s15 s16 : Option V} {r : St} (h : Qg (s0 :: s1 :: s2 :: s3 :: s4 :: s5 :: s6 :: s7 :: s8 :: s9 :: s10 :: s11 :: s12 :: s13 :: s14 :: s15 :: some v :: r) H) : gName 16 v (s0 :: s1 :: s2 :: s3 :: s4 :: s5 :: s6 :: s7 :: s8 :: s9 :: s10 :: s11 :: s12 :: s13 :: s14 :: s15 :: s16 :: r) H Qg := h
theorem rd_g17 {Qg : St → Hp → Prop} {s0 s1 s2 s3 s4 s5 s6 s7 s8 s9 s10 s11 s12 s13 s14 s15 s16 s17 : Option V} {r : St} (h : Qg (s0 :: s1 :: s2 :: s3 :: s4 :: s5 :: s6 :: s7 :: s8 :: s9 :: s10 :: s11 :: s12 :: s13 :: s14 :: s15 :: s16 :: some v :: r) H) : gName 17 v (s0 :: s1 :: s2 :: s3 :: s4 :: s5 :: s6 :: s7 :: s8 :: s9 :: s10 :: s11 :: s12 :: s13 :: s14 :: s15 :: s16 :: s17 :: r) H Qg := h
theorem rd_g18 {Qg : St → Hp → Prop} {s0 s1 s2 s3 s4 s5 s6 s7 s8 s9 s10 s11 s12 s13 s14 s15 s16 s17 s18 : Option V} {r : St} (h : Qg (s0 :: s1 :: s2 :: s3 :: s4 :: s5 :: s6 :: s7 :: s8 :: s9 :: s10 :: s11 :: s12 :: s13 :: s14 :: s15 :: s16 :: s17 :: some v :: r) H) : gName 18 v (s0 :: s1 :: s2 :: s3 :: s4 :: s5 :: s6 :: s7 :: s8 :: s9 :: s10 :: s11 :: s12 :: s13 :: s14 :: s15 :: s16 :: s17 :: s18 :: r) H Qg := h
theorem rd_g19 {Qg : St → Hp → Prop} {s0 s1 s2 s3 s4 s5 s6 s7 s8 s9 s10 s11 s12 s13 s14 s15 s16 s17 s18 s19 : Option V} {r : St} (h : Qg (s0 :: s1 :: s2 :: s3 :: s4 :: s5 :: s6 :: s7 :: s8 :: s9 :: s10 :: s11 :: s12 :: s13 :: s14 :: s15 :: s16 :: s17 :: s18 :: some v :: r) H) : gName 19 v (s0 :: s1 :: s2 :: s3 :: s4 :: s5 :: s6 :: s7 :: s8 :: s9 :: s10 :: s11 :: s12 :: s13 :: s14 :: s15 :: s16 :: s17 :: s18 :: s19 :: r) H Qg := h

theorem rd_c (h : Q v H) : tC v σ H Q := h
theorem rd_seq (h : t ⟨u ⟨nx, rt, bk, ct⟩, rt, bk, ct⟩ σ H) : tSeq t u ⟨nx, rt, bk, ct⟩ σ H := h
theorem rd_next (h : nx σ H) : tNext ⟨nx, rt, bk, ct⟩ σ H := h
theorem rd_drop (h : te σ H fun _ H1 => nx σ H1) : tDrop te ⟨nx, rt, bk, ct⟩ σ H := h
theorem rd_ret (h : te σ H rt) : tRet te ⟨nx, rt, bk, ct⟩ σ H := h
theorem rd_retN (h : rt .non H) : tRetN ⟨nx, rt, bk, ct⟩ σ H := h
theorem rd_if {c : TT} {D : Ends} (h : c σ H fun b H1 => if b = true then t D σ H1 else u D σ H1) : tIfS c t u D σ H := h
theorem rd_asgG {g : TG} (h : te σ H fun x H1 => g x σ H1 nx) : tAsg te g ⟨nx, rt, bk, ct⟩ σ H := h
theorem rd_op {r : R2} (h : ta σ H fun x H1 => tb σ H1 fun y H2 => r x y H2 Q) : tOp r ta tb σ H Q := h
theorem rd_un {r : V → Hp → VK → Prop} (h : ta σ H fun x H1 => r x H1 Q) : tUn r ta σ H Q := h
theorem rd_i0 {g : Int → Int → V} (h : Q (g i j) H) : rI0 g (.int i) (.int j) H Q := ⟨i, j, rfl, rfl, h⟩
theorem rd_i {C : Int → Int → Prop} {g : Int → Int → V} (c : C i j) (h : Q (g i j) H) : rI C g (.int i) (.int j) H Q := ⟨i, j, rfl, rfl, c, h⟩
theorem rd_u {g : Int → V} (h : Q (g i) H) : rU g (.int i) H Q := ⟨i, rfl, h⟩
theorem rd_eqI (h : Q (.bl (decide (i = j))) H) : rEq (.int i) (.int j) H Q := ⟨rfl, by have e : decide (V.int i = V.int j) = decide (i = j) := by { by_cases z : i = j <;> simp [z] }; rw [e]; exact h⟩
theorem rd_neI (h : Q (.bl (!decide (i = j))) H) : rNe (.int i) (.int j) H Q := ⟨rfl, by have e : decide (V.int i = V.int j) = decide (i = j) := by { by_cases z : i = j <;> simp [z] }; rw [e]; exact h⟩
theorem rd_eqB {a b : Bool} (h : Q (.bl (decide (a = b))) H) : rEq (.bl a) (.bl b) H Q := ⟨rfl, by have e : decide (V.bl a = V.bl b) = decide (a = b) := by { by_cases z : a = b <;> simp [z] }; rw [e]; exact h⟩
theorem rd_test {P : Bool → Hp → Prop} (h : te σ H fun x H' => ∃ k, x = .bl k ∧ P k H') : tTest te σ H P := h
theorem rd_b {P : Bool → Hp → Prop} (h : te σ H fun x H' => ∃ k, x = .bl k ∧ P k H') : tB te σ H P := h
theorem rd_bl {c : Bool} {P : Bool → Prop} (h : P c) : ∃ k, V.bl c = .bl k ∧ P k := ⟨c, rfl, h⟩
theorem rd_and {ca cb : TT} {P : Bool → Hp → Prop} (h : ca σ H fun c H1 => if c = true then cb σ H1 P else P false H1) : tAnd ca cb σ H P := h
theorem rd_or {ca cb : TT} {P : Bool → Hp → Prop} (h : ca σ H fun c H1 => if c = true then P true H1 else cb σ H1 P) : tOr ca cb σ H P := h
theorem rd_not {ca : TT} {P : Bool → Hp → Prop} (h : ca σ H fun c H1 => P (!c) H1) : tNot ca σ H P := h
theorem rd_andV (h : ta σ H fun x H1 => ∃ c, x = .bl c ∧ if c = true then tb σ H1 Q else Q (.bl false) H1) : tAndV ta tb σ H Q := h
theorem rd_orV (h : ta σ H fun x H1 => ∃ c, x = .bl c ∧ if c = true then Q (.bl true) H1 else tb σ H1 Q) : tOrV ta tb σ H Q := h
theorem rd_notV (h : ta σ H fun x H1 => ∃ c, x = .bl c ∧ Q (.bl (!c)) H1) : tNotV ta σ H Q := h
theorem rd_ifE {c : TT} (h : c σ H fun b H1 => if b = true then ta σ H1 Q else tb σ H1 Q) : tIf c ta tb σ H Q := h
theorem rd_call {sp : Sp} {dvs : List V} {E : XK} {A : TA} (h : A σ H fun vs H1 => sp (vs ++ dvs) H1 Q E) : tCall sp dvs E A σ H Q := h
theorem rd_cb {r : List V → Hp → VK → Prop} {A : TA} (h : A σ H fun vs H1 => r vs H1 Q) : tCB r A σ H Q := h
theorem rd_nil {P : List V → Hp → Prop} (h : P [] H) : tNil σ H P := h
theorem rd_cons {A : TA} {P : List V → Hp → Prop} (h : ta σ H fun x H1 => A σ H1 fun xs H2 => P (x :: xs) H2) : tCons ta A σ H P := h
theorem rd_lst {A : TA} (h : A σ H fun xs H1 => xs.length ≤ sizeLine ∧ ∀ p, H1 p = none → Q (.ref p) (upd H1 p (.lst xs))) : tLst A σ H Q := h
theorem rd_tup {A : TA} (h : A σ H fun xs H1 => xs.length ≤ sizeLine ∧ ∀ p, H1 p = none → Q (.ref p) (upd H1 p (.tup xs))) : tTup A σ H Q := h
theorem rd_new {xs : List V} {P : Addr → Prop} (hl : xs.length ≤ 1000) (h : ∀ p, H p = none → P p) : xs.length ≤ sizeLine ∧ ∀ p, H p = none → P p := ⟨Nat.le_of_lt (small1000 hl), h⟩
theorem rd_bm {K : PySem.W.Frag} {T : String} {r : V → List V → Hp → VK → Prop} {A : TA} (h : te σ H fun x H1 => tyV K T x H1 ∧ A σ H1 fun xs H2 => r x xs H2 Q) : tBM K T r te A σ H Q := h
theorem rd_bm0 {K : PySem.W.Frag} {T : String} {r : V → List V → Hp → VK → Prop} (h : te σ H fun x H1 => tyV K T x H1 ∧ r x [] H1 Q) : tBM0 K T r te σ H Q := h
theorem rd_tyL {K : PySem.W.Frag} {a : Addr} {xs : List V} {P : Prop} (h : H a = some (.lst xs)) (q : P) : tyV K "list" (.ref a) H ∧ P := ⟨.inl ⟨rfl, xs, SqL.of h⟩, q⟩
theorem rd_append {a : Addr} {xs : List V} {y : V} (h : H a = some (.lst xs)) (hz : xs.length < sizeLine) (q : Q .non (upd H a (.lst (xs ++ [y])))) : rAppend (.ref a) [y] H Q := ⟨a, xs, y, rfl, rfl, h, hz, q⟩
theorem rd_reverse {a : Addr} {xs : List V} (h : H a = some (.lst xs)) (q : Q .non (upd H a (.lst xs.reverse))) : rReverse (.ref a) [] H Q := ⟨a, xs, rfl, rfl, h, q⟩
theorem rd_ixL {K : PySem.W.Frag} {a : Addr} {xs : List V} {k : Int} (h : SqL K H a xs) (e : atI xs k = some v) (q : Q v H) : rIxL K (.ref a) (.int k) H Q := ⟨a, xs, k, v, rfl, rfl, h, e, q⟩
theorem rd_ixT {K : PySem.W.Frag} {a : Addr} {xs : List V} {k : Int} (h : SqT K H a xs) (e : atI xs k = some v) (q : Q v H) : rIxT K (.ref a) (.int k) H Q := ⟨a, xs, k, v, rfl, rfl, h, e, q⟩
theorem rd_lenL {K : PySem.W.Frag} {a : Addr} {xs : List V} (h : SqL K H a xs) (q : Q (.int xs.length) H) : rLen K [.ref a] H Q := ⟨a, xs, rfl, .inl h, q⟩
theorem rd_lenT {K : PySem.W.Frag} {a : Addr} {xs : List V} (h : SqT K H a xs) (q : Q (.int xs.length) H) : rLen K [.ref a] H Q := ⟨a, xs, rfl, .inr h, q⟩
theorem rd_listL {K : PySem.W.Frag} {a : Addr} {xs : List V} (h : SqL K H a xs) (q : ∀ l, H l = none → Q (.ref l) (upd H l (.lst xs))) : rLst K [.ref a] H Q := ⟨a, xs, rfl, .inl h, q⟩
theorem rd_listT {K : PySem.W.Frag} {a : Addr} {xs : List V} (h : SqT K H a xs) (q : ∀ l, H l = none → Q (.ref l) (upd H l (.lst xs))) : rLst K [.ref a] H Q := ⟨a, xs, rfl, .inr h, q⟩
theorem rd_tupL {K : PySem.W.Frag} {a : Addr} {xs : List V} (h : SqL K H a xs) (q : ∀ l, H l = none → Q (.ref l) (upd H l (.tup xs))) : rTpl K [.ref a] H Q := ⟨a, xs, rfl, .inl ⟨h, q⟩⟩
theorem rd_cat {a b : Addr} {xs ys : List V} (h1 : H a = some (.lst xs)) (h2 : H b = some (.lst ys)) (hz : xs.length + ys.length ≤ sizeLine) (q : ∀ p, H p = none → Q (.ref p) (upd H p (.lst (xs ++ ys)))) : rCat (.ref a) (.ref b) H Q := ⟨a, b, xs, ys, rfl, rfl, h1, h2, hz, q⟩
theorem rd_rep {a : Addr} {xs : List V} {k : Int} (h1 : H a = some (.lst xs)) (hk : -(2 ^ 63) ≤ k ∧ k < 2 ^ 63) (hz : xs.length * k.toNat ≤ sizeLine) (q : ∀ p, H p = none → Q (.ref p) (upd H p (.lst (List.replicate k.toNat xs).flatten))) : rRep (.ref a) (.int k) H Q := ⟨a, k, xs, rfl, rfl, h1, hk.1, hk.2, hz, q⟩
theorem rd_rev {K : PySem.W.Frag} (h : te σ H fun x H1 => rRev K x H1 Q) : tRev K te σ H Q := h
theorem rd_revL {K : PySem.W.Frag} {a : Addr} {xs : List V} (h : SqL K H a xs) (q : ∀ p, H p = none → Q (.ref p) (upd H p (.lst xs.reverse))) : rRev K (.ref a) H Q := ⟨a, xs, rfl, h, q⟩
theorem rd_sl {r : V → Option Int → Option Int → Hp → VK → Prop} {tl th : TO} (h : te σ H fun x H1 => tl σ H1 fun l H2 => th σ H2 fun u H3 => r x l u H3 Q) : tSl r te tl th σ H Q := h
theorem rd_part {P : Option Int → Hp → Prop} (h : te σ H fun x H1 => ∃ i, x = .int i ∧ P (some i) H1) : tPart te σ H P := h
theorem rd_nopart {P : Option Int → Hp → Prop} (h : P none H) : tNoPart σ H P := h
theorem rd_int {c : Int} {P : Int → Prop} (h : P c) : ∃ k, V.int c = .int k ∧ P k := ⟨c, rfl, h⟩
theorem rd_slL {K : PySem.W.Frag} {a : Addr} {xs : List V} {lo hi : Option Int} (h : SqL K H a xs) (q : ∀ p, H p = none → Q (.ref p) (upd H p (.lst (cutV xs lo hi)))) : rSlL K (.ref a) lo hi H Q := ⟨a, xs, rfl, h, q⟩
theorem rd_isi {K : PySem.W.Frag} {x c : V} {t cv : Value} {b : Bool} (hc : clsV c = some cv) (ty : TyOf K H x t) (e : PySem.W.kitOne K t cv = some b) (q : Q (.bl b) H) : rIsi K [x, c] H Q := ⟨x, c, t, cv, b, rfl, hc, ty, e, q⟩
theorem rd_iList {K : PySem.W.Frag} {R : It → Hp → Prop} (h : te σ H fun x H1 => ∃ a, x = .ref a ∧ (∃ xs, SqL K H1 a xs) ∧ R (Itl K a) H1) : iList K te σ H R := h
theorem rd_iListA {K : PySem.W.Frag} {a : Addr} {xs : List V} {P : Addr → Prop} (h : SqL K H a xs) (q : P a) : ∃ b, V.ref a = .ref b ∧ (∃ xs, SqL K H b xs) ∧ P b := ⟨a, rfl, ⟨xs, h⟩, q⟩
theorem rd_iTup {K : PySem.W.Frag} {R : It → Hp → Prop} (h : te σ H fun x H1 => ∃ a, x = .ref a ∧ (∃ xs, SqT K H1 a xs) ∧ R (Itt K a) H1) : iTup K te σ H R := h
theorem rd_iTupA {K : PySem.W.Frag} {a : Addr} {xs : List V} {P : Addr → Prop} (h : SqT K H a xs) (q : P a) : ∃ b, V.ref a = .ref b ∧ (∃ xs, SqT K H b xs) ∧ P b := ⟨a, rfl, ⟨xs, h⟩, q⟩
theorem rd_iRng1 {R : It → Hp → Prop} {A : TA} (h : A σ H fun vs H1 => ∃ j : Int, vs = [.int j] ∧ -(2 ^ 62) ≤ j ∧ j < 2 ^ 62 ∧ R (Itr 0 j.toNat) H1) : iRng1 A σ H R := h
theorem rd_rng1 {P : Int → Prop} (h1 : -(2 ^ 62) ≤ i ∧ i < 2 ^ 62) (q : P i) : ∃ j : Int, [V.int i] = [.int j] ∧ -(2 ^ 62) ≤ j ∧ j < 2 ^ 62 ∧ P j := ⟨i, rfl, h1.1, h1.2, q⟩
theorem rd_for {wi : TI} {g : TG} {tb : TS} {D : Ends} (h : wi σ H fun J H1 => ∃ W : Nat → Nat → St → Hp → Prop, (∃ m, W 0 m σ H1) ∧ ∀ i m σ H, W i m σ H →
  (J.stop i H ∧ D.nx σ H) ∨ (J.go i H ∧ ∃ N : St → Hp → Prop, (∀ σ' H', N σ' H' → ∃ m', m' < m ∧ W (i + 1) m' σ' H') ∧ ∀ x H', J.yld i H x H' → g x σ H' fun σ2 H2 => tb { D with nx := N, ct := N, bk := D.nx } σ2 H2)) : tFor wi g tb D σ H := h
theorem rd_comp {cap : List (Option Nat)} {wi : TI} {g : TG} {tt : TT} (h : wi σ H fun J H1 => ∀ D, H1 D = none → CompW J g tt te D (capS cap σ) (upd H1 D (.lst [])) fun H2 => Q (.ref D) H2) : tComp cap wi g tt te σ H Q := h
theorem rd_all {P : Bool → Hp → Prop} (h : P true H) : tAll σ H P := h
end
end L2
end
section
set_option linter.all false
set_option maxRecDepth 100000
namespace L2
open PySem PySem.Spec PyProof.Rows
/-! ### the turns of a comprehension -/
theorem compW_range {lo : Int} {n : Nat} {g : TG} {tt : TT} {te : TE} {D : Addr} {σ : St} {H : Hp} {Qe : Hp → Prop} (Pv : Nat → St → Hp → Prop) (h0 : Pv 0 σ H)
    (hs : ∀ i σ H, i < n → Pv i σ H → g (.int (lo + i)) σ H fun σ2 H2 => tt σ2 H2 fun b H3 => if b = true then te σ2 H3 fun y H4 => ∃ xs, H4 D = some (.lst xs) ∧ xs.length < sizeLine ∧ Pv (i + 1) σ2 (upd H4 D (.lst (xs ++ [y]))) else Pv (i + 1) σ2 H3)
    (hd : ∀ σ H, Pv n σ H → Qe H) : CompW (Itr lo n) g tt te D σ H Qe := by
  refine ⟨fun i m σ H => m = n - i ∧ i ≤ n ∧ Pv i σ H, ⟨n, by simp, Nat.zero_le _, h0⟩, ?_⟩
  rintro i m σ H ⟨rfl, hi, p⟩
  by_cases hlt : i < n
  · refine .inr ⟨hlt, Pv (i + 1), fun σ' H' p' => ⟨n - (i + 1), by omega, rfl, hlt, p'⟩, fun x H' y => ?_⟩
    obtain ⟨e, y⟩ := y
    subst e y
    exact hs i σ _ hlt p
  · have e : i = n := by omega
    subst e
    exact .inl ⟨Nat.le_refl _, hd σ H p⟩
theorem compW_list {K : PySem.W.Frag} {a : Addr} {xs : List V} {g : TG} {tt : TT} {te : TE} {D : Addr} {σ : St} {H : Hp} {Qe : Hp → Prop} (Pv : Nat → St → Hp → Prop) (h0 : Pv 0 σ H) (hl : ∀ i σ H, i ≤ xs.length → Pv i σ H → SqL K H a xs)
    (hs : ∀ i x σ H, xs[i]? = some x → Pv i σ H → g x σ H fun σ2 H2 => tt σ2 H2 fun b H3 => if b = true then te σ2 H3 fun y H4 => ∃ xs, H4 D = some (.lst xs) ∧ xs.length < sizeLine ∧ Pv (i + 1) σ2 (upd H4 D (.lst (xs ++ [y]))) else Pv (i + 1) σ2 H3)
    (hd : ∀ σ H, Pv xs.length σ H → Qe H) : CompW (Itl K a) g tt te D σ H Qe := by
  refine ⟨fun i m σ H => m = xs.length - i ∧ i ≤ xs.length ∧ Pv i σ H, ⟨xs.length, by simp, Nat.zero_le _, h0⟩, ?_⟩
  rintro i m σ H ⟨rfl, hi, p⟩
  have q := hl i σ H hi p
  by_cases hlt : i < xs.length
  · refine .inr ⟨⟨xs, xs[i], q, by simp [hlt]⟩, Pv (i + 1), fun σ' H' p' => ⟨xs.length - (i + 1), by omega, rfl, hlt, p'⟩, fun x H' y => ?_⟩
    obtain ⟨e, y⟩ := y
    subst e
    exact hs i x σ _ (y xs q) p
  · have e : i = xs.length := by omega
    subst e
    exact .inl ⟨⟨xs, q, Nat.le_refl _⟩, hd σ H p⟩
theorem compW_tup {K : PySem.W.Frag} {a : Addr} {xs : List V} {g : TG} {tt : TT} {te : TE} {D : Addr} {σ : St} {H : Hp} {Qe : Hp → Prop} (Pv : Nat → St → Hp → Prop) (h0 : Pv 0 σ H) (hl : ∀ i σ H, i ≤ xs.length → Pv i σ H → SqT K H a xs)
    (hs : ∀ i x σ H, xs[i]? = some x → Pv i σ H → g x σ H fun σ2 H2 => tt σ2 H2 fun b H3 => if b = true then te σ2 H3 fun y H4 => ∃ xs, H4 D = some (.lst xs) ∧ xs.length < sizeLine ∧ Pv (i + 1) σ2 (upd H4 D (.lst (xs ++ [y]))) else Pv (i + 1) σ2 H3)
    (hd : ∀ σ H, Pv xs.length σ H → Qe H) : CompW (Itt K a) g tt te D σ H Qe := by
  refine ⟨fun i m σ H => m = xs.length - i ∧ i ≤ xs.length ∧ Pv i σ H, ⟨xs.length, by simp, Nat.zero_le _, h0⟩, ?_⟩
  rintro i m σ H ⟨rfl, hi, p⟩
  have q := hl i σ H hi p
  by_cases hlt : i < xs.length
  · refine .inr ⟨⟨xs, xs[i], q, by simp [hlt]⟩, Pv (i + 1), fun σ' H' p' => ⟨xs.length - (i + 1), by omega, rfl, hlt, p'⟩, fun x H' y => ?_⟩
    obtain ⟨e, y⟩ := y
    subst e
    exact hs i x σ _ (y xs q) p
  · have e : i = xs.length := by omega
    subst e
    exact .inl ⟨⟨xs, q, Nat.le_refl _⟩, hd σ H p⟩

/-! ### what the top has made -/
section
variable {K : PySem.W.Frag} {h : Heap} {mg : Str → Option Value}
theorem tx_mk {x : Str} {st : Stmt} {ps : List Str} {f : Addr} {oc kV doc pm cd ct : Value} {od an : Option Addr} {sl : Array (Option Value)} (X : K.In h) (G : h.Ns mainGlobals mg)
    (a : PySem.W.nsIn K mainGlobals x = some (some (.ref f))) (l : K.lookup f = some ⟨oc, od, .func (PySem.W.fnOf x x (defArgs st) (defBody st) (defScope st) .none kV doc pm an cd ct), sl⟩)
    (c : PySem.W.codeIn K cd x = true) (k : PySem.W.keepIn K (.ref f) = true)
    (hb : ∀ (us : List Value), us.length = ps.length → bindArgs (PySem.W.fnOf x x (defArgs st) (defBody st) (defScope st) .none kV doc pm an cd ct) ⟨us, []⟩ = pure (ps.zip us)) : Tx K mg x st ps [[]] :=
  ⟨.none, f, _, ⟨⟨oc, od, kV, doc, pm, an, cd, ct, sl, rfl, l, c⟩, k⟩, PySem.W.mg_of X G a, fun dvs hd => by
    have e : dvs = [] := by simpa using hd
    subst e
    exact ⟨[], .all hb, .nil⟩⟩
/-- the last parameter has a written int as its default -/
theorem tx_mkD {x : Str} {st : Stmt} {ps : List Str} {f Tt : Addr} {oc kV doc pm cd ct oc' : Value} {od an od' : Option Addr} {sl sl' : Array (Option Value)} {i : Int} {tk : Tok} {n : Nat} (X : K.In h) (G : h.Ns mainGlobals mg)
    (a : PySem.W.nsIn K mainGlobals x = some (some (.ref f))) (l : K.lookup f = some ⟨oc, od, .func (PySem.W.fnOf x x (defArgs st) (defBody st) (defScope st) (.ref Tt) kV doc pm an cd ct), sl⟩)
    (d : K.lookup Tt = some ⟨oc', od', .seq #[.int i tk] n, sl'⟩) (c : PySem.W.codeIn K cd x = true) (k : PySem.W.keepIn K (.ref f) = true)
    (hb : ∀ (s : Shared) (us : List Value), K.In s.heap → us.length = ps.length → BindsTo s (PySem.W.fnOf x x (defArgs st) (defBody st) (defScope st) (.ref Tt) kV doc pm an cd ct) ⟨us, []⟩ (ps.zip us))
    (hb2 : ∀ (s : Shared) (us : List Value), K.In s.heap → us.length + 1 = ps.length → BindsTo s (PySem.W.fnOf x x (defArgs st) (defBody st) (defScope st) (.ref Tt) kV doc pm an cd ct) ⟨us, []⟩ (ps.zip (us ++ [.int i tk]))) : Tx K mg x st ps [[], [.int i]] :=
  ⟨.ref Tt, f, _, ⟨⟨oc, od, kV, doc, pm, an, cd, ct, sl, rfl, l, c⟩, k⟩, PySem.W.mg_of X G a, fun dvs hd => by
    rcases List.mem_cons.mp hd with e | hd
    · subst e
      exact ⟨[], fun s us KX hl => by rw [List.append_nil] at hl ⊢; exact hb s us KX hl, .nil⟩
    · have e : dvs = [.int i] := by simpa using hd
      subst e
      exact ⟨[.int i tk], fun s us KX hl => hb2 s us KX (by simpa using hl), .cons ⟨tk, rfl⟩ .nil⟩⟩
theorem cst_mk {x : Str} {i : Int} {t : Tok} (X : K.In h) (G : h.Ns mainGlobals mg) (a : PySem.W.nsIn K mainGlobals x = some (some (.int i t))) : ∃ t, mg x = some (.int i t) := ⟨t, PySem.W.mg_of X G a⟩
end
end L2
end
section
set_option linter.all false
namespace L2
open PySem PySem.Spec PyProof.Rows
theorem kit_int_int {K : PySem.W.Frag} : PySem.W.kitOne K (.type "int") (.type "int") = some true := rfl
theorem kit_list_list {K : PySem.W.Frag} : PySem.W.kitOne K (.type "list") (.type "list") = some true := rfl
theorem kit_tuple_tuple {K : PySem.W.Frag} : PySem.W.kitOne K (.type "tuple") (.type "tuple") = some true := rfl
theorem kit_str_str {K : PySem.W.Frag} : PySem.W.kitOne K (.type "str") (.type "str") = some true := rfl
theorem kit_int_bool {K : PySem.W.Frag} : PySem.W.kitOne K (.type "int") (.type "bool") = some false :=
  (by decide +kernel : (if (Value.type "int" == Value.type "bool") = true then some true else if PySem.W.kitMeta "bool" = true then (fastBuiltinMro "int").map (·.contains (Value.type "bool")) else none) = some false)
theorem rd_eqD {α : Type} [DecidableEq α] {f : α → PyData} {n : Nat} {K : PySem.W.Frag} {H : Hp} {x y : V} {a b : α} {Q : VK} (E : Enc f n) (h1 : Rep K H x (f a)) (h2 : Rep K H y (f b)) (q : Q (.bl (decide (a = b))) H) (hn : n ≤ 32 := by decide) : rEqD K x y H Q :=
  ⟨_, _, h1, h2, E.ok hn a, E.ok hn b, by rw [E.dec]; exact q⟩
theorem rd_neD {α : Type} [DecidableEq α] {f : α → PyData} {n : Nat} {K : PySem.W.Frag} {H : Hp} {x y : V} {a b : α} {Q : VK} (E : Enc f n) (h1 : Rep K H x (f a)) (h2 : Rep K H y (f b)) (q : Q (.bl (!decide (a = b))) H) (hn : n ≤ 32 := by decide) : rNeD K x y H Q :=
  ⟨_, _, h1, h2, E.ok hn a, E.ok hn b, by rw [E.dec]; exact q⟩
theorem iteD {c A B : Prop} [Decidable c] (hc : c) (h : A) : if decide c = true then A else B := by
  rw [decide_eq_true hc]
  exact iteT h
theorem iteN {c A B : Prop} [Decidable c] (hc : ¬ c) (h : B) : if decide c = true then A else B := by
  rw [decide_eq_false hc]
  exact iteF h
theorem Rep.ints {K : PySem.W.Frag} {H : Hp} {a : Addr} {ns : List Int} (h : SqL K H a (ns.map V.int)) : Rep K H (.ref a) (PyData.list (ns.map PyData.int)) := .lst h (Reps.ints ns)
theorem Rep.tints {K : PySem.W.Frag} {H : Hp} {a : Addr} {ns : List Int} (h : SqT K H a (ns.map V.int)) : Rep K H (.ref a) (PyData.tuple (ns.map PyData.int)) := .tup h (Reps.ints ns)
theorem rep_int (k : Nat) (i : Int) : (List.replicate k [V.int i]).flatten = (List.replicate k i).map V.int := by
  induction k with
  | zero => rfl
  | succ k ih => rw [List.replicate_succ, List.flatten_cons, ih, List.replicate_succ]; rfl
end L2
end

section
set_option Elab.async false
set_option linter.all false
set_option maxRecDepth 100000
set_option maxHeartbeats 4000000
namespace L2
open PySem PySem.Spec PyProof.Rows
section
variable {K : PySem.W.Frag} {H H' : Hp} {v x : V} {Q : VK} {k i : Int} {d : PyData} {ds : List PyData}
theorem Rep.int_inv (h : Rep K H v (.int i)) : v = .int i := by cases h; rfl
theorem Rep.list_inv (h : Rep K H v (.list ds)) : ∃ a xs, v = .ref a ∧ SqL K H a xs ∧ Reps K H xs ds := by
  cases h with
  | lst h r => exact ⟨_, _, rfl, h, r⟩
theorem Rep.tuple_inv (h : Rep K H v (.tuple ds)) : ∃ a xs, v = .ref a ∧ SqT K H a xs ∧ Reps K H xs ds := by
  cases h with
  | tup h r => exact ⟨_, _, rfl, h, r⟩
theorem Reps.ints_inv : ∀ {ns : List Int} {xs : List V}, Reps K H xs (ns.map PyData.int) → xs = ns.map V.int
  | [], _, .nil => rfl
  | n :: ns, _, .cons r rs => by rw [r.int_inv, Reps.ints_inv rs]; rfl
theorem atI_of {α : Type} {xs : List α} {y : α} (h0 : 0 ≤ k) (h : xs[k.toNat]? = some y) : atI xs k = some y := by
  obtain ⟨j, rfl⟩ : ∃ j : Nat, k = j := ⟨k.toNat, by omega⟩
  exact atI_nat (by simpa using h)
theorem rd_ixRL (h : Rep K H x (.list ds)) (h0 : 0 ≤ k) (e : ds[k.toNat]? = some d) (q : ∀ v, Rep K H v d → Q v H) : rIxL K x (.int k) H Q := by
  obtain ⟨a, xs, rfl, h1, h2⟩ := h.list_inv
  obtain ⟨v, h3, h4⟩ := h2.get e
  exact ⟨a, xs, k, v, rfl, rfl, h1, atI_of h0 h3, q v h4⟩
theorem rd_ixRT (h : Rep K H x (.tuple ds)) (h0 : 0 ≤ k) (e : ds[k.toNat]? = some d) (q : ∀ v, Rep K H v d → Q v H) : rIxT K x (.int k) H Q := by
  obtain ⟨a, xs, rfl, h1, h2⟩ := h.tuple_inv
  obtain ⟨v, h3, h4⟩ := h2.get e
  exact ⟨a, xs, k, v, rfl, rfl, h1, atI_of h0 h3, q v h4⟩
theorem rd_ixRLi (h : Rep K H x (.list ds)) (h0 : 0 ≤ k) (e : ds[k.toNat]? = some (.int i)) (q : Q (.int i) H) : rIxL K x (.int k) H Q := rd_ixRL h h0 e fun v r => by rw [r.int_inv]; exact q
theorem rd_ixRTi (h : Rep K H x (.tuple ds)) (h0 : 0 ≤ k) (e : ds[k.toNat]? = some (.int i)) (q : Q (.int i) H) : rIxT K x (.int k) H Q := rd_ixRT h h0 e fun v r => by rw [r.int_inv]; exact q
theorem rd_lenRL (h : Rep K H x (.list ds)) (q : Q (.int ds.length) H) : rLen K [x] H Q := by
  obtain ⟨a, xs, rfl, h1, h2⟩ := h.list_inv
  exact ⟨a, xs, rfl, .inl h1, by rw [h2.length]; exact q⟩
theorem rd_lenRT (h : Rep K H x (.tuple ds)) (q : Q (.int ds.length) H) : rLen K [x] H Q := by
  obtain ⟨a, xs, rfl, h1, h2⟩ := h.tuple_inv
  exact ⟨a, xs, rfl, .inr h1, by rw [h2.length]; exact q⟩
theorem rd_tupRL (h : Rep K H x (.list ds)) (q : ∀ v H', H' = H' → Same H H' → Rep K H' v (.tuple ds) → (∃ p xs, v = .ref p ∧ H p = none ∧ H' = upd H p (.tup xs)) → Q v H') : rTpl K [x] H Q := by
  obtain ⟨a, xs, rfl, h1, h2⟩ := h.list_inv
  exact ⟨a, xs, rfl, .inl ⟨h1, fun l hl => q _ _ rfl (same_new hl) (.tup (.inl (.inl upd_same)) (h2.same (same_new hl))) ⟨l, xs, rfl, hl, rfl⟩⟩⟩
theorem rd_listRL (h : Rep K H x (.list ds)) (q : ∀ p xs, H p = none → Reps K H xs ds → Q (.ref p) (upd H p (.lst xs))) : rLst K [x] H Q := by
  obtain ⟨a, xs, rfl, h1, h2⟩ := h.list_inv
  exact ⟨a, xs, rfl, .inl h1, fun l hl => q l xs hl h2⟩

/-! ### a list that is written: tuples and numbers stay -/
mutual
def noLst : PyData → Bool
  | .none => true
  | .bool _ => true
  | .int _ => true
  | .str _ => true
  | .list _ => false
  | .tuple ds => noLsts ds
  | .dict _ => false
def noLsts : List PyData → Bool
  | [] => true
  | d :: ds => noLst d && noLsts ds
end
theorem SqT.updL {D a : Addr} {xs ys : List V} {o : HO} (hD : H D = some (.lst ys)) (h : SqT K H a xs) : SqT K (upd H D o) a xs := by
  rcases h with (h | ⟨ob, h⟩) | h
  · refine .inl (.inl ?_)
    rw [upd_ne (ne_of h hD (by intro z; cases z))]
    exact h
  · refine .inl (.inr ⟨ob, ?_⟩)
    rw [upd_ne (ne_of h hD (by intro z; cases z))]
    exact h
  · exact .inr h
mutual
theorem Rep.updL {D : Addr} {ys : List V} {o : HO} (hD : H D = some (.lst ys)) : ∀ {v : V} {d : PyData}, noLst d = true → Rep K H v d → Rep K (upd H D o) v d
  | _, _, _, .non => .non
  | _, _, _, .bl b => .bl b
  | _, _, _, .int i => .int i
  | _, _, _, .str x => .str x
  | _, _, hn, .lst h rs => by simp [noLst] at hn
  | _, _, hn, .tup h rs => .tup (h.updL hD) (Reps.updL hD (by simpa [noLst] using hn) rs)
theorem Reps.updL {D : Addr} {ys : List V} {o : HO} (hD : H D = some (.lst ys)) : ∀ {vs : List V} {ds : List PyData}, noLsts ds = true → Reps K H vs ds → Reps K (upd H D o) vs ds
  | _, _, _, .nil => .nil
  | _, _, hn, .cons r rs => by
    simp only [noLsts, Bool.and_eq_true] at hn
    exact .cons (Rep.updL hD hn.1 r) (Reps.updL hD hn.2 rs)
end
theorem noLsts_ints : ∀ ns : List Int, noLsts (ns.map PyData.int) = true
  | [] => rfl
  | n :: ns => by simp [noLsts, noLst, noLsts_ints ns]
theorem noLsts_map {α : Type} {f : α → PyData} (h : ∀ a, noLst (f a) = true) : ∀ xs : List α, noLsts (xs.map f) = true
  | [] => rfl
  | x :: xs => by simp [noLsts, h x, noLsts_map h xs]
/-- what is new may be written -/
theorem Same.updF {D : Addr} {o : HO} (s : Same H H') (hD : H D = none) : Same H (upd H' D o) := fun b u e => by rw [upd_ne (ne_of_none e hD)]; exact s b u e

/-! ### lists of lists of ints that may be written -/
structure RowsAt (H : Hp) (r : Addr) (ps : List Addr) (rows : List (List Int)) : Prop where
  l : H r = some (.lst (ps.map .ref))
  p : Paired (fun (p : Addr) (row : List Int) => H p = some (.lst (row.map V.int))) ps rows
  nd : ps.Nodup
  nr : r ∉ ps
def dI (ns : List Int) : PyData := .list (ns.map .int)
def tI (ns : List Int) : PyData := .tuple (ns.map .int)
def dRows (rows : List (List Int)) : PyData := .list (rows.map dI)
def tRows (rows : List (List Int)) : PyData := .tuple (rows.map tI)
/-- a machine of lists, a machine of tuples -/
def dMach (rows : List (List Int)) (signs : List Int) : PyData := .tuple [dRows rows, dI signs]
def tMach (rows : List (List Int)) (signs : List Int) : PyData := .tuple [tRows rows, tI signs]
theorem paired_reps {ps : List Addr} {rows : List (List Int)} (h : Paired (fun (p : Addr) (row : List Int) => H p = some (.lst (row.map V.int))) ps rows) : Reps K H (ps.map .ref) (rows.map dI) := by
  induction h with
  | nil => exact .nil
  | cons h _ ih => exact .cons (.lst (SqL.of h) (Reps.ints _)) ih
theorem RowsAt.rep {r : Addr} {ps : List Addr} {rows : List (List Int)} (h : RowsAt H r ps rows) : Rep K H (.ref r) (dRows rows) := .lst (SqL.of h.l) (paired_reps h.p)
theorem paired_same {ps : List Addr} {rows : List (List Int)} (s : ∀ p ∈ ps, ∀ o, H p = some o → H' p = some o) (h : Paired (fun (p : Addr) (row : List Int) => H p = some (.lst (row.map V.int))) ps rows) : Paired (fun (p : Addr) (row : List Int) => H' p = some (.lst (row.map V.int))) ps rows := by
  induction h with
  | nil => exact .nil
  | cons h t ih => exact .cons (s _ (.head _) _ h) (ih fun p hp => s p (.tail _ hp))
theorem RowsAt.same {r : Addr} {ps : List Addr} {rows : List (List Int)} (s : Same H H') (h : RowsAt H r ps rows) : RowsAt H' r ps rows := ⟨s _ _ h.l, paired_same (fun p _ o e => s p o e) h.p, h.nd, h.nr⟩
theorem paired_mem {α β : Type} {F : α → β → Prop} : ∀ {xs : List α} {ys : List β} {x : α}, Paired F xs ys → x ∈ xs → ∃ y, F x y
  | _, _, _, .cons h _, .head _ => ⟨_, h⟩
  | _, _, _, .cons _ t, .tail _ m => paired_mem t m
theorem ne_of_mem {a b : Addr} {ps : List Addr} (ha : a ∈ ps) (hb : b ∉ ps) : a ≠ b := fun z => by subst z; exact hb ha
/-- a row more -/
theorem RowsAt.snoc {r p : Addr} {ps : List Addr} {rows : List (List Int)} {row : List Int} (h : RowsAt H r ps rows) (hp : H p = some (.lst (row.map V.int))) (hn : p ∉ ps) (hr : p ≠ r) :
    RowsAt (upd H r (.lst (ps.map V.ref ++ [.ref p]))) r (ps ++ [p]) (rows ++ [row]) := by
  refine ⟨by rw [upd_same, List.map_append]; rfl, ?_, ?_, ?_⟩
  · refine Paired.snoc (paired_same (fun q hq o e => ?_) h.p) ?_
    · rw [upd_ne (ne_of_mem hq h.nr)]; exact e
    · rw [upd_ne hr]; exact hp
  · rw [List.nodup_append]
    refine ⟨h.nd, by simp, fun a ha b hb => ?_⟩
    have : b = p := by simpa using hb
    rw [this]
    exact ne_of_mem ha hn
  · intro z
    rcases List.mem_append.mp z with z | z
    · exact h.nr z
    · have : r = p := by simpa using z
      exact hr this.symm
theorem paired_setAt {p : Addr} {row' : List Int} : ∀ {ps : List Addr} {rows : List (List Int)} {j : Nat}, Paired (fun (p : Addr) (row : List Int) => H p = some (.lst (row.map V.int))) ps rows → ps[j]? = some p → ps.Nodup →
    Paired (fun (q : Addr) (row : List Int) => upd H p (.lst (row'.map V.int)) q = some (.lst (row.map V.int))) ps (rows.set j row')
  | _, _, _, .nil, e, _ => by simp at e
  | a :: ps, _, 0, .cons h t, e, nd => by
    have e : a = p := by simpa using e
    subst e
    refine .cons upd_same (paired_same (fun q hq o z => ?_) t)
    rw [upd_ne (ne_of_mem hq (List.nodup_cons.mp nd).1)]
    exact z
  | a :: ps, _, j + 1, .cons h t, e, nd => by
    have hj : ps[j]? = some p := by simpa using e
    refine .cons ?_ (paired_setAt t hj (List.nodup_cons.mp nd).2)
    rw [upd_ne (ne_of_mem (List.mem_of_getElem? hj) (List.nodup_cons.mp nd).1).symm]
    exact h
/-- a row is written -/
theorem RowsAt.set {r p : Addr} {ps : List Addr} {rows : List (List Int)} {j : Nat} {row' : List Int} (h : RowsAt H r ps rows) (hj : ps[j]? = some p) : RowsAt (upd H p (.lst (row'.map V.int))) r ps (rows.set j row') :=
  ⟨by rw [upd_ne (ne_of_mem (List.mem_of_getElem? hj) h.nr).symm]; exact h.l, paired_setAt h.p hj h.nd, h.nd, h.nr⟩
theorem paired_at {α β : Type} {F : α → β → Prop} : ∀ {xs : List α} {ys : List β} {i : Nat} {y : β}, Paired F xs ys → ys[i]? = some y → ∃ x, xs[i]? = some x ∧ F x y
  | _, _, _, _, .nil, e => by simp at e
  | _, _, 0, _, .cons h _, e => by simp at e; subst e; exact ⟨_, rfl, h⟩
  | _, _, i + 1, _, .cons _ t, e => by
    obtain ⟨x, h1, h2⟩ := paired_at (i := i) t (by simpa using e)
    exact ⟨x, by simpa using h1, h2⟩
theorem RowsAt.at {r : Addr} {ps : List Addr} {rows : List (List Int)} {j : Nat} {row : List Int} (h : RowsAt H r ps rows) (e : rows[j]? = some row) : ∃ p, ps[j]? = some p ∧ H p = some (.lst (row.map V.int)) := paired_at (F := fun (p : Addr) (row : List Int) => H p = some (.lst (row.map V.int))) h.p e
/-- xs[i] = v -/
theorem rd_set {Qs : Hp → Prop} {p : Addr} {xs : List V} {j : Nat} (h : H p = some (.lst xs)) (h0 : 0 ≤ k) (hj : k.toNat = j) (hl : j < xs.length) (q : Qs (upd H p (.lst (xs.set j v)))) : rSetL (.ref p) (.int k) v H Qs := by
  refine ⟨p, xs, k, j, rfl, rfl, h, ?_, q⟩
  unfold ixN
  rw [if_pos h0, if_pos (by omega), hj]
end
/-! ### machines, by numbers -/
def mix (c k m : Int) : Int := ((c % 1000003 + 1) * 48271 + (k * k + 3) * 69621) % 1000033 * (k + 7) / 5 % m
def rowOf (c R : Int) (L : Nat) (r : Nat) : List Int := (List.range L).map fun (k : Nat) => mix c (64 * (r : Int) + (k : Int)) R
def rows0 (c R : Int) (n L : Nat) : List (List Int) := (List.range n).map (rowOf c R L)
def rowsOf (c : Int) (n L : Nat) : List (List Int) := (rows0 c n n L).set 0 ((rowOf c n L 0).set 0 0)
def signsOf (c m : Int) (n : Nat) : List Int := (List.range n).map fun (r : Nat) => mix (c / 7) (8 * (r : Int) + 1) m
/-- n rooms, L letters, and each next one a room -/
structure Good (rows : List (List Int)) (n L : Nat) : Prop where
  len : rows.length = n
  row : ∀ r ∈ rows, r.length = L
  nxt : ∀ r ∈ rows, ∀ x ∈ r, 0 ≤ x ∧ x < n
def step (rows : List (List Int)) (r l : Int) : Int := (rows.getD r.toNat []).getD l.toNat 0
def run (rows : List (List Int)) (ls : List Int) : Int := ls.foldl (step rows) 0
theorem mix_range {c k m : Int} (hm : 0 < m) : 0 ≤ mix c k m ∧ mix c k m < m := ⟨Int.emod_nonneg _ (by omega), Int.emod_lt_of_pos _ hm⟩
theorem Good.rowsOf {c : Int} {n L : Nat} (hn : 0 < n) : Good (rowsOf c n L) n L := by
  have h0 : ∀ r x, x ∈ rowOf c n L r → 0 ≤ x ∧ x < (n : Int) := fun r x hx => by
    obtain ⟨k, _, rfl⟩ := List.mem_map.mp hx
    exact mix_range (by omega)
  have hl : ∀ r, (rowOf c n L r).length = L := fun r => by unfold rowOf; rw [List.length_map, List.length_range]
  have hm : ∀ row ∈ L2.rowsOf c n L, (∃ r, row = rowOf c n L r) ∨ row = (rowOf c n L 0).set 0 0 := fun row hr => by
    rcases List.mem_or_eq_of_mem_set hr with z | z
    · obtain ⟨r, _, rfl⟩ := List.mem_map.mp z
      exact .inl ⟨r, rfl⟩
    · exact .inr z
  refine ⟨by unfold L2.rowsOf rows0; rw [List.length_set, List.length_map, List.length_range], fun row hr => ?_, fun row hr x hx => ?_⟩
  · rcases hm row hr with ⟨r, rfl⟩ | rfl
    · exact hl r
    · rw [List.length_set]; exact hl 0
  · rcases hm row hr with ⟨r, rfl⟩ | rfl
    · exact h0 r x hx
    · rcases List.mem_or_eq_of_mem_set hx with z | z
      · exact h0 0 x z
      · rw [z]; omega
theorem Good.step {rows : List (List Int)} {n L : Nat} {r l : Int} (g : Good rows n L) (h0 : 0 ≤ r) (h1 : r < n) (l0 : 0 ≤ l) (l1 : l < L) :
    ∃ row, rows[r.toNat]? = some row ∧ row[l.toNat]? = some (step rows r l) ∧ 0 ≤ step rows r l ∧ step rows r l < n := by
  have hr : r.toNat < rows.length := by rw [g.len]; omega
  refine ⟨rows[r.toNat], List.getElem?_eq_getElem hr, ?_⟩
  have hm : rows[r.toNat] ∈ rows := List.getElem_mem hr
  have hl : l.toNat < rows[r.toNat].length := by rw [g.row _ hm]; omega
  have e : L2.step rows r l = rows[r.toNat][l.toNat] := by
    unfold L2.step
    have e1 : rows.getD r.toNat [] = rows[r.toNat] := by rw [List.getD_eq_getElem?_getD, List.getElem?_eq_getElem hr]; rfl
    rw [e1, List.getD_eq_getElem?_getD, List.getElem?_eq_getElem hl]
    rfl
  rw [e]
  exact ⟨List.getElem?_eq_getElem hl, g.nxt _ hm _ (List.getElem_mem hl)⟩
theorem run_snoc (rows : List (List Int)) (ls : List Int) (l : Int) : run rows (ls ++ [l]) = step rows (run rows ls) l := by
  unfold run
  rw [List.foldl_append]
  rfl
theorem Good.run {rows : List (List Int)} {n L : Nat} (g : Good rows n L) (hn : 0 < n) : ∀ (ls : List Int), (∀ l ∈ ls, 0 ≤ l ∧ l < L) → 0 ≤ run rows ls ∧ run rows ls < n := by
  have gen : ∀ (ls : List Int) (r : Int), 0 ≤ r → r < n → (∀ l ∈ ls, 0 ≤ l ∧ l < L) → 0 ≤ ls.foldl (L2.step rows) r ∧ ls.foldl (L2.step rows) r < n := by
    intro ls
    induction ls with
    | nil => exact fun r h0 h1 _ => ⟨h0, h1⟩
    | cons l ls ih =>
      intro r h0 h1 hl
      obtain ⟨row, _, _, q0, q1⟩ := g.step h0 h1 (hl l (.head _)).1 (hl l (.head _)).2
      exact ih _ q0 q1 fun x hx => hl x (.tail _ hx)
  exact fun ls hl => gen ls 0 (by omega) (by omega) hl
theorem run_zeros {rows : List (List Int)} (h : step rows 0 0 = 0) (k : Nat) (ls : List Int) : run rows (List.replicate k 0 ++ ls) = run rows ls := by
  unfold run
  rw [List.foldl_append]
  have : ∀ k : Nat, (List.replicate k (0 : Int)).foldl (L2.step rows) 0 = 0 := by
    intro k
    induction k with
    | zero => rfl
    | succ k ih => rw [List.replicate_succ, List.foldl_cons, h]; exact ih
  rw [this]
theorem rowsOf_front {c : Int} {n L : Nat} (hn : 0 < n) (hL : 0 < L) : step (rowsOf c n L) 0 0 = 0 := by
  unfold step rowsOf rows0
  have e : ((List.range n).map (rowOf c n L)).length = n := by rw [List.length_map, List.length_range]
  have e1 : (((List.range n).map (rowOf c n L)).set 0 ((rowOf c n L 0).set 0 0)).getD (0 : Int).toNat [] = (rowOf c n L 0).set 0 0 := by
    show (((List.range n).map (rowOf c n L)).set 0 ((rowOf c n L 0).set 0 0)).getD 0 [] = _
    rw [List.getD_eq_getElem?_getD, List.getElem?_set_self (by rw [e]; exact hn)]
    rfl
  rw [e1]
  show ((rowOf c n L 0).set 0 0).getD 0 0 = 0
  rw [List.getD_eq_getElem?_getD, List.getElem?_set_self (by unfold rowOf; rw [List.length_map, List.length_range]; exact hL)]
  rfl
end L2
end

section
set_option Elab.async false
set_option linter.all false
set_option maxRecDepth 100000
set_option maxHeartbeats 4000000
namespace L2
open PySem PySem.Spec PyProof.Rows
/-! ### figures -/
def lig (b : Int) : Nat → Int → List Int
  | 0, _ => []
  | f + 1, n => if 0 < n then (n % b) :: lig b f (n / b) else []
theorem div_lt {b n : Int} (hb : 2 ≤ b) (hb' : b ≤ 5) (hn : 0 < n) : 0 ≤ n / b ∧ n / b < n ∧ 2 * (n / b) ≤ n := by
  have : b = 2 ∨ b = 3 ∨ b = 4 ∨ b = 5 := by omega
  rcases this with rfl | rfl | rfl | rfl <;> omega
theorem lig_eq {b : Int} (hb : 2 ≤ b) (hb' : b ≤ 5) : ∀ (f g : Nat) (n : Int), n.toNat ≤ f → n.toNat ≤ g → lig b f n = lig b g n
  | 0, 0, _, _, _ => rfl
  | 0, g + 1, n, h, _ => by
    have : ¬ 0 < n := by omega
    simp only [lig, if_neg this]
  | f + 1, 0, n, _, h => by
    have : ¬ 0 < n := by omega
    simp only [lig, if_neg this]
  | f + 1, g + 1, n, h1, h2 => by
    by_cases h : 0 < n
    · simp only [lig, if_pos h]
      have := div_lt hb hb' h
      rw [lig_eq hb hb' f g (n / b) (by omega) (by omega)]
    · simp only [lig, if_neg h]
/-- the figures, the last one first -/
def dig (b n : Int) : List Int := lig b n.toNat n
theorem dig_pos {b n : Int} (hb : 2 ≤ b) (hb' : b ≤ 5) (h : 0 < n) : dig b n = n % b :: dig b (n / b) := by
  unfold dig
  obtain ⟨k, hk⟩ : ∃ k, n.toNat = k + 1 := ⟨n.toNat - 1, by omega⟩
  have := div_lt hb hb' h
  rw [hk, lig, if_pos h, lig_eq hb hb' k (n / b).toNat (n / b) (by omega) (Nat.le_refl _)]
theorem dig_zero {b n : Int} (h : ¬ 0 < n) : dig b n = [] := by
  unfold dig
  have : n.toNat = 0 := by omega
  rw [this, lig]
def figs (b n : Int) : List Int := (dig b n).reverse
def num (b : Int) (ds : List Int) : Int := ds.foldl (fun a d => a * b + d) 0
theorem num_snoc (b : Int) (ds : List Int) (d : Int) : num b (ds ++ [d]) = num b ds * b + d := by
  unfold num
  rw [List.foldl_append]
  rfl
theorem num_rev {b : Int} (hb : 2 ≤ b) (hb' : b ≤ 5) : ∀ (f : Nat) (n : Int), 0 ≤ n → n.toNat ≤ f → num b (figs b n) = n
  | f, n, h0, hf => by
    by_cases h : 0 < n
    · match f, hf with
      | 0, hf => omega
      | f + 1, hf =>
        have := div_lt hb hb' h
        unfold figs
        rw [dig_pos hb hb' h, List.reverse_cons, num_snoc]
        have ih := num_rev hb hb' f (n / b) (by omega) (by omega)
        unfold figs at ih
        rw [ih]
        exact Int.mul_comm (n / b) b ▸ Int.mul_ediv_add_emod n b
    · unfold figs
      rw [dig_zero h]
      show (0 : Int) = n
      omega
theorem num_figs {b n : Int} (hb : 2 ≤ b) (hb' : b ≤ 5) (h0 : 0 ≤ n) : num b (figs b n) = n := num_rev hb hb' _ n h0 (Nat.le_refl _)
theorem foldl_zeros (b : Int) : ∀ k : Nat, (List.replicate k (0 : Int)).foldl (fun a d => a * b + d) 0 = 0
  | 0 => rfl
  | k + 1 => by
    rw [List.replicate_succ, List.foldl_cons]
    have : (0 : Int) * b + 0 = 0 := by omega
    rw [this]
    exact foldl_zeros b k
theorem num_zeros (b : Int) (k : Nat) (ds : List Int) : num b (List.replicate k 0 ++ ds) = num b ds := by
  unfold num
  rw [List.foldl_append, foldl_zeros]
/-- where the loop stands -/
def Lig (b n : Int) (ds : List Int) (r : Int) : Prop := 0 ≤ r ∧ ds ++ dig b r = dig b n ∧ ∃ k, r.toNat < 2 ^ k ∧ ds.length + k = 900
theorem Lig.start {b n : Int} (h0 : 0 ≤ n) (h1 : n.toNat < 2 ^ 900) : Lig b n [] n := ⟨h0, rfl, 900, h1, rfl⟩
theorem Lig.step {b n r : Int} {ds : List Int} (hb : 2 ≤ b) (hb' : b ≤ 5) (L : Lig b n ds r) (h : 0 < r) : Lig b n (ds ++ [r % b]) (r / b) ∧ ds.length < 900 ∧ (r / b).toNat < r.toNat := by
  obtain ⟨h0, h1, k, h2, h3⟩ := L
  have hd := div_lt hb hb' h
  match k, h2, h3 with
  | 0, h2, _ => simp at h2; omega
  | k + 1, h2, h3 =>
    rw [Nat.pow_succ] at h2
    refine ⟨⟨hd.1, ?_, k, by omega, by simp; omega⟩, by omega, by omega⟩
    rw [List.append_assoc, ← h1, dig_pos hb hb' h]
    rfl
theorem Lig.done {b n r : Int} {ds : List Int} (L : Lig b n ds r) (h : ¬ 0 < r) : ds = dig b n ∧ ds.length ≤ 900 := by
  obtain ⟨h0, h1, k, h2, h3⟩ := L
  rw [dig_zero h, List.append_nil] at h1
  exact ⟨h1, by omega⟩
theorem dig_len {b n : Int} (hb : 2 ≤ b) (hb' : b ≤ 5) : ∀ (k : Nat) (n : Int), n.toNat < 2 ^ k → (dig b n).length ≤ k
  | 0, n, h => by
    rw [dig_zero (by simp at h; omega)]
    exact Nat.le_refl _
  | k + 1, n, h => by
    by_cases hn : 0 < n
    · rw [dig_pos hb hb' hn, List.length_cons]
      have hd := div_lt hb hb' hn
      rw [Nat.pow_succ] at h
      have := dig_len (n := n) hb hb' k (n / b) (by omega)
      omega
    · rw [dig_zero hn]
      exact Nat.zero_le _
/-! ### the script -/
def cat (ns : List Int) (k : Int) : Int := if k < ns.length then ns.getD k.toNat 0 else 0
def sprd (ns : List Int) (k : Int) : Int := (cat ns k % 1000000007 * 48271 + (k + 3) * (k + 5) * 69621) % 2147483647 * 16807 % 2147483629
theorem sprd_range (ns : List Int) (k : Int) : 0 ≤ sprd ns k ∧ sprd ns k < 2147483629 := ⟨Int.emod_nonneg _ (by decide), Int.emod_lt_of_pos _ (by decide)⟩
theorem map_snoc (ds : List Int) (d : Int) : ds.map V.int ++ [V.int d] = (ds ++ [d]).map V.int := by rw [List.map_append]; rfl
theorem atI_ints {ns : List Int} {k : Int} (h0 : 0 ≤ k) (h1 : k < ns.length) : atI (ns.map V.int) k = some (.int (ns.getD k.toNat 0)) := by
  obtain ⟨j, rfl⟩ : ∃ j : Nat, k = j := ⟨k.toNat, by omega⟩
  refine atI_nat ?_
  have hj : j < ns.length := by omega
  rw [List.getElem?_map, List.getElem?_eq_getElem hj]
  show some (V.int ns[j]) = some (V.int (ns.getD j 0))
  rw [List.getD_eq_getElem?_getD, List.getElem?_eq_getElem hj]
  rfl
theorem small {n : Nat} (h : n ≤ 1000) : n ≤ sizeLine := Nat.le_of_lt (small1000 h)
end L2
end

section
set_option Elab.async false
set_option linter.all false
set_option maxRecDepth 100000
set_option maxHeartbeats 4000000
namespace L2
open PySem PySem.Spec PyProof.Rows
/-! ### the rules that lean on the written part, K by name -/
section
variable {X : Cx} {K : PySem.W.Frag}
theorem call_lenK (h : X.K = K) : CallR X (.builtin "len") (rLen K) := h ▸ call_lenS
theorem call_listK (h : X.K = K) : CallR X (.type "list") (rLst K) := h ▸ call_listS
theorem call_tupK (h : X.K = K) : CallR X (.type "tuple") (rTpl K) := h ▸ call_tupS
theorem call_isiK (h : X.K = K) : CallR X (.builtin "isinstance") (rIsi K) := h ▸ call_isiS
theorem ix_listK (h : X.K = K) : IxR X (rIxL K) := h ▸ ix_list
theorem ix_tupK (h : X.K = K) : IxR X (rIxT K) := h ▸ ix_tup
theorem sl_listK (h : X.K = K) : SlR X (rSlL K) := h ▸ sl_list
theorem sl_tupK (h : X.K = K) : SlR X (rSlT K) := h ▸ sl_tup
theorem op_catTK (h : X.K = K) : OpR X (binaryOp .Add) (rCatT K) := h ▸ op_catT
theorem op_eqDK (h : X.K = K) (hu : X.A.units + 64 < cLine) : OpR X (compareOp .Eq) (rEqD K) := h ▸ op_eqD hu
theorem op_neDK (h : X.K = K) (hu : X.A.units + 64 < cLine) : OpR X (compareOp .NotEq) (rNeD K) := h ▸ op_neD hu
theorem op_in_seqK (h : X.K = K) : OpR X (compareOp .In) (rIn K false) := h ▸ op_in_seq
theorem op_notIn_seqK (h : X.K = K) : OpR X (compareOp .NotIn) (rIn K true) := h ▸ op_notIn_seq
theorem pi_listK {tg l : Expr} {tl : TE} (h : X.K = K) (hl : PE X l tl) : PI X tg l (iList K tl) := h ▸ pi_list hl
theorem pi_tupK {tg l : Expr} {tl : TE} (h : X.K = K) (hl : PE X l tl) : PI X tg l (iTup K tl) := h ▸ pi_tup hl
theorem pe_revK {e : Expr} {te : TE} {j : Nat} {p1 p2 p3 pos : Pos} (h : X.K = K) (he : PE X e te) : PE X (.Subscript e (.Slice none none (some (.UnaryOp .USub (.Constant (.int 1) j p1) p2)) p3) pos) (tRev K te) := h ▸ pe_rev he
theorem pg_tupK {es : List Expr} {k : Nat} {t : TGs} {n : Nat} {pos : Pos} (h : X.K = K) (hc : X.calm = true) (hg : PGs X es t) (hn : (assignEach es X.env).length = n := by rfl) (hst : (assignEach es X.env).findIdx? (·.1) = none := by rfl) : PG X (.Tuple es k pos) (gTup K n t) := h ▸ pg_tup hc hg hn hst
variable {o e : Expr} {es : List Expr} {to : TE} {t : TA} {name : Str} {apos cpos : Pos} {T id : String} {r : V → List V → Hp → VK → Prop}
theorem pe_bm0K (h : X.K = K) (pa : PlainAttrs T) (slot : Slot T name id) (hty : typeOf (.builtin id) = pure (.type "method_descriptor")) (hm : MtR X id r) (ho : PE X o to)
    (hbase : attributeBase o name X.env (eval o X.env) = eval o X.env := by rfl) (hline : (apos.endLine == cpos.line) = true := by rfl) : PE X (.Call (.Attribute o name apos) [] [] cpos) (tBM0 K T r to) := h ▸ pe_bm0 pa slot hty hm ho hbase hline
theorem pe_bmK (h : X.K = K) (pa : PlainAttrs T) (slot : Slot T name id) (hty : typeOf (.builtin id) = pure (.type "method_descriptor")) (hm : MtR X id r) (ho : PE X o to) (ha : PA X (e :: es) t)
    (hbase : attributeBase o name X.env (eval o X.env) = eval o X.env := by rfl)
    (hfew : ((backTo cpos (starEach (e :: es) X.env)).all (fun x => !x.1) && (backToKw cpos (keywordEach [] X.env)).all (fun x => x.1.isSome)
      && decide ((e :: es).length + ([] : List Keyword).length + (if ([] : List Keyword).isEmpty then 0 else 1) < 30)) = true := by rfl)
    (hline : (apos.endLine == cpos.line) = true := by rfl) (hs : starEach (e :: es) X.env = (false, eval e X.env) :: starEach es X.env := by rfl) (hplain : (backTo cpos (starEach es X.env)).any (·.1) = false := by rfl) :
    PE X (.Call (.Attribute o name apos) (e :: es) [] cpos) (tBM K T r to t) := h ▸ pe_bm pa slot hty hm ho ha hbase hfew hline hs hplain
end
theorem rd_gsub {to ti : TE} {t : TSet} {v : V} {σ : St} {H : Hp} {Qg : St → Hp → Prop} (h : to σ H fun o H1 => ti σ H1 fun i H2 => t o i v H2 fun H3 => Qg σ H3) : gSub to ti t v σ H Qg := h
theorem rd_gtup {K : PySem.W.Frag} {n : Nat} {t : TGs} {a : Addr} {xs : List V} {σ : St} {H : Hp} {Qg : St → Hp → Prop} (h : SqT K H a xs) (hn : xs.length = n) (q : t xs σ H Qg) : gTup K n t (.ref a) σ H Qg := ⟨a, xs, rfl, h, hn, q⟩
theorem rd_gnil {σ : St} {H : Hp} {Qg : St → Hp → Prop} (q : Qg σ H) : gNil [] σ H Qg := ⟨rfl, q⟩
theorem rd_gcons {t : TG} {u : TGs} {v : V} {r : List V} {σ : St} {H : Hp} {Qg : St → Hp → Prop} (q : t v σ H fun σ' H' => u r σ' H' Qg) : gCons t u (v :: r) σ H Qg := ⟨v, r, rfl, q⟩
/-! ### two ways that meet: G is found by the first way's end -/
theorem join_by {α : Type} {A B c : Prop} [Decidable c] {p : α → Prop} (a b : α) (pa : c → p a) (pb : ¬ c → p b) (G : α → Prop) (hA : c → G a → A) (hB : ¬ c → G b → B) (h : ∀ n, p n → G n) : if c then A else B :=
  ite2 (fun z => hA z (h a (pa z))) fun z => hB z (h b (pb z))
end L2
end

section
set_option Elab.async false
set_option linter.all false
set_option maxRecDepth 100000
set_option maxHeartbeats 4000000
namespace L2
open PySem PySem.Spec PyProof.Rows
/-! ### for i, x in enumerate(xs) -/
def Ite (K : PySem.W.Frag) (a : Addr) : It :=
  ⟨fun i H => ∃ xs x, SqL K H a xs ∧ xs[i]? = some x,
   fun i H v H' => ∃ p x, H p = none ∧ v = .ref p ∧ H' = upd H p (.tup [.int i, x]) ∧ ∀ xs, SqL K H a xs → xs[i]? = some x,
   fun i H => ∃ xs, SqL K H a xs ∧ xs.length ≤ i⟩
/-- the records at e and it have turned, a new tuple stands at the heap's end -/
theorem Inv.enumed {X : Cx} {pins : List (Addr × Obj)} {σ : St} {H : Hp} {s : Shared} {h' : Heap} {t' : Nat} {e it : Addr} {xs : List V} {us : List Value} (I : Inv X pins σ H s)
    (fe : FpOk X pins H e) (fi : FpOk X pins H it) (k : ∀ b o, b ≠ e → b ≠ it → s.heap.get? b = some o → h'.get? b = some o)
    (ht : h'.get? s.heap.objs.size = some { cls := .type "tuple", data := .seq us.toArray }) (hv : Vals xs us) (hz : xs.length ≤ sizeLine) :
    Inv X pins σ (upd H s.heap.objs.size (.tup xs)) { s with heap := h', toks := t' } := by
  have hp : H s.heap.objs.size = none := I.hok.fresh (Nat.le_refl _)
  have ne : ∀ b o, s.heap.get? b = some o → b ≠ s.heap.objs.size := fun b o q => Nat.ne_of_lt (Heap.lt_size q)
  have nt : ∀ b u, H b = some u → b ≠ e ∧ b ≠ it := fun b u q => ⟨(ne_of_none q fe.1), (ne_of_none q fi.1)⟩
  have np : ∀ b u, H b = some u → b ≠ s.heap.objs.size := fun b u q => ne_of_none q hp
  refine I.step (g' := s.gens) (d' := s.drawn) (ch := [e, it]) (fun b hb => ?_) (fun b o _ _ hc q _ => k b o (fun z => hc (by simp [z])) (fun z => hc (by simp [z])) q)
    (fun b o _ _ hc q _ => ⟨o.slots, k b o (fun z => hc (by simp [z])) (fun z => hc (by simp [z])) q⟩) (fun b o _ q n => by rw [upd_ne (ne b o q)]; exact n)
    (fun b o hc q => ⟨o, k b o (fun z => hc (by simp [z])) (fun z => hc (by simp [z])) q⟩) (fun b ys q => by rw [upd_ne (np b _ q)]; exact q) (fun b o u q => by rw [upd_ne (np b _ q)]; exact q)
    (fun b ps q => ⟨#[], by rw [upd_ne (np b _ q), q]; simp⟩) (fun m hm => ?_) (fun b u q => ?_) I.bare
  · have hb : b = e ∨ b = it := by simpa using hb
    rcases hb with rfl | rfl
    · exact ⟨fe.2.2.2.1, fe.2.1, fe.2.2.2.2.1, fe.2.2.2.2.2⟩
    · exact ⟨fi.2.2.2.1, fi.2.1, fi.2.2.2.2.1, fi.2.2.2.2.2⟩
  · obtain ⟨o, es, ep, ho, r⟩ := hm
    exact ⟨o, es, ep, k _ o (Ne.symm fe.2.1) (Ne.symm fi.2.1) ho, r⟩
  · by_cases hb : b = s.heap.objs.size
    · subst hb
      rw [upd_same] at q
      cases q
      exact ⟨hz, us, hv, ⟨_, ht, rfl, _, rfl⟩⟩
    · rw [upd_ne hb] at q
      refine (I.hok b u q).stay (fun c v hc r => ?_) (fun c r => by rw [upd_ne (np c _ r)]; exact r) fun c ys r => by rw [upd_ne (np c _ r)]; exact r
      rcases hc with z | z
      · rw [z] at r ⊢; exact k _ _ (nt b u q).1 (nt b u q).2 r
      · exact k _ _ (nt c _ z).1 (nt c _ z).2 r
theorem turn_enum {P : Program} {w : World} {K : PySem.W.Frag} {es : List Expr} {x1} {tp : Pos} (a e it : Addr) (hne : e ≠ it) : Turn P w K (.Tuple es x1 tp) (Ite K a) [e, it] e (fun i h => (∃ old, IsEnum h e it i old) ∧ h.IsListIter it a i) where
  mem := by simp
  obj := fun i h st b hb => by
    obtain ⟨⟨old, he⟩, o, hi, hc, hd⟩ := st
    have hb : b = e ∨ b = it := by simpa using hb
    rcases hb with rfl | rfl
    · exact ⟨_, he, fun v z => by cases (show Data.fields _ = Data.cell v from z)⟩
    · exact ⟨o, hi, fun v z => by rw [hd] at z; cases z⟩
  keep := fun i h h' st k => by
    obtain ⟨⟨old, he⟩, hi⟩ := st
    exact ⟨⟨old, k e (by simp) _ he⟩, hi.at fun o q => k it (by simp) o q⟩
  item := by
    intro X hP hw hK hc i pins s σ H E I hf st hg
    subst hP hw hK
    obtain ⟨xs, x, hq, hx⟩ := hg
    obtain ⟨⟨old, he⟩, hi⟩ := st
    obtain ⟨its, rv, p, hz⟩ := I.list hq
    obtain ⟨u, hu, ru⟩ := rv.get hx
    refine wpAny_pyNext_enum_item he hi p.isList (x := u) (by simpa using hu) hne fun h' ho hi' ht hsz k => ?_
    refine ⟨_, rfl, wpAny_letOwnedTupleGo_enum ho fun h2 he2 hs2 => ?_⟩
    have fe := hf e (by simp)
    have fi := hf it (by simp)
    have I1 : Inv X pins σ (upd H s.heap.objs.size (.tup [.int i, x])) { s with heap := h', toks := s.toks + 1 } := I.enumed fe fi k ht (.cons ⟨_, rfl⟩ (.cons ru .nil)) (by show 2 ≤ sizeLine; decide)
    have he1 : e ≠ s.heap.objs.size := Nat.ne_of_lt (Heap.lt_size he)
    have hi1 : it ≠ s.heap.objs.size := by obtain ⟨_, q, _⟩ := hi; exact Nat.ne_of_lt (Heap.lt_size q)
    have I2 := I1.turned (h' := h2) (t' := s.toks + 1) (it := e) (fun b o hb q => (hs2.2 b hb).trans q) (by rw [upd_ne he1]; exact fe.1) fe.2.1 fe.2.2.2.1 fe.2.2.2.2.1 fe.2.2.2.2.2
    refine ⟨.ref s.heap.objs.size, _, I2, rfl, ⟨s.heap.objs.size, x, I.hok.fresh (Nat.le_refl _), rfl, rfl, fun ys hy => by rw [I.list_inj hy hq]; exact hx⟩, ⟨⟨u, by simpa using he2⟩, hi'.at fun o q => (hs2.2 it hne.symm).trans q⟩, fun b hb => ?_⟩
    have hb : b = e ∨ b = it := by simpa using hb
    rcases hb with rfl | rfl
    · rw [upd_ne he1]; exact fe.1
    · rw [upd_ne hi1]; exact fi.1
  done := by
    intro X hP hw hK hc i pins s σ H E I hf st hg
    subst hP hw hK
    obtain ⟨xs, hq, hx⟩ := hg
    obtain ⟨⟨old, he⟩, hi⟩ := st
    obtain ⟨its, rv, p, hz⟩ := I.list hq
    obtain ⟨f0, f1, f2, f3, f4, f5⟩ := hf it (by simp)
    have hl := rv.length
    exact wpAny_pyNext_enum_end (I.ok.hd hc) he hi p.isList (by simp; omega) fun h' eb => ⟨rfl, I.turned (t' := s.toks) (fun b o hb e => eb b o hb e) f0 f1 f3 f4 f5⟩
  self := fun _ _ _ _ _ st h => by
    obtain ⟨⟨old, he⟩, _⟩ := st
    exact wpAny_pyIter_enum he h
def iEnum (K : PySem.W.Frag) (ta : TA) : TI := fun σ H R => ta σ H fun vs H1 => ∃ a, vs = [.ref a] ∧ (∃ xs, SqL K H1 a xs) ∧ R (Ite K a) H1
theorem pi_enumK {X : Cx} {K : PySem.W.Frag} {a : Expr} {ta : TA} {es : List Expr} {x1} {tp p pos : Pos} (hK : X.K = K) (hg : Gl X "enumerate") (hm : X.mg "enumerate" = none) (ha : PA X [a] ta) (hs : starEach [a] X.env = [(false, eval a X.env)] := by rfl) :
    PI X (.Tuple es x1 tp) (.Call (.Name "enumerate" p) [a] [] pos) (iEnum K ta) := by
  subst hK
  intro pins s σ H R I h
  refine Call_ (ld_blt I hg hm PyProof.Rows.boot_enumerate (PyProof.Rows.callWith_type1 (thn (ha pos pins s σ H _ I h) fun us s1 h1 => ?_) hs rfl))
  obtain ⟨vs, H1, I1, r1, a, e, ⟨xs, hq⟩, q⟩ := h1
  subst e
  cases r1 with
  | cons r rr =>
    cases rr
    cases (show _ = Value.ref a from r)
    obtain ⟨its, rv, p, hz⟩ := I1.list hq
    refine call_enumerate_list p.isList fun h' he hi hsz k => ?_
    refine wpAny_pyIter_enum he ?_
    have I2 : Inv X pins σ H1 { s1 with heap := h' } := I1.kept (t' := s1.toks) k
    refine ⟨_, [s1.heap.objs.size + 1, s1.heap.objs.size], _, Ite X.K a, H1, rfl, I2, turn_enum a _ _ (Nat.ne_of_gt (Nat.lt_succ_self _)), ⟨⟨_, he⟩, hi⟩, fun b hb => ?_, q⟩
    have hb : b = s1.heap.objs.size + 1 ∨ b = s1.heap.objs.size := by simpa using hb
    rcases hb with rfl | rfl
    · exact I1.fpOk (Nat.le_succ _) (I1.hok.fresh (Nat.le_succ _))
    · exact I1.fpOk (Nat.le_refl _) (I1.hok.fresh (Nat.le_refl _))
theorem rd_iEnum {K : PySem.W.Frag} {σ : St} {H : Hp} {R : It → Hp → Prop} {A : TA} (h : A σ H fun vs H1 => ∃ a, vs = [.ref a] ∧ (∃ xs, SqL K H1 a xs) ∧ R (Ite K a) H1) : iEnum K A σ H R := h
theorem rd_iEnumA {K : PySem.W.Frag} {H : Hp} {a : Addr} {xs : List V} {P : Addr → Prop} (h : SqL K H a xs) (q : P a) : ∃ b, [V.ref a] = [.ref b] ∧ (∃ xs, SqL K H b xs) ∧ P b := ⟨a, rfl, ⟨xs, h⟩, q⟩
theorem for_enum {K : PySem.W.Frag} {a : Addr} {xs : List V} {g : TG} {tb : TS} {D : Ends} {σ : St} {H : Hp} (Pv : Nat → St → Hp → Prop) (h0 : Pv 0 σ H) (hl : ∀ i σ H, i ≤ xs.length → Pv i σ H → SqL K H a xs)
    (hs : ∀ i x p σ H, xs[i]? = some x → H p = none → Pv i σ H → g (.ref p) σ (upd H p (.tup [.int i, x])) fun σ2 H2 => tb { D with nx := Pv (i + 1), ct := Pv (i + 1), bk := D.nx } σ2 H2) (hd : ∀ σ H, Pv xs.length σ H → D.nx σ H) :
    ∃ W : Nat → Nat → St → Hp → Prop, (∃ m, W 0 m σ H) ∧ ∀ i m σ H, W i m σ H →
      ((Ite K a).stop i H ∧ D.nx σ H) ∨ ((Ite K a).go i H ∧ ∃ N : St → Hp → Prop, (∀ σ' H', N σ' H' → ∃ m', m' < m ∧ W (i + 1) m' σ' H') ∧ ∀ x H', (Ite K a).yld i H x H' → g x σ H' fun σ2 H2 => tb { D with nx := N, ct := N, bk := D.nx } σ2 H2) := by
  refine ⟨fun i m σ H => m = xs.length - i ∧ i ≤ xs.length ∧ Pv i σ H, ⟨xs.length, by simp, Nat.zero_le _, h0⟩, ?_⟩
  rintro i m σ H ⟨rfl, hi, p⟩
  have q := hl i σ H hi p
  by_cases hlt : i < xs.length
  · refine .inr ⟨⟨xs, xs[i], q, by simp [hlt]⟩, Pv (i + 1), fun σ' H' p' => ⟨xs.length - (i + 1), by omega, rfl, hlt, p'⟩, fun x H' y => ?_⟩
    obtain ⟨t, x, ht, rfl, rfl, y⟩ := y
    exact hs i x t σ _ (y xs q) ht p
  · have e : i = xs.length := by omega
    subst e
    exact .inl ⟨⟨xs, q, Nat.le_refl _⟩, hd σ H p⟩
end L2
end

section
set_option Elab.async false
set_option linter.all false
set_option maxRecDepth 100000
set_option maxHeartbeats 4000000
namespace L2
open PySem PySem.Spec PyProof.Rows
/-! ### isinstance over data -/
def tyD : PyData → String
  | .none => "NoneType"
  | .bool _ => "bool"
  | .int _ => "int"
  | .str _ => "str"
  | .list _ => "list"
  | .tuple _ => "tuple"
  | .dict _ => "dict"
def rIsiD (K : PySem.W.Frag) : List V → Hp → VK → Prop := fun xs H Q => ∃ x c d cv b, xs = [x, c] ∧ clsV c = some cv ∧ Rep K H x d ∧ PySem.W.kitOne K (.type (tyD d)) cv = some b ∧ Q (.bl b) H
theorem call_isiD {X : Cx} : CallR X (.builtin "isinstance") (rIsiD X.K) := by
  intro pins s σ H xs us Q I r h
  obtain ⟨x, c, d, cv, b, rfl, hc, hd, e, q⟩ := h
  obtain ⟨u, w', rfl, rx, r2⟩ := vals2 r
  rw [clsV_rel hc r2]
  have fin : ∀ tk, EP X pins σ Q (.bool b) { s with toks := tk } := fun tk => ⟨.bl b, H, I.tok tk, rfl, q⟩
  cases hd with
  | non => cases (show u = Value.none from rx); exact PySem.W.kia_one PySem.W.kitx_none I.kIn True.intro e (fun z => nomatch z) fin
  | bl y => cases (show u = Value.bool y from rx); exact PySem.W.kia_one PySem.W.kitx_bool I.kIn True.intro e (fun z => nomatch z) fin
  | int i => obtain ⟨t, q'⟩ := (show ∃ t, u = Value.int i t from rx); cases q'; exact PySem.W.kia_one PySem.W.kitx_int I.kIn True.intro e (fun z => nomatch z) fin
  | str y => obtain ⟨t, q'⟩ := (show ∃ t, u = Value.str y t from rx); cases q'; exact PySem.W.kia_one PySem.W.kitx_str I.kIn True.intro e (fun z => nomatch z) fin
  | @lst a ys ds h1 h2 =>
    cases (show u = Value.ref a from rx)
    obtain ⟨its, rv, p, _⟩ := I.list h1
    obtain ⟨o, k1, k2, _⟩ := p.isList
    exact PySem.W.kia_one PySem.W.kitx_list I.kIn ⟨o, k1, k2⟩ e (fun z => nomatch z) fin
  | @tup a ys ds h1 h2 =>
    cases (show u = Value.ref a from rx)
    obtain ⟨its, rv, p, _⟩ := I.tuple h1
    obtain ⟨o, k1, k2, _⟩ := p
    exact PySem.W.kia_one PySem.W.kitx_tuple I.kIn ⟨o, k1, k2⟩ e (fun z => nomatch z) fin
def rIsi2 (K : PySem.W.Frag) : List V → Hp → VK → Prop := fun xs H Q => rIsi K xs H Q ∨ rIsiD K xs H Q
theorem call_isi2K {X : Cx} {K : PySem.W.Frag} (h : X.K = K) : CallR X (.builtin "isinstance") (rIsi2 K) := h ▸ CallR.or call_isiS call_isiD
theorem rd_isi2 {K : PySem.W.Frag} {H : Hp} {Q : VK} {x c : V} {t cv : Value} {b : Bool} (hc : clsV c = some cv) (ty : TyOf K H x t) (e : PySem.W.kitOne K t cv = some b) (q : Q (.bl b) H) : rIsi2 K [x, c] H Q := .inl (rd_isi hc ty e q)
theorem rd_isiD {K : PySem.W.Frag} {H : Hp} {Q : VK} {x c : V} {d : PyData} {cv : Value} {b : Bool} (hd : Rep K H x d) (hc : clsV c = some cv) (e : PySem.W.kitOne K (.type (tyD d)) cv = some b) (q : Q (.bl b) H) : rIsi2 K [x, c] H Q := .inr ⟨x, c, d, cv, b, rfl, hc, hd, e, q⟩
/-- t + u -/
theorem rd_catT {K : PySem.W.Frag} {H : Hp} {Q : VK} {x y : V} {ds es : List PyData} (h1 : Rep K H x (.tuple ds)) (h2 : Rep K H y (.tuple es)) (n1 : ds ≠ []) (n2 : es ≠ []) (hz : ds.length + es.length ≤ 1000) (q : ∀ v H', Same H H' → Rep K H' v (.tuple (ds ++ es)) → Q v H') : rCatT K x y H Q := by
  obtain ⟨a, xs, rfl, k1, k2⟩ := h1.tuple_inv
  obtain ⟨b, ys, rfl, k3, k4⟩ := h2.tuple_inv
  have l1 := k2.length
  have l2 := k4.length
  have e1 : xs ≠ [] := fun z => n1 (List.length_eq_zero_iff.mp (by rw [← l1, z]; rfl))
  have e2 : ys ≠ [] := fun z => n2 (List.length_eq_zero_iff.mp (by rw [← l2, z]; rfl))
  exact ⟨a, b, xs, ys, rfl, rfl, k1, k3, e1, small (by omega), fun z => absurd z e2, fun _ p hp => q _ _ (same_new hp) (.tup (SqT.of upd_same) ((k2.append k4).same (same_new hp)))⟩
theorem rd_iTupR {K : PySem.W.Frag} {H : Hp} {x : V} {ds : List PyData} {P : Addr → Prop} (h : Rep K H x (.tuple ds)) (q : ∀ a xs, x = .ref a → SqT K H a xs → Reps K H xs ds → P a) : ∃ b, x = .ref b ∧ (∃ xs, SqT K H b xs) ∧ P b := by
  obtain ⟨a, xs, rfl, k1, k2⟩ := h.tuple_inv
  exact ⟨a, rfl, ⟨xs, k1⟩, q a xs rfl k1 k2⟩
theorem rd_iListR {K : PySem.W.Frag} {H : Hp} {x : V} {ds : List PyData} {P : Addr → Prop} (h : Rep K H x (.list ds)) (q : ∀ a xs, x = .ref a → SqL K H a xs → Reps K H xs ds → P a) : ∃ b, x = .ref b ∧ (∃ xs, SqL K H b xs) ∧ P b := by
  obtain ⟨a, xs, rfl, k1, k2⟩ := h.list_inv
  exact ⟨a, rfl, ⟨xs, k1⟩, q a xs rfl k1 k2⟩
theorem Reps.at {K : PySem.W.Frag} {H : Hp} : ∀ {vs : List V} {ds : List PyData} {i : Nat} {x : V}, Reps K H vs ds → vs[i]? = some x → ∃ d, ds[i]? = some d ∧ Rep K H x d
  | _, _, i, x, .nil, e => by simp at e
  | _, _, 0, x, .cons r _, e => by simp at e; subst e; exact ⟨_, rfl, r⟩
  | _, _, i + 1, x, .cons _ rs, e => by
    obtain ⟨d, h1, h2⟩ := Reps.at (i := i) rs (by simpa using e)
    exact ⟨d, by simpa using h1, h2⟩
/-- what comes behind an if, by a name -/
theorem if_nx {b : Bool} {t u : TS} {nx bk ct : St → Hp → Prop} {rt : VK} {σ : St} {H : Hp} (h : ∀ nx', nx = nx' → if b = true then t ⟨nx', rt, bk, ct⟩ σ H else u ⟨nx', rt, bk, ct⟩ σ H) : if b = true then t ⟨nx, rt, bk, ct⟩ σ H else u ⟨nx, rt, bk, ct⟩ σ H := h nx rfl
theorem Enc.mono {α : Type} {f : α → PyData} {n m : Nat} (E : Enc f n) (h : n ≤ m) : Enc f m := ⟨E.eqv, E.lay, fun a => Nat.le_trans (E.dep a) h⟩
theorem noMach (rows : List (List Int)) (signs : List Int) : noLst (tMach rows signs) = true := by
  have h : noLsts (rows.map tI) = true := noLsts_map (fun a => by simp [tI, noLst, noLsts_ints]) rows
  simp [tMach, tRows, tI, noLst, noLsts, noLsts_ints, h]
end L2
end

section
set_option Elab.async false
set_option linter.all false
set_option maxRecDepth 100000
set_option maxHeartbeats 4000000
namespace VL
open PySem PySem.Spec L2

/-! ### values without a heap: what may be shared, and lists that one place alone holds -/
inductive AV where
  | d (x : PyData)
  | own (xs : List AV)
/-- a value on the way: kept or new; borrowed (good while nothing is written); any other value -/
inductive TV where
  | av (a : AV)
  | bor (x : PyData)
  | raw (v : V)
abbrev Sl := List (Option AV)
abbrev Fp := Addr → Nat
mutual
def AV.data : AV → PyData
  | .d x => x
  | .own xs => .list (AV.datas xs)
def AV.datas : List AV → List PyData
  | [] => []
  | x :: xs => x.data :: AV.datas xs
end
theorem AV.datas_map : ∀ xs : List AV, AV.datas xs = xs.map AV.data
  | [] => rfl
  | x :: xs => by rw [AV.datas, AV.datas_map xs]; rfl
/- G: what is not held by one place alone; H: all -/
mutual
inductive RA (K : PySem.W.Frag) (G H : Hp) : V → AV → Fp → Prop
  | d {v : V} {x : PyData} {p : Fp} : Rep K G v x → (∀ b, p b = 0) → RA K G H v (.d x) p
  | own {a : Addr} {vs : List V} {xs : List AV} {p q : Fp} : H a = some (.lst vs) → RAs K G H vs xs p → (∀ b, q b = (if b = a then 1 else 0) + p b) → RA K G H (.ref a) (.own xs) q
inductive RAs (K : PySem.W.Frag) (G H : Hp) : List V → List AV → Fp → Prop
  | nil {p : Fp} : (∀ b, p b = 0) → RAs K G H [] [] p
  | cons {v : V} {x : AV} {vs : List V} {xs : List AV} {p q r : Fp} : RA K G H v x p → RAs K G H vs xs q → (∀ b, r b = p b + q b) → RAs K G H (v :: vs) (x :: xs) r
end
inductive RSl (K : PySem.W.Frag) (G H : Hp) : St → Sl → Fp → Prop
  | nil {p : Fp} : (∀ b, p b = 0) → RSl K G H [] [] p
  | no {o : Option V} {σ : St} {ρ : Sl} {p : Fp} : RSl K G H σ ρ p → RSl K G H (o :: σ) (none :: ρ) p
  | so {v : V} {a : AV} {σ : St} {ρ : Sl} {p q r : Fp} : RA K G H v a p → RSl K G H σ ρ q → (∀ b, r b = p b + q b) → RSl K G H (some v :: σ) (some a :: ρ) r
inductive RT (K : PySem.W.Frag) (G H : Hp) : V → TV → Fp → Prop
  | av {v : V} {a : AV} {p : Fp} : RA K G H v a p → RT K G H v (.av a) p
  | bor {v : V} {x : PyData} {p : Fp} : Rep K H v x → (∀ b, p b = 0) → RT K G H v (.bor x) p
  | raw {v : V} {p : Fp} : (∀ b, p b = 0) → RT K G H v (.raw v) p
inductive RTs (K : PySem.W.Frag) (G H : Hp) : List V → List TV → Fp → Prop
  | nil {p : Fp} : (∀ b, p b = 0) → RTs K G H [] [] p
  | cons {v : V} {x : TV} {vs : List V} {xs : List TV} {p q r : Fp} : RT K G H v x p → RTs K G H vs xs q → (∀ b, r b = p b + q b) → RTs K G H (v :: vs) (x :: xs) r
def hid (H : Hp) (p q : Fp) : Hp := fun b => if p b + q b = 0 then H b else none
/-- the state: H0 what stood ahead of all and stays; the names; the values on the way -/
structure SR (K : PySem.W.Frag) (H0 : Hp) (σ : St) (ρ : Sl) (ts : List V) (as : List TV) (H : Hp) : Prop where
  ex : ∃ p q, RSl K (hid H p q) H σ ρ p ∧ RTs K (hid H p q) H ts as q ∧ (∀ b, p b + q b ≤ 1) ∧ ∀ b, 0 < p b + q b → H0 b = none
  same : Same H0 H

section
variable {K : PySem.W.Frag} {G G' H H' H0 : Hp} {σ : St} {ρ : Sl} {ts : List V} {as : List TV}
mutual
theorem RA.mono (hG : Same G G') : ∀ {v : V} {a : AV} {p : Fp}, (∀ b o, 0 < p b → H b = some o → H' b = some o) → RA K G H v a p → RA K G' H' v a p
  | _, _, _, hH, .d r e => .d (r.same hG) e
  | _, _, p, hH, .own (a := a) h rs e => .own (hH a _ (by have := e a; simp at this; omega) h) (RAs.mono hG (fun b o z => hH b o (by have := e b; omega)) rs) e
theorem RAs.mono (hG : Same G G') : ∀ {vs : List V} {xs : List AV} {p : Fp}, (∀ b o, 0 < p b → H b = some o → H' b = some o) → RAs K G H vs xs p → RAs K G' H' vs xs p
  | _, _, _, hH, .nil e => .nil e
  | _, _, _, hH, .cons r rs e => .cons (RA.mono hG (fun b o z => hH b o (by have := e b; omega)) r) (RAs.mono hG (fun b o z => hH b o (by have := e b; omega)) rs) e
end
mutual
theorem RA.lst : ∀ {v : V} {a : AV} {p : Fp}, RA K G H v a p → ∀ b, 0 < p b → ∃ vs, H b = some (.lst vs)
  | _, _, _, .d r e, b, z => by have := e b; omega
  | _, _, p, .own (a := a) h rs e, b, z => by
    by_cases hb : b = a
    · subst hb; exact ⟨_, h⟩
    · exact RAs.lst rs b (by have := e b; simp [hb] at this; omega)
theorem RAs.lst : ∀ {vs : List V} {xs : List AV} {p : Fp}, RAs K G H vs xs p → ∀ b, 0 < p b → ∃ vs, H b = some (.lst vs)
  | _, _, _, .nil e, b, z => by have := e b; omega
  | _, _, _, .cons (p := p1) r rs e, b, z => by
    have := e b
    rcases Nat.eq_zero_or_pos (p1 b) with h | h
    · exact RAs.lst rs b (by omega)
    · exact RA.lst r b h
end
theorem RSl.mono (hG : Same G G') {p : Fp} (r : RSl K G H σ ρ p) : (∀ b o, 0 < p b → H b = some o → H' b = some o) → RSl K G' H' σ ρ p := by
  induction r with
  | nil e => exact fun _ => .nil e
  | no _ ih => exact fun h => .no (ih h)
  | so r _ e ih => exact fun h => .so (r.mono hG (fun b o z => h b o (by have := e b; omega))) (ih fun b o z => h b o (by have := e b; omega)) e
theorem RSl.lst {p : Fp} (r : RSl K G H σ ρ p) : ∀ b, 0 < p b → ∃ vs, H b = some (.lst vs) := by
  induction r with
  | nil e => intro b z; have := e b; omega
  | no _ ih => exact ih
  | @so v a σ ρ p1 q1 r1 r _ e ih =>
    intro b z
    have := e b
    rcases Nat.eq_zero_or_pos (p1 b) with h | h
    · exact ih b (by omega)
    · exact r.lst b h
theorem RT.mono {v : V} {a : TV} {p : Fp} (hG : Same G G') (hH : Same H H') (r : RT K G H v a p) : RT K G' H' v a p := by
  cases r with
  | av r => exact .av (r.mono hG fun b o _ => hH b o)
  | bor r e => exact .bor (r.same hH) e
  | raw e => exact .raw e
theorem RT.lst {v : V} {a : TV} {p : Fp} (r : RT K G H v a p) : ∀ b, 0 < p b → ∃ vs, H b = some (.lst vs) := by
  cases r with
  | av r => exact r.lst
  | bor r e => intro b z; have := e b; omega
  | raw e => intro b z; have := e b; omega
theorem RTs.mono {p : Fp} (hG : Same G G') (hH : Same H H') (r : RTs K G H ts as p) : RTs K G' H' ts as p := by
  induction r with
  | nil e => exact .nil e
  | cons r _ e ih => exact .cons (r.mono hG hH) ih e
theorem RTs.lst {p : Fp} (r : RTs K G H ts as p) : ∀ b, 0 < p b → ∃ vs, H b = some (.lst vs) := by
  induction r with
  | nil e => intro b z; have := e b; omega
  | @cons v x vs xs p1 q1 r1 r _ e ih =>
    intro b z
    have := e b
    rcases Nat.eq_zero_or_pos (p1 b) with h | h
    · exact ih b (by omega)
    · exact r.lst b h
/-- temps that are shared -/
def Stb (as : List TV) : Prop := ∀ a ∈ as, ∃ x, a = .av (.d x)
theorem Stb.nil : Stb [] := fun _ h => nomatch h
theorem Stb.cons {x : PyData} (h : Stb as) : Stb (.av (.d x) :: as) := fun b hb => by
  rcases List.mem_cons.mp hb with e | e
  · exact ⟨x, e⟩
  · exact h b e
theorem RTs.monoS {p : Fp} (hG : Same G G') (r : RTs K G H ts as p) : Stb as → (∀ b o, 0 < p b → H b = some o → H' b = some o) → RTs K G' H' ts as p := by
  induction r with
  | nil e => exact fun _ _ => .nil e
  | cons r _ e ih =>
    intro hS hH
    refine .cons ?_ (ih (fun a ha => hS a (.tail _ ha)) fun b o z => hH b o (by have := e b; omega)) e
    cases r with
    | av r => exact .av (r.mono hG fun b o z => hH b o (by have := e b; omega))
    | bor _ _ => obtain ⟨x, e⟩ := hS _ (.head _); cases e
    | raw e => exact .raw e
theorem same_hid {p q : Fp} (h : Same H H') : Same (hid H p q) (hid H' p q) := fun b o e => by
  unfold hid at e ⊢
  split at e
  · rename_i z; rw [if_pos z]; exact h b o e
  · cases e
theorem hid_le {p q : Fp} : Same (hid H p q) H := fun b o e => by
  unfold hid at e
  split at e
  · exact e
  · cases e
theorem hid_more {p q p' q' : Fp} (h : ∀ b, p b + q b = 0 → p' b + q' b = 0) : Same (hid H p q) (hid H p' q') := fun b o e => by
  unfold hid at e ⊢
  split at e
  · rename_i z; rw [if_pos (h b z)]; exact e
  · cases e
theorem hid_eq {p q p' q' : Fp} (h : ∀ b, p b + q b = p' b + q' b) : hid H p q = hid H p' q' := by
  funext b; unfold hid; rw [h b]
/-- nothing is written, something may be new -/
theorem SR.ext (h : SR K H0 σ ρ ts as H) (e : Same H H') : SR K H0 σ ρ ts as H' := by
  obtain ⟨⟨p, q, h1, h2, h3, h4⟩, s⟩ := h
  exact ⟨⟨p, q, h1.mono (same_hid e) (fun b o _ => e b o), h2.mono (same_hid e) e, h3, h4⟩, s.trans e⟩
/-! tuples and plain values do not hang on lists -/
theorem SqT.hid {p q : Fp} {a : Addr} {xs : List V} (hl : ∀ b, 0 < p b + q b → ∃ vs, H b = some (.lst vs)) (h : SqT K H a xs) : SqT K (VL.hid H p q) a xs := by
  rcases h with (h | ⟨ob, h⟩) | h
  · refine .inl (.inl ?_)
    unfold VL.hid
    rw [if_pos]
    · exact h
    · rcases Nat.eq_zero_or_pos (p a + q a) with z | z
      · exact z
      · obtain ⟨vs, e⟩ := hl a z; rw [h] at e; cases e
  · refine .inl (.inr ⟨ob, ?_⟩)
    unfold VL.hid
    rw [if_pos]
    · exact h
    · rcases Nat.eq_zero_or_pos (p a + q a) with z | z
      · exact z
      · obtain ⟨vs, e⟩ := hl a z; rw [h] at e; cases e
  · exact .inr h
mutual
theorem Rep.hid {p q : Fp} (hl : ∀ b, 0 < p b + q b → ∃ vs, H b = some (.lst vs)) : ∀ {v : V} {x : PyData}, noLst x = true → Rep K H v x → Rep K (VL.hid H p q) v x
  | _, _, _, .non => .non
  | _, _, _, .bl b => .bl b
  | _, _, _, .int i => .int i
  | _, _, _, .str x => .str x
  | _, _, hn, .lst h rs => by simp [noLst] at hn
  | _, _, hn, .tup h rs => .tup (SqT.hid hl h) (Reps.hid hl (by simpa [noLst] using hn) rs)
theorem Reps.hid {p q : Fp} (hl : ∀ b, 0 < p b + q b → ∃ vs, H b = some (.lst vs)) : ∀ {vs : List V} {xs : List PyData}, noLsts xs = true → Reps K H vs xs → Reps K (VL.hid H p q) vs xs
  | _, _, _, .nil => .nil
  | _, _, hn, .cons r rs => by
    simp only [noLsts, Bool.and_eq_true] at hn
    exact .cons (Rep.hid hl hn.1 r) (Reps.hid hl hn.2 rs)
end
mutual
theorem RA.rep (hG : Same G H) : ∀ {v : V} {a : AV} {p : Fp}, RA K G H v a p → Rep K H v a.data
  | _, _, _, .d r _ => r.same hG
  | _, _, _, .own h rs _ => .lst (SqL.of h) (RAs.rep hG rs)
theorem RAs.rep (hG : Same G H) : ∀ {vs : List V} {xs : List AV} {p : Fp}, RAs K G H vs xs p → Reps K H vs (AV.datas xs)
  | _, _, _, .nil _ => .nil
  | _, _, _, .cons r rs _ => .cons (r.rep hG) (RAs.rep hG rs)
end
def TV.data : TV → PyData
  | .av a => a.data
  | .bor x => x
  | .raw _ => .none
theorem RT.rep {v : V} {a : TV} {p : Fp} (hG : Same G H) (hr : ∀ v, a ≠ .raw v) (r : RT K G H v a p) : Rep K H v a.data := by
  cases r with
  | av r => exact r.rep hG
  | bor r _ => exact r
  | raw _ => exact absurd rfl (hr _)
mutual
theorem RA.frz (hG : Same G G') : ∀ {v : V} {a : AV} {p : Fp}, (∀ b o, 0 < p b → H b = some o → G' b = some o) → RA K G H v a p → Rep K G' v a.data
  | _, _, _, _, .d r _ => r.same hG
  | _, _, _, h, .own (a := a) e rs z => .lst (SqL.of (h a _ (by have := z a; simp at this; omega) e)) (RAs.frz hG (fun b o y => h b o (by have := z b; omega)) rs)
theorem RAs.frz (hG : Same G G') : ∀ {vs : List V} {xs : List AV} {p : Fp}, (∀ b o, 0 < p b → H b = some o → G' b = some o) → RAs K G H vs xs p → Reps K G' vs (AV.datas xs)
  | _, _, _, _, .nil _ => .nil
  | _, _, _, h, .cons r rs z => .cons (r.frz hG fun b o y => h b o (by have := z b; omega)) (RAs.frz hG (fun b o y => h b o (by have := z b; omega)) rs)
end
end
end VL
end

section
set_option Elab.async false
set_option linter.all false
set_option maxRecDepth 100000
set_option maxHeartbeats 4000000
namespace VL
open PySem PySem.Spec L2

/-- an exception: its class, its fields -/
structure Exc where
  cls : Value
  fs : List (Str × PyData)
def XRep (K : PySem.W.Frag) (H : Hp) (e : Exc) (c : Value) (d : Option Addr) : Prop :=
  c = e.cls ∧ ((e.fs = [] ∧ d = none) ∨ ∃ a vs, d = some a ∧ H a = some (.xd vs) ∧ Paired (fun (p : Str × V) (q : Str × PyData) => p.1 = q.1 ∧ Rep K H p.2 q.2) vs e.fs)
def XOk (K : PySem.W.Frag) (E : XK) (X : Exc → Prop) (H0 : Hp) : Prop := ∀ e, X e → ∀ c d H', Same H0 H' → XRep K H' e c d → E c d H'
structure VEnds where
  nx : Sl → Prop
  rt : TV → Prop
  bk : Sl → Prop := fun _ => False
  ct : Sl → Prop := fun _ => False
structure Fit (K : PySem.W.Frag) (H0 : Hp) (ts : List V) (as : List TV) (DV : VEnds) (D : Ends) : Prop where
  nx : ∀ ρ, DV.nx ρ → ∀ σ H, SR K H0 σ ρ ts as H → D.nx σ H
  bk : ∀ ρ, DV.bk ρ → ∀ σ H, SR K H0 σ ρ ts as H → D.bk σ H
  ct : ∀ ρ, DV.ct ρ → ∀ σ H, SR K H0 σ ρ ts as H → D.ct σ H
  rt : ∀ a, DV.rt a → ∀ v σ ρ H, SR K H0 σ ρ (v :: ts) (a :: as) H → D.rt v H
/-- kept: the value as it may be stored -/
def TV.sto : TV → Option AV
  | .av a => some a
  | .bor x => if noLst x = true then some (.d x) else none
  | .raw _ => none

section
variable (K : PySem.W.Frag) (E : XK) (X : Exc → Prop)
def Ev (t : TE) (ρ : Sl) (Q : TV → Prop) : Prop :=
  ∀ (H0 : Hp) (σ : St) (ts : List V) (as : List TV) (H : Hp) (QV : VK), SR K H0 σ ρ ts as H → XOk K E X H0 → (∀ a, Q a → ∀ v H', SR K H0 σ ρ (v :: ts) (a :: as) H' → QV v H') → t σ H QV
def Tv (t : TT) (ρ : Sl) (Q : Bool → Prop) : Prop :=
  ∀ (H0 : Hp) (σ : St) (ts : List V) (as : List TV) (H : Hp) (QV : Bool → Hp → Prop), SR K H0 σ ρ ts as H → XOk K E X H0 → (∀ b, Q b → ∀ H', SR K H0 σ ρ ts as H' → QV b H') → t σ H QV
def Ea (t : TA) (ρ : Sl) (Q : List TV → Prop) : Prop :=
  ∀ (H0 : Hp) (σ : St) (ts : List V) (as : List TV) (H : Hp) (QV : List V → Hp → Prop), SR K H0 σ ρ ts as H → XOk K E X H0 → (∀ bs, Q bs → ∀ vs H', SR K H0 σ ρ (vs ++ ts) (bs ++ as) H' → vs.length = bs.length → QV vs H') → t σ H QV
def Op (r : R2) (a b : TV) (Q : TV → Prop) : Prop :=
  ∀ (H0 : Hp) (σ : St) (ρ : Sl) (ts : List V) (as : List TV) (H : Hp) (x y : V) (QV : VK), SR K H0 σ ρ (y :: x :: ts) (b :: a :: as) H → XOk K E X H0 → (∀ c, Q c → ∀ v H', SR K H0 σ ρ (v :: ts) (c :: as) H' → QV v H') → r x y H QV
def Un1 (r : V → Hp → VK → Prop) (a : TV) (Q : TV → Prop) : Prop :=
  ∀ (H0 : Hp) (σ : St) (ρ : Sl) (ts : List V) (as : List TV) (H : Hp) (x : V) (QV : VK), SR K H0 σ ρ (x :: ts) (a :: as) H → XOk K E X H0 → (∀ c, Q c → ∀ v H', SR K H0 σ ρ (v :: ts) (c :: as) H' → QV v H') → r x H QV
def Bi (r : List V → Hp → VK → Prop) (bs : List TV) (Q : TV → Prop) : Prop :=
  ∀ (H0 : Hp) (σ : St) (ρ : Sl) (ts : List V) (as : List TV) (H : Hp) (vs : List V) (QV : VK), SR K H0 σ ρ (vs ++ ts) (bs ++ as) H → vs.length = bs.length → XOk K E X H0 → (∀ c, Q c → ∀ v H', SR K H0 σ ρ (v :: ts) (c :: as) H' → QV v H') → r vs H QV
def Sv (t : TS) (ρ : Sl) (DV : VEnds) : Prop :=
  ∀ (H0 : Hp) (σ : St) (ts : List V) (as : List TV) (H : Hp) (D : Ends), Stb as → SR K H0 σ ρ ts as H → XOk K E X H0 → Fit K H0 ts as DV D → t D σ H
end

section
variable {K : PySem.W.Frag} {G G' H H' H0 : Hp} {σ : St} {ρ : Sl} {ts : List V} {as : List TV} {v x y : V} {a b : TV}
/-! ### the state, step by step -/
theorem SR.top (h : SR K H0 σ ρ (v :: ts) (a :: as) H) (hr : ∀ v, a ≠ .raw v) : Rep K H v a.data := by
  obtain ⟨⟨p, q, _, h2, _⟩, _⟩ := h
  cases h2 with
  | cons r _ _ => exact r.rep hid_le hr
theorem SR.top_d {x : PyData} (h : SR K H0 σ ρ (v :: ts) (.av (.d x) :: as) H) : Rep K H v x := h.top (a := .av (.d x)) (fun _ z => nomatch z)
theorem SR.raw {u : V} (h : SR K H0 σ ρ (v :: ts) (.raw u :: as) H) : v = u := by
  obtain ⟨⟨p, q, _, h2, _⟩, _⟩ := h
  cases h2 with
  | cons r _ _ => cases r; rfl
theorem SR.pop (h : SR K H0 σ ρ (v :: ts) (a :: as) H) : SR K H0 σ ρ ts as H := by
  obtain ⟨⟨p, q, h1, h2, h3, h4⟩, s⟩ := h
  cases h2 with
  | @cons _ _ _ _ p1 q1 _ r rs e =>
    refine ⟨⟨p, q1, h1.mono (hid_more fun b z => by have := e b; omega) (fun _ _ _ z => z), rs.mono (hid_more fun b z => by have := e b; omega) (fun _ _ z => z), fun b => by have := e b; have := h3 b; omega, fun b z => h4 b (by have := e b; omega)⟩, s⟩
theorem SR.push (h : SR K H0 σ ρ ts as H) {x : PyData} (r : ∀ G, Rep K G v x) : SR K H0 σ ρ (v :: ts) (.av (.d x) :: as) H := by
  obtain ⟨⟨p, q, h1, h2, h3, h4⟩, s⟩ := h
  exact ⟨⟨p, q, h1, .cons (.av (.d (p := fun _ => 0) (r _) fun _ => rfl)) h2 (fun b => by simp), h3, h4⟩, s⟩
theorem SR.pushB (h : SR K H0 σ ρ ts as H) {x : PyData} (r : Rep K H v x) : SR K H0 σ ρ (v :: ts) (.bor x :: as) H := by
  obtain ⟨⟨p, q, h1, h2, h3, h4⟩, s⟩ := h
  exact ⟨⟨p, q, h1, .cons (.bor (p := fun _ => 0) r fun _ => rfl) h2 (fun b => by simp), h3, h4⟩, s⟩
theorem SR.pushR (h : SR K H0 σ ρ ts as H) : SR K H0 σ ρ (v :: ts) (.raw v :: as) H := by
  obtain ⟨⟨p, q, h1, h2, h3, h4⟩, s⟩ := h
  exact ⟨⟨p, q, h1, .cons (.raw (p := fun _ => 0) fun _ => rfl) h2 (fun b => by simp), h3, h4⟩, s⟩
theorem SR.lsts {p q : Fp} (h1 : RSl K G H σ ρ p) (h2 : RTs K G H ts as q) : ∀ b, 0 < p b + q b → ∃ vs, H b = some (.lst vs) := fun b z => by
  rcases Nat.eq_zero_or_pos (p b) with e | e
  · exact h2.lst b (by omega)
  · exact h1.lst b e
/-- flat data that is read anywhere may be kept -/
theorem SR.pushF (h : SR K H0 σ ρ ts as H) {x : PyData} (hx : noLst x = true) (r : Rep K H v x) : SR K H0 σ ρ (v :: ts) (.av (.d x) :: as) H := by
  obtain ⟨⟨p, q, h1, h2, h3, h4⟩, s⟩ := h
  exact ⟨⟨p, q, h1, .cons (.av (.d (p := fun _ => 0) (Rep.hid (SR.lsts h1 h2) hx r) fun _ => rfl)) h2 (fun b => by simp), h3, h4⟩, s⟩
theorem SR.int (h : SR K H0 σ ρ ts as H) (i : Int) : SR K H0 σ ρ (.int i :: ts) (.av (.d (.int i)) :: as) H := h.push fun _ => .int i
theorem SR.bl (h : SR K H0 σ ρ ts as H) (i : Bool) : SR K H0 σ ρ (.bl i :: ts) (.av (.d (.bool i)) :: as) H := h.push fun _ => .bl i
/-- what the value on the top is kept as -/
theorem SR.sto {a' : AV} (h : SR K H0 σ ρ (v :: ts) (a :: as) H) (e : a.sto = some a') : SR K H0 σ ρ (v :: ts) (.av a' :: as) H := by
  cases a with
  | av a => cases e; exact h
  | raw u => cases e
  | bor x =>
    unfold TV.sto at e
    by_cases z : noLst x = true
    · simp only [z, if_true, Option.some.injEq] at e
      subst e
      exact h.pop.pushF z (h.top (a := .bor x) fun _ z => nomatch z)
    · simp [z] at e
/-- given up: what is new is shared from now on -/
theorem SR.frzT {a : AV} (h : SR K H0 σ ρ (v :: ts) (.av a :: as) H) : SR K H0 σ ρ (v :: ts) (.av (.d a.data) :: as) H := by
  obtain ⟨⟨p, q, h1, h2, h3, h4⟩, s⟩ := h
  cases h2 with
  | @cons _ _ _ _ p1 q1 _ r rs e =>
    cases r with
    | av r =>
      have m : Same (hid H p q) (hid H p q1) := hid_more fun b z => by have := e b; omega
      refine ⟨⟨p, q1, h1.mono m (fun _ _ _ z => z), .cons (.av (.d (p := fun _ => 0) (r.frz m fun b o y z => ?_) fun _ => rfl)) (rs.mono m fun _ _ z => z) (fun b => by simp), fun b => by have := e b; have := h3 b; omega, fun b z => h4 b (by have := e b; omega)⟩, s⟩
      unfold hid
      rw [if_pos (by have := e b; have := h3 b; omega)]
      exact z
theorem RSl.frz {i : Nat} {a : AV} {p : Fp} {ρ : Sl} {σ : St} (r : RSl K G H σ ρ p) (hi : ρ[i]? = some (some a)) (hp : ∀ b o, 0 < p b → H b = some o → True) :
    ∃ (p1 p2 : Fp) (v : V), (∀ b, p b = p1 b + p2 b) ∧ σ[i]? = some (some v) ∧ RA K G H v a p1 ∧ ∀ (G' H' : Hp) (v' : V) (a' : AV) (p1' r' : Fp), Same G G' → (∀ b o, 0 < p2 b → H b = some o → H' b = some o) → RA K G' H' v' a' p1' → (∀ b, r' b = p1' b + p2 b) → RSl K G' H' (σ.set i (some v')) (ρ.set i (some a')) r' := by
  induction r generalizing i with
  | nil _ => simp at hi
  | @no o σ ρ p r ih =>
    cases i with
    | zero => simp at hi
    | succ i =>
      obtain ⟨p1, p2, v, e1, e2, e3, e4⟩ := ih (by simpa using hi) (fun _ _ _ _ => trivial)
      exact ⟨p1, p2, v, e1, by simpa using e2, e3, fun G' H' v' a' p1' r' m n ra z => .no (e4 G' H' v' a' p1' r' m n ra z)⟩
  | @so v a0 σ ρ pa pb pr ra r e ih =>
    cases i with
    | zero =>
      have : a0 = a := by simpa using hi
      subst this
      exact ⟨pa, pb, v, e, rfl, ra, fun G' H' v' a' p1' r' m n ra' z => .so ra' (r.mono m n) z⟩
    | succ i =>
      obtain ⟨p1, p2, w, e1, e2, e3, e4⟩ := ih (by simpa using hi) (fun _ _ _ _ => trivial)
      refine ⟨p1, fun b => pa b + p2 b, w, fun b => by have := e b; have := e1 b; dsimp only; omega, by simpa using e2, e3, fun G' H' v' a' p1' r' m n ra' z => ?_⟩
      exact .so (ra.mono m fun b o y => n b o (by dsimp only; omega)) (e4 G' H' v' a' p1' (fun b => p1' b + p2 b) m (fun b o y => n b o (by dsimp only; omega)) ra' fun _ => rfl) (fun b => by have := z b; dsimp only at this ⊢; omega)
theorem set_same {α : Type} : ∀ {l : List α} {i : Nat} {x : α}, l[i]? = some x → l.set i x = l
  | [], _, _, h => by simp at h
  | y :: l, 0, x, h => by simp at h; simp [h]
  | y :: l, i + 1, x, h => by simp at h; simp [set_same h]
/-- a name's list is given up -/
theorem SR.frz {i : Nat} {a : AV} (h : SR K H0 σ ρ ts as H) (hi : ρ[i]? = some (some a)) : SR K H0 σ (ρ.set i (some (.d a.data))) ts as H := by
  obtain ⟨⟨p, q, h1, h2, h3, h4⟩, s⟩ := h
  obtain ⟨p1, p2, w, e1, e2, e3, e4⟩ := h1.frz hi fun _ _ _ _ => trivial
  have m : Same (hid H p q) (hid H p2 q) := hid_more fun b z => by have := e1 b; omega
  have z := e4 (hid H p2 q) H w (.d a.data) (fun _ => 0) p2 m (fun _ _ _ z => z) (.d (e3.frz m fun b o y z => by
    unfold hid
    rw [if_pos (by have := e1 b; have := h3 b; omega)]
    exact z) fun _ => rfl) (fun b => by simp)
  rw [set_same e2] at z
  exact ⟨⟨p2, q, z, h2.mono m (fun _ _ z => z), fun b => by have := e1 b; have := h3 b; omega, fun b z => h4 b (by have := e1 b; omega)⟩, s⟩
theorem RSl.len {p : Fp} (r : RSl K G H σ ρ p) : σ.length = ρ.length := by
  induction r with
  | nil _ => rfl
  | no _ ih => simp [ih]
  | so _ _ _ ih => simp [ih]
theorem SR.len (h : SR K H0 σ ρ ts as H) : σ.length = ρ.length := let ⟨⟨_, _, h1, _⟩, _⟩ := h; h1.len
theorem RSl.set {i : Nat} {w : V} {a : AV} {p p1 : Fp} (r : RSl K G H σ ρ p) (hi : i < ρ.length) (ra : RA K G H w a p1) : ∃ p2 : Fp, (∀ b, p2 b ≤ p b) ∧ RSl K G H (σ.set i (some w)) (ρ.set i (some a)) (fun b => p1 b + p2 b) := by
  induction r generalizing i with
  | nil _ => simp at hi
  | @no o σ ρ p r ih =>
    cases i with
    | zero => exact ⟨p, fun _ => Nat.le_refl _, .so ra r fun _ => rfl⟩
    | succ i =>
      obtain ⟨p2, e1, e2⟩ := ih (by simpa using hi)
      exact ⟨p2, e1, .no e2⟩
  | @so v a0 σ ρ pa pb pr ra0 r e ih =>
    cases i with
    | zero => exact ⟨pb, fun b => by have := e b; omega, .so ra r fun _ => rfl⟩
    | succ i =>
      obtain ⟨p2, e1, e2⟩ := ih (by simpa using hi)
      exact ⟨fun b => pa b + p2 b, fun b => by have := e b; have := e1 b; dsimp only; omega, .so ra0 e2 fun b => by dsimp only; omega⟩
theorem SR.of_le {p p' q q' : Fp} (s : Same H0 H) (h3 : ∀ b, p b + q b ≤ 1) (h4 : ∀ b, 0 < p b + q b → H0 b = none) (hp : ∀ b, p' b + q' b ≤ p b + q b) (h1 : RSl K (hid H p q) H σ ρ p') (h2 : RTs K (hid H p q) H ts as q') : SR K H0 σ ρ ts as H :=
  ⟨⟨p', q', h1.mono (hid_more fun b z => by have := hp b; omega) (fun _ _ _ z => z), h2.mono (hid_more fun b z => by have := hp b; omega) (fun _ _ z => z), fun b => by have := hp b; have := h3 b; omega, fun b z => h4 b (by have := hp b; omega)⟩, s⟩
/-- the value on the top is given a name -/
theorem SR.store {i : Nat} {a : AV} (h : SR K H0 σ ρ (v :: ts) (.av a :: as) H) (hi : i < ρ.length) : SR K H0 (σ.set i (some v)) (ρ.set i (some a)) ts as H := by
  obtain ⟨⟨p, q, h1, h2, h3, h4⟩, s⟩ := h
  cases h2 with
  | @cons _ _ _ _ p1 q1 _ r rs e =>
    cases r with
    | av r =>
      obtain ⟨p2, e1, e2⟩ := h1.set hi r
      refine SR.of_le (p := p) (q := q) (p' := fun b => p1 b + p2 b) (q' := q1) s h3 h4 (fun b => ?_) e2 rs
      have := e b; have := e1 b; omega
theorem RSl.drop {i : Nat} {o : Option V} {p : Fp} (r : RSl K G H σ ρ p) : ∃ p2 : Fp, (∀ b, p2 b ≤ p b) ∧ RSl K G H (σ.set i o) (ρ.set i none) p2 := by
  induction r generalizing i with
  | nil e => exact ⟨_, fun _ => Nat.le_refl _, by simpa using .nil e⟩
  | @no o σ ρ p r ih =>
    cases i with
    | zero => exact ⟨p, fun _ => Nat.le_refl _, .no r⟩
    | succ i => obtain ⟨p2, e1, e2⟩ := ih (i := i); exact ⟨p2, e1, .no e2⟩
  | @so v a0 σ ρ pa pb pr ra0 r e ih =>
    cases i with
    | zero => exact ⟨pb, fun b => by have := e b; omega, .no r⟩
    | succ i =>
      obtain ⟨p2, e1, e2⟩ := ih (i := i)
      exact ⟨fun b => pa b + p2 b, fun b => by have := e b; have := e1 b; dsimp only; omega, .so ra0 e2 fun b => rfl⟩
/-- a name is forgotten -/
theorem SR.drop {i : Nat} (h : SR K H0 σ ρ ts as H) : SR K H0 σ (ρ.set i none) ts as H := by
  obtain ⟨⟨p, q, h1, h2, h3, h4⟩, s⟩ := h
  by_cases hi : i < σ.length
  · obtain ⟨p2, e1, e2⟩ := h1.drop (i := i) (o := σ[i])
    rw [set_same (List.getElem?_eq_getElem hi)] at e2
    exact SR.of_le (p := p) (q := q) (p' := p2) (q' := q) s h3 h4 (fun b => by have := e1 b; omega) e2 h2
  · have : ρ.set i none = ρ := List.set_eq_of_length_le (by rw [← h1.len]; omega)
    rw [this]
    exact ⟨⟨p, q, h1, h2, h3, h4⟩, s⟩
theorem RTs.swap {u w : V} {p : Fp} (r : RTs K G H (u :: w :: ts) (a :: b :: as) p) : RTs K G H (w :: u :: ts) (b :: a :: as) p := by
  cases r with
  | cons r1 rs e1 => cases rs with
    | cons r2 rs e2 => exact .cons r2 (.cons r1 rs fun _ => rfl) (fun c => by have := e1 c; have := e2 c; omega)
theorem RTs.rot {u : V} : ∀ {vs : List V} {bs : List TV} {p : Fp}, vs.length = bs.length → RTs K G H (vs ++ u :: ts) (bs ++ a :: as) p → RTs K G H (u :: (vs ++ ts)) (a :: (bs ++ as)) p
  | [], [], _, _, r => r
  | w :: vs, b :: bs, p, e, r => by
    cases r with
    | cons r1 rs e1 => exact RTs.swap (.cons r1 (RTs.rot (by simpa using e) rs) e1)
theorem SR.rot {u : V} {vs : List V} {bs : List TV} (e : vs.length = bs.length) (h : SR K H0 σ ρ (vs ++ u :: ts) (bs ++ a :: as) H) : SR K H0 σ ρ (u :: (vs ++ ts)) (a :: (bs ++ as)) H :=
  let ⟨⟨p, q, h1, h2, h3, h4⟩, s⟩ := h
  ⟨⟨p, q, h1, h2.rot e, h3, h4⟩, s⟩
theorem SR.swap {u w : V} (h : SR K H0 σ ρ (u :: w :: ts) (a :: b :: as) H) : SR K H0 σ ρ (w :: u :: ts) (b :: a :: as) H :=
  let ⟨⟨p, q, h1, h2, h3, h4⟩, s⟩ := h
  ⟨⟨p, q, h1, h2.swap, h3, h4⟩, s⟩
theorem RTs.back {u : V} : ∀ {vs : List V} {bs : List TV} {p : Fp}, vs.length = bs.length → RTs K G H (u :: (vs ++ ts)) (a :: (bs ++ as)) p → RTs K G H (vs ++ u :: ts) (bs ++ a :: as) p
  | [], [], _, _, r => r
  | w :: vs, b :: bs, p, e, r => by
    have r' := RTs.swap r
    cases r' with
    | cons r1 rs e1 => exact .cons r1 (RTs.back (by simpa using e) rs) e1
theorem SR.back {u : V} {vs : List V} {bs : List TV} (e : vs.length = bs.length) (h : SR K H0 σ ρ (u :: (vs ++ ts)) (a :: (bs ++ as)) H) : SR K H0 σ ρ (vs ++ u :: ts) (bs ++ a :: as) H :=
  let ⟨⟨p, q, h1, h2, h3, h4⟩, s⟩ := h
  ⟨⟨p, q, h1, h2.back e, h3, h4⟩, s⟩
/-- all that is kept -/
inductive Stos : List TV → List AV → Prop
  | nil : Stos [] []
  | cons {a : TV} {x : AV} {as : List TV} {xs : List AV} : a.sto = some x → Stos as xs → Stos (a :: as) (x :: xs)
theorem SR.stos : ∀ {vs : List V} {bs : List TV} {xs : List AV}, Stos bs xs → vs.length = bs.length → ∀ {us : List V} {cs : List TV}, us.length = cs.length → SR K H0 σ ρ (us ++ (vs ++ ts)) (cs ++ (bs ++ as)) H → SR K H0 σ ρ (us ++ (vs ++ ts)) (cs ++ (xs.map TV.av ++ as)) H
  | [], _, _, .nil, _, _, _, _, h => h
  | [], _, _, .cons _ _, e, _, _, _, _ => by simp at e
  | w :: vs, _, _, .nil, e, _, _, _, _ => by simp at e
  | w :: vs, b :: bs, x :: xs, .cons e1 es, e, us, cs, e2, h => by
    have h1 : SR K H0 σ ρ (us ++ w :: (vs ++ ts)) (cs ++ b :: (bs ++ as)) H := h
    have h2 := (h1.rot e2).sto e1
    have h3 : SR K H0 σ ρ ((w :: us) ++ (vs ++ ts)) ((.av x :: cs) ++ (bs ++ as)) H := h2
    have h4 := SR.stos (us := w :: us) (cs := .av x :: cs) es (by simpa using e) (by simp [e2]) h3
    -- back
    exact SR.back e2 h4
theorem RTs.avs {xs : List AV} : ∀ {vs : List V} {bs : List AV} {p : Fp}, vs.length = bs.length → RTs K G H (vs ++ ts) (bs.map TV.av ++ as) p → ∃ p1 p2 : Fp, (∀ b, p b = p1 b + p2 b) ∧ RAs K G H vs bs p1 ∧ RTs K G H ts as p2
  | [], [], p, _, r => ⟨fun _ => 0, p, fun b => by simp, .nil fun _ => rfl, r⟩
  | w :: vs, b :: bs, p, e, r => by
    cases r with
    | @cons _ _ _ _ pa pb _ r1 rs e1 =>
      obtain ⟨p1, p2, e2, e3, e4⟩ := RTs.avs (xs := xs) (by simpa using e) rs
      cases r1 with
      | av r1 => exact ⟨fun c => pa c + p1 c, p2, fun c => by have := e1 c; have := e2 c; dsimp only; omega, .cons r1 e3 (fun _ => rfl), e4⟩
theorem hid_upd {l : Addr} {o : HO} {p q p' q' : Fp} (h : ∀ b u, p b + q b = 0 → H b = some u → p' b + q' b = 0 ∧ b ≠ l) : Same (hid H p q) (hid (upd H l o) p' q') := fun b u e => by
  unfold hid at e ⊢
  split at e
  · rename_i z
    obtain ⟨h1, h2⟩ := h b u z e
    rw [if_pos h1, upd_ne h2]
    exact e
  · cases e
/-- a new list of what is on the way -/
theorem SR.new {l : Addr} {vs : List V} {xs : List AV} (h : SR K H0 σ ρ (vs ++ ts) (xs.map TV.av ++ as) H) (e : vs.length = xs.length) (hl : H l = none) : SR K H0 σ ρ (.ref l :: ts) (.av (.own xs) :: as) (upd H l (.lst vs)) := by
  obtain ⟨⟨p, q, h1, h2, h3, h4⟩, s⟩ := h
  have hL := SR.lsts h1 h2
  obtain ⟨p1, p2, e2, e3, e4⟩ := RTs.avs (xs := xs) e h2
  have z : ∀ b u, H b = some u → b ≠ l := fun b u y w => by subst w; rw [hl] at y; cases y
  have zl : p l + q l = 0 := by
    rcases Nat.eq_zero_or_pos (p l + q l) with w | w
    · exact w
    · obtain ⟨_, w⟩ := hL l w; rw [hl] at w; cases w
  have m : Same (hid H p q) (hid (upd H l (.lst vs)) p (fun b => ((if b = l then 1 else 0) + p1 b) + p2 b)) := hid_upd fun b u y w => by
    have := z b u w
    refine ⟨?_, this⟩
    have := e2 b
    simp [*] at *
    omega
  have mo : ∀ b u, H b = some u → upd H l (.lst vs) b = some u := fun b u y => by rw [upd_ne (z b u y)]; exact y
  have s2 : Same H (upd H l (.lst vs)) := same_new hl
  refine ⟨⟨p, fun b => ((if b = l then 1 else 0) + p1 b) + p2 b, h1.mono m (fun b o _ => mo b o), .cons (.av (.own upd_same (e3.mono m fun b o _ => mo b o) fun _ => rfl)) (e4.mono m s2) (fun _ => rfl), fun b => ?_, fun b w => ?_⟩, s.trans s2⟩
  · have := e2 b; have := h3 b
    by_cases hb : b = l
    · subst hb; simp; omega
    · simp [hb]; omega
  · by_cases hb : b = l
    · subst hb; exact s.free hl
    · refine h4 b ?_; have := e2 b; simp [hb] at w; omega
end
end VL
end

section
set_option Elab.async false
set_option linter.all false
set_option maxRecDepth 100000
set_option maxHeartbeats 4000000
namespace VL
open PySem PySem.Spec L2

mutual
def AV.clean : AV → Bool
  | .d x => noLst x
  | .own xs => AV.cleans xs
def AV.cleans : List AV → Bool
  | [] => true
  | x :: xs => x.clean && AV.cleans xs
end
/-- what a call hands back: the value, what of it is new -/
def Rs (K : PySem.W.Frag) (H H' : Hp) (v : V) (a : AV) : Prop := Same H H' ∧ ∃ p : Fp, (∀ b, p b ≤ 1) ∧ (∀ b, 0 < p b → H b = none) ∧ RA K (hid H' p fun _ => 0) H' v a p
section
variable {K : PySem.W.Frag} {G G' H H' H0 : Hp} {σ : St} {ρ : Sl} {ts : List V} {as : List TV} {v x y : V} {a b : TV}
mutual
theorem RA.cl {p q p' q' : Fp} (hl : ∀ b, 0 < p' b + q' b → ∃ vs, H b = some (.lst vs)) : ∀ {v : V} {a : AV} {r : Fp}, a.clean = true → RA K (hid H p q) H v a r → RA K (hid H p' q') H v a r
  | _, _, _, hc, .d r e => .d (Rep.hid hl (by simpa [AV.clean] using hc) (r.same hid_le)) e
  | _, _, _, hc, .own h rs e => .own h (RAs.cl hl (by simpa [AV.clean] using hc) rs) e
theorem RAs.cl {p q p' q' : Fp} (hl : ∀ b, 0 < p' b + q' b → ∃ vs, H b = some (.lst vs)) : ∀ {vs : List V} {xs : List AV} {r : Fp}, AV.cleans xs = true → RAs K (hid H p q) H vs xs r → RAs K (hid H p' q') H vs xs r
  | _, _, _, hc, .nil e => .nil e
  | _, _, _, hc, .cons r rs e => by
    simp only [AV.cleans, Bool.and_eq_true] at hc
    exact .cons (RA.cl hl hc.1 r) (RAs.cl hl hc.2 rs) e
end
theorem SR.got {c : AV} (h : SR K H0 σ ρ ts as H) (r : Rs K H H' v c) (hc : c.clean = true) : SR K H0 σ ρ (v :: ts) (.av c :: as) H' := by
  obtain ⟨e, p0, n1, n2, ra⟩ := r
  obtain ⟨⟨p, q, h1, h2, h3, h4⟩, s⟩ := h
  have hL := SR.lsts h1 h2
  have z : ∀ b, 0 < p b + q b → p0 b = 0 := fun b w => by
    obtain ⟨vs, y⟩ := hL b w
    rcases Nat.eq_zero_or_pos (p0 b) with u | u
    · exact u
    · rw [n2 b u] at y; cases y
  have m : Same (hid H p q) (hid H' p (fun b => p0 b + q b)) := fun b o w => by
    unfold hid at w ⊢
    split at w
    · rename_i y
      have : p0 b = 0 := by
        rcases Nat.eq_zero_or_pos (p0 b) with u | u
        · exact u
        · rw [n2 b u] at w; cases w
      rw [if_pos (show p b + (p0 b + q b) = 0 by omega)]
      exact e b o w
    · cases w
  refine ⟨⟨p, fun b => p0 b + q b, h1.mono m (fun b o _ => e b o), .cons (.av (RA.cl (p' := p) (q' := fun b => p0 b + q b) (fun b w => ?_) hc ra)) (h2.mono m e) (fun _ => rfl), fun b => ?_, fun b w => ?_⟩, s.trans e⟩
  · rcases Nat.eq_zero_or_pos (p0 b) with u | u
    · have w' : 0 < p b + (p0 b + q b) := w
      obtain ⟨vs, y⟩ := hL b (by omega); exact ⟨vs, e _ _ y⟩
    · exact ra.lst b u
  · have := h3 b; have := n1 b; have := z b
    show p b + (p0 b + q b) ≤ 1
    omega
  · rcases Nat.eq_zero_or_pos (p0 b) with u | u
    · have w' : 0 < p b + (p0 b + q b) := w
      exact h4 b (by omega)
    · exact s.free (n2 b u)
theorem SR.gotB {c : AV} (h : SR K H0 σ ρ ts as H) (r : Rs K H H' v c) : SR K H0 σ ρ (v :: ts) (.bor c.data :: as) H' := by
  obtain ⟨e, p0, _, _, ra⟩ := r
  exact (h.ext e).pushB (ra.rep hid_le)
/-- the names behind which no list stands alone -/
def NoOwn (ρ : Sl) : Prop := ∀ a ∈ ρ, ∀ x, a = some x → ∃ d, x = .d d
theorem NoOwn.nil : NoOwn [] := fun _ h => nomatch h
theorem NoOwn.no (h : NoOwn ρ) : NoOwn (none :: ρ) := fun b hb x z => by
  rcases List.mem_cons.mp hb with e | e
  · subst e; cases z
  · exact h b e x z
theorem NoOwn.d {d : PyData} (h : NoOwn ρ) : NoOwn (some (.d d) :: ρ) := fun b hb x z => by
  rcases List.mem_cons.mp hb with e | e
  · subst e; cases z; exact ⟨d, rfl⟩
  · exact h b e x z
theorem RSl.noOwn {p : Fp} (r : RSl K G H σ ρ p) (h : NoOwn ρ) : ∀ b, p b = 0 := by
  induction r with
  | nil e => exact e
  | no _ ih => exact ih fun a ha => h a (.tail _ ha)
  | so ra _ e ih =>
    obtain ⟨d, rfl⟩ := h _ (.head _) _ rfl
    intro b
    have := ih (fun a ha => h a (.tail _ ha)) b
    cases ra with
    | d _ e2 => have := e b; have := e2 b; omega
theorem RTs.stb {p : Fp} (r : RTs K G H ts as p) (h : Stb as) : ∀ b, p b = 0 := by
  induction r with
  | nil e => exact e
  | cons r _ e ih =>
    obtain ⟨d, rfl⟩ := h _ (.head _)
    intro b
    have := ih (fun a ha => h a (.tail _ ha)) b
    cases r with
    | av ra => cases ra with
      | d _ e2 => have := e b; have := e2 b; omega
/-- how a value is kept -/
def Sto (ρ : Sl) (a : TV) (a' : AV) : Prop := a.sto = some a' ∨ (∃ c, a = .av c ∧ a' = .d c.data) ∨ (NoOwn ρ ∧ (∃ x, a = .bor x) ∧ a' = .d a.data)
theorem SR.stoS {a' : AV} (h : SR K H0 σ ρ (v :: ts) (a :: as) H) (hS : Stb as) (e : Sto ρ a a') : SR K H0 σ ρ (v :: ts) (.av a' :: as) H := by
  rcases e with e | ⟨c, rfl, rfl⟩ | ⟨n, ⟨x, rfl⟩, rfl⟩
  · exact h.sto e
  · exact h.frzT
  · have t := h.top (a := .bor x) fun _ z => nomatch z
    obtain ⟨⟨p, q, h1, h2, h3, h4⟩, s⟩ := h.pop
    have z1 := h1.noOwn n
    have z2 := h2.stb hS
    refine ⟨⟨p, q, h1, .cons (.av (.d (p := fun _ => 0) (t.same fun b o w => ?_) fun _ => rfl)) h2 (fun b => by simp), h3, h4⟩, s⟩
    unfold hid
    rw [if_pos (by have := z1 b; have := z2 b; omega)]
    exact w
end

/-! ### items of a loop -/
def ItOk (K : PySem.W.Frag) (J : It) (u : V) (z : PyData) (n : Nat) (f : Nat → PyData) : Prop :=
  ∀ G H, Same G H → Rep K G u z → (∀ i, i < n → J.go i H ∧ ∀ x H', J.yld i H x H' → Same H H' ∧ ∀ G', Same G G' → (∀ b o, H' b = some o → H b = none → G' b = some o) → Rep K G' x (f i)) ∧ ∀ i, n ≤ i → J.stop i H
def TV.frz : TV → TV
  | .av a => .av (.d a.data)
  | .bor x => .bor x
  | .raw v => .raw v
section
variable (K : PySem.W.Frag) (E : XK) (X : Exc → Prop)
def Iv (wi : TI) (ρ : Sl) (Q : Nat → (Nat → PyData) → TV → Prop) : Prop :=
  ∀ (H0 : Hp) (σ : St) (ts : List V) (as : List TV) (H : Hp) (R : It → Hp → Prop), SR K H0 σ ρ ts as H → XOk K E X H0 →
    (∀ n f h, Q n f h → ∀ u J H', (∀ v, h ≠ .raw v) → SR K H0 σ ρ (u :: ts) (h :: as) H' → ItOk K J u h.data n f → R J H') → wi σ H R
def Gv (g : TG) (x : PyData) (ρ : Sl) (P : Sl → Prop) : Prop :=
  ∀ (H0 : Hp) (σ : St) (ts : List V) (as : List TV) (H : Hp) (v : V) (Qg : St → Hp → Prop), SR K H0 σ ρ (v :: ts) (.av (.d x) :: as) H → (∀ ρ', P ρ' → ∀ σ' H', SR K H0 σ' ρ' ts as H' → Qg σ' H') → g v σ H Qg
end
/-- a state that knows less -/
def Wk (ρ ρ' : Sl) : Prop := ∀ (K : PySem.W.Frag) (H0 : Hp) (σ : St) (ts : List V) (as : List TV) (H : Hp), SR K H0 σ ρ ts as H → SR K H0 σ ρ' ts as H
theorem Wk.refl (ρ : Sl) : Wk ρ ρ := fun _ _ _ _ _ _ h => h
theorem Wk.set {ρ : Sl} {i : Nat} {a : Option AV} (h : ρ[i]? = some none) : Wk (ρ.set i a) ρ := fun _ _ _ _ _ _ s => by
  have := s.drop (i := i)
  rw [List.set_set, set_same h] at this
  exact this

section
variable {K : PySem.W.Frag} {E : XK} {X : Exc → Prop} {ρ : Sl} {Q : TV → Prop} {DV : VEnds} {ta tb te : TE} {i j : Int} {n : Nat} {r : R2} {t u : TS} {a b : TV}
/-! ### expressions -/
theorem ev_imp {Q' : TV → Prop} (h : Ev K E X te ρ Q) (m : ∀ a, Q a → Q' a) : Ev K E X te ρ Q' := fun H0 σ ts as H QV s x q => h H0 σ ts as H QV s x fun a qa => q a (m a qa)
theorem SR.var {K : PySem.W.Frag} {H0 H : Hp} {σ : St} {ρ : Sl} {ts : List V} {as : List TV} {i : Nat} {a : AV} (s : SR K H0 σ ρ ts as H) (h : ρ[i]? = some (some a)) : ∃ v, σ[i]? = some (some v) ∧ (∀ x, a = .d x → SR K H0 σ ρ (v :: ts) (.av (.d x) :: as) H) ∧ SR K H0 σ ρ (v :: ts) (.bor a.data :: as) H := by
  obtain ⟨⟨p, q, h1, h2, h3, h4⟩, e⟩ := s
  obtain ⟨p1, p2, v, e1, e2, e3, e4⟩ := h1.frz h fun _ _ _ _ => trivial
  refine ⟨v, e2, fun x z => ?_, SR.pushB ⟨⟨p, q, h1, h2, h3, h4⟩, e⟩ (e3.rep hid_le)⟩
  subst z
  cases e3 with
  | d rp z => exact ⟨⟨p, q, h1, .cons (.av (.d (p := fun _ => 0) rp fun _ => rfl)) h2 (fun b => by simp), h3, h4⟩, e⟩
theorem ev_var {x : PyData} (h : ρ[n]? = some (some (.d x))) (q : Q (.av (.d x))) : Ev K E X (tVar n) ρ Q := fun H0 σ ts as H QV s _ k => by
  obtain ⟨v, e1, e2, _⟩ := s.var h
  exact ⟨v, e1, k _ q v H (e2 x rfl)⟩
theorem ev_varB {a : AV} (h : ρ[n]? = some (some a)) (q : Q (.bor a.data)) : Ev K E X (tVar n) ρ Q := fun H0 σ ts as H QV s _ k => by
  obtain ⟨v, e1, _, e2⟩ := s.var h
  exact ⟨v, e1, k _ q v H e2⟩
theorem ev_int (q : Q (.av (.d (.int i)))) : Ev K E X (tC (.int i)) ρ Q := fun H0 σ ts as H QV s _ k => k _ q _ H (s.int i)
theorem ev_bl {c : Bool} (q : Q (.av (.d (.bool c)))) : Ev K E X (tC (.bl c)) ρ Q := fun H0 σ ts as H QV s _ k => k _ q _ H (s.bl c)
theorem ev_str {c : Str} (q : Q (.av (.d (.str c)))) : Ev K E X (tC (.str c)) ρ Q := fun H0 σ ts as H QV s _ k => k _ q _ H (s.push fun _ => .str c)
theorem ev_non (q : Q (.av (.d .none))) : Ev K E X (tC .non) ρ Q := fun H0 σ ts as H QV s _ k => k _ q _ H (s.push fun _ => .non)
theorem ev_ty {c : String} (q : Q (.raw (.ty c))) : Ev K E X (tC (.ty c)) ρ Q := fun H0 σ ts as H QV s _ k => k _ q _ H s.pushR
theorem ev_ref {c : Addr} (q : Q (.raw (.ref c))) : Ev K E X (tC (.ref c)) ρ Q := fun H0 σ ts as H QV s _ k => k _ q _ H s.pushR
theorem ev_op (h : Ev K E X ta ρ fun a => Ev K E X tb ρ fun b => Op K E X r a b Q) : Ev K E X (tOp r ta tb) ρ Q := fun H0 σ ts as H QV s x k =>
  h H0 σ ts as H _ s x fun a qa v H' s' => qa H0 σ _ _ H' _ s' x fun b qb w H2 s2 => qb H0 σ ρ ts as H2 v w QV s2 x k
theorem ev_un {r : V → Hp → VK → Prop} (h : Ev K E X ta ρ fun a => Un1 K E X r a Q) : Ev K E X (tUn r ta) ρ Q := fun H0 σ ts as H QV s x k =>
  h H0 σ ts as H _ s x fun a qa v H' s' => qa H0 σ ρ ts as H' v QV s' x k
theorem un_i {g : Int → Int} (q : Q (.av (.d (.int (g i))))) : Un1 K E X (rU fun i => .int (g i)) (.av (.d (.int i))) Q := fun H0 σ ρ ts as H x QV s _ k => by
  have e := s.top_d.int_inv
  subst e
  exact ⟨i, rfl, k _ q _ H (s.pop.int _)⟩
theorem ints2 {H0 H : Hp} {σ : St} {ρ : Sl} {ts : List V} {as : List TV} {x y : V} (s : SR K H0 σ ρ (y :: x :: ts) (.av (.d (.int j)) :: .av (.d (.int i)) :: as) H) : x = .int i ∧ y = .int j ∧ SR K H0 σ ρ ts as H :=
  ⟨s.pop.top_d.int_inv, s.top_d.int_inv, s.pop.pop⟩
theorem op_i0 {g : Int → Int → Int} (q : Q (.av (.d (.int (g i j))))) : Op K E X (rI0 fun i j => .int (g i j)) (.av (.d (.int i))) (.av (.d (.int j))) Q := fun H0 σ ρ ts as H x y QV s _ k => by
  obtain ⟨rfl, rfl, s'⟩ := ints2 s
  exact ⟨i, j, rfl, rfl, k _ q _ H (s'.int _)⟩
theorem op_b0 {g : Int → Int → Bool} (q : Q (.av (.d (.bool (g i j))))) : Op K E X (rI0 fun i j => .bl (g i j)) (.av (.d (.int i))) (.av (.d (.int j))) Q := fun H0 σ ρ ts as H x y QV s _ k => by
  obtain ⟨rfl, rfl, s'⟩ := ints2 s
  exact ⟨i, j, rfl, rfl, k _ q _ H (s'.bl _)⟩
theorem op_i {C : Int → Int → Prop} {g : Int → Int → Int} (c : C i j) (q : Q (.av (.d (.int (g i j))))) : Op K E X (rI C fun i j => .int (g i j)) (.av (.d (.int i))) (.av (.d (.int j))) Q := fun H0 σ ρ ts as H x y QV s _ k => by
  obtain ⟨rfl, rfl, s'⟩ := ints2 s
  exact ⟨i, j, rfl, rfl, c, k _ q _ H (s'.int _)⟩
theorem op_eqI (q : Q (.av (.d (.bool (decide (i = j)))))) : Op K E X rEq (.av (.d (.int i))) (.av (.d (.int j))) Q := fun H0 σ ρ ts as H x y QV s _ k => by
  obtain ⟨rfl, rfl, s'⟩ := ints2 s
  exact rd_eqI (k _ q _ H (s'.bl _))
theorem op_neI (q : Q (.av (.d (.bool (!decide (i = j)))))) : Op K E X rNe (.av (.d (.int i))) (.av (.d (.int j))) Q := fun H0 σ ρ ts as H x y QV s _ k => by
  obtain ⟨rfl, rfl, s'⟩ := ints2 s
  exact rd_neI (k _ q _ H (s'.bl _))
theorem Rep.bl_inv {H : Hp} {v : V} {c : Bool} (h : Rep K H v (.bool c)) : v = .bl c := by cases h; rfl
theorem op_eqB {c d : Bool} (q : Q (.av (.d (.bool (decide (c = d)))))) : Op K E X rEq (.av (.d (.bool c))) (.av (.d (.bool d))) Q := fun H0 σ ρ ts as H x y QV s _ k => by
  have e1 := Rep.bl_inv s.pop.top_d
  have e2 := Rep.bl_inv s.top_d
  subst e1 e2
  exact rd_eqB (k _ q _ H (s.pop.pop.bl _))
def NR (a : TV) : Prop := ∀ v, a ≠ .raw v
theorem NR.av {c : AV} : NR (.av c) := fun _ z => nomatch z
theorem NR.bor {c : PyData} : NR (.bor c) := fun _ z => nomatch z
theorem op_eqd {α : Type} [DecidableEq α] {f : α → PyData} {m : Nat} {c d : α} (F : Enc f m) (ha : a.data = f c) (hb : b.data = f d) (q : Q (.av (.d (.bool (decide (c = d)))))) (na : NR a := by first | exact NR.av | exact NR.bor) (nb : NR b := by first | exact NR.av | exact NR.bor) (hm : m ≤ 32 := by decide) : Op K E X (rEqD K) a b Q := fun H0 σ ρ ts as H x y QV s _ k =>
  rd_eqD F (ha ▸ s.pop.top na) (hb ▸ s.top nb) (k _ q _ H (s.pop.pop.bl _)) hm
theorem op_ned {α : Type} [DecidableEq α] {f : α → PyData} {m : Nat} {c d : α} (F : Enc f m) (ha : a.data = f c) (hb : b.data = f d) (q : Q (.av (.d (.bool (!decide (c = d)))))) (na : NR a := by first | exact NR.av | exact NR.bor) (nb : NR b := by first | exact NR.av | exact NR.bor) (hm : m ≤ 32 := by decide) : Op K E X (rNeD K) a b Q := fun H0 σ ρ ts as H x y QV s _ k =>
  rd_neD F (ha ▸ s.pop.top na) (hb ▸ s.top nb) (k _ q _ H (s.pop.pop.bl _)) hm
/-! items -/
theorem Reps.atI {H : Hp} {vs : List V} {ds : List PyData} {k : Int} {y : PyData} (h : Reps K H vs ds) (e : atI ds k = some y) : ∃ v, L2.atI vs k = some v ∧ Rep K H v y := by
  unfold L2.atI at e ⊢
  rw [h.length]
  cases z : ixN ds.length k with
  | none => rw [z] at e; cases e
  | some j =>
    rw [z] at e
    obtain ⟨v, e1, e2⟩ := h.get (i := j) (d := y) e
    exact ⟨v, e1, e2⟩
/-- an item of what is shared is shared; a flat one is kept; any other is borrowed -/
def Item (a : TV) (y : PyData) (c : TV) : Prop := (a = .av (.d a.data) ∧ c = .av (.d y)) ∨ (noLst y = true ∧ c = .av (.d y)) ∨ c = .bor y
theorem SR.item {H0 H : Hp} {σ : St} {ρ : Sl} {ts : List V} {as : List TV} {x : V} {a c : TV} {y : PyData} (s : SR K H0 σ ρ (x :: ts) (a :: as) H) (na : NR a) (it : Item a y c) (P : V → Prop) (h : ∀ G, Rep K G x a.data → Same G H → ∃ v, P v ∧ Rep K G v y) : ∃ v, P v ∧ SR K H0 σ ρ (v :: ts) (c :: as) H := by
  rcases it with ⟨e, rfl⟩ | ⟨hy, rfl⟩ | rfl
  · rw [e] at s
    obtain ⟨⟨p, q, h1, h2, h3, h4⟩, e'⟩ := s
    cases h2 with
    | cons r rs z => cases r with
      | av r => cases r with
        | d rp w =>
          obtain ⟨v, e1, e2⟩ := h _ rp hid_le
          exact ⟨v, e1, ⟨p, q, h1, .cons (.av (.d e2 w)) rs z, h3, h4⟩, e'⟩
  · obtain ⟨v, e1, e2⟩ := h _ (s.top na) (.refl H)
    exact ⟨v, e1, s.pop.pushF hy e2⟩
  · obtain ⟨v, e1, e2⟩ := h _ (s.top na) (.refl H)
    exact ⟨v, e1, s.pop.pushB e2⟩
theorem Item.d {x y : PyData} : Item (.av (.d x)) y (.av (.d y)) := .inl ⟨rfl, rfl⟩
theorem Item.int {i : Int} : Item a (.int i) (.av (.d (.int i))) := .inr (.inl ⟨rfl, rfl⟩)
theorem Item.flat {y : PyData} (h : noLst y = true) : Item a y (.av (.d y)) := .inr (.inl ⟨h, rfl⟩)
theorem Item.br {y : PyData} : Item a y (.bor y) := .inr (.inr rfl)
theorem op_ixL {ds : List PyData} {y : PyData} {c : TV} {k : Int} (ha : a.data = .list ds) (e : atI ds k = some y) (it : Item a y c) (q : Q c) (na : NR a := by first | exact NR.av | exact NR.bor) : Op K E X (rIxL K) a (.av (.d (.int k))) Q := fun H0 σ ρ ts as H x w QV s _ kk => by
  have e2 := s.top_d.int_inv
  subst e2
  obtain ⟨v, ⟨p, xs, e3, e4, e5⟩, s'⟩ := s.pop.item na it (fun v => ∃ p xs, x = .ref p ∧ SqL K H p xs ∧ L2.atI xs k = some v) fun G rp sm => by
    rw [ha] at rp
    obtain ⟨p, xs, rfl, h1, h2⟩ := rp.list_inv
    obtain ⟨v, h3, h4⟩ := Reps.atI h2 e
    exact ⟨v, ⟨p, xs, rfl, sm.seq h1, h3⟩, h4⟩
  exact ⟨p, xs, k, v, e3, rfl, e4, e5, kk _ q _ H s'⟩
theorem op_ixT {ds : List PyData} {y : PyData} {c : TV} {k : Int} (ha : a.data = .tuple ds) (e : atI ds k = some y) (it : Item a y c) (q : Q c) (na : NR a := by first | exact NR.av | exact NR.bor) : Op K E X (rIxT K) a (.av (.d (.int k))) Q := fun H0 σ ρ ts as H x w QV s _ kk => by
  have e2 := s.top_d.int_inv
  subst e2
  obtain ⟨v, ⟨p, xs, e3, e4, e5⟩, s'⟩ := s.pop.item na it (fun v => ∃ p xs, x = .ref p ∧ SqT K H p xs ∧ L2.atI xs k = some v) fun G rp sm => by
    rw [ha] at rp
    obtain ⟨p, xs, rfl, h1, h2⟩ := rp.tuple_inv
    obtain ⟨v, h3, h4⟩ := Reps.atI h2 e
    exact ⟨v, ⟨p, xs, rfl, sm.tupS h1, h3⟩, h4⟩
  exact ⟨p, xs, k, v, e3, rfl, e4, e5, kk _ q _ H s'⟩
/-! arguments -/
theorem ea_nil {P : List TV → Prop} (q : P []) : Ea K E X tNil ρ P := fun H0 σ ts as H QV s _ k => k [] q [] H s rfl
theorem ea_cons {A : TA} {P : List TV → Prop} (h : Ev K E X ta ρ fun a => Ea K E X A ρ fun bs => P (a :: bs)) : Ea K E X (tCons ta A) ρ P := fun H0 σ ts as H QV s x k =>
  h H0 σ ts as H _ s x fun a qa v H' s' => qa H0 σ _ _ H' _ s' x fun bs qb vs H2 s2 hl => k (a :: bs) qb (v :: vs) H2 (s2.rot hl) (by simp [hl])
theorem ev_cb {r : List V → Hp → VK → Prop} {A : TA} (h : Ea K E X A ρ fun bs => Bi K E X r bs Q) : Ev K E X (tCB r A) ρ Q := fun H0 σ ts as H QV s x k =>
  h H0 σ ts as H _ s x fun bs qb vs H2 s2 hl => qb H0 σ ρ ts as H2 vs QV s2 hl x k
theorem Stos.len {bs : List TV} {xs : List AV} (h : Stos bs xs) : bs.length = xs.length := by
  induction h with
  | nil => rfl
  | cons _ _ ih => simp [ih]
theorem ev_lst {A : TA} (h : Ea K E X A ρ fun bs => ∃ xs, Stos bs xs ∧ bs.length ≤ 1000 ∧ Q (.av (.own xs))) : Ev K E X (tLst A) ρ Q := fun H0 σ ts as H QV s x k =>
  h H0 σ ts as H _ s x fun bs ⟨xs, hs, hz, q⟩ vs H2 s2 hl => ⟨Nat.le_of_lt (small1000 (by omega)), fun p hp => k _ q _ _ (SR.new (SR.stos (us := []) (cs := []) hs hl rfl s2) (by rw [hl, hs.len]) hp)⟩
/-- a new tuple: what it holds is given up -/
theorem SR.newT {H0 H : Hp} {σ : St} {ρ : Sl} {ts : List V} {as : List TV} {l : Addr} {vs : List V} {xs : List AV} (h : SR K H0 σ ρ (vs ++ ts) (xs.map TV.av ++ as) H) (e : vs.length = xs.length) (hl : H l = none) : SR K H0 σ ρ (.ref l :: ts) (.av (.d (.tuple (AV.datas xs))) :: as) (upd H l (.tup vs)) := by
  obtain ⟨⟨p, q, h1, h2, h3, h4⟩, s⟩ := h
  have hL := SR.lsts h1 h2
  obtain ⟨p1, p2, e2, e3, e4⟩ := RTs.avs (xs := xs) e h2
  have s2 : Same H (upd H l (.tup vs)) := same_new hl
  have zl : p l + q l = 0 := by
    rcases Nat.eq_zero_or_pos (p l + q l) with w | w
    · exact w
    · obtain ⟨_, w⟩ := hL l w; rw [hl] at w; cases w
  have m : Same (hid H p q) (hid (upd H l (.tup vs)) p p2) := (hid_more (p' := p) (q' := p2) fun b z => by have := e2 b; omega).trans (same_hid s2)
  refine ⟨⟨p, p2, h1.mono m (fun b o _ => s2 b o), .cons (.av (.d (p := fun _ => 0) (.tup (SqT.of ?_) (e3.frz m fun b o y z => ?_)) fun _ => rfl)) (e4.mono m s2) (fun b => by simp), fun b => by have := e2 b; have := h3 b; omega, fun b z => h4 b (by have := e2 b; omega)⟩, s.trans s2⟩
  · unfold hid; rw [if_pos (by have := e2 l; omega)]; exact upd_same
  · unfold hid; rw [if_pos (by have := e2 b; have := h3 b; omega)]; exact s2 b o z
theorem ev_tup {A : TA} (h : Ea K E X A ρ fun bs => ∃ xs, Stos bs xs ∧ bs.length ≤ 1000 ∧ Q (.av (.d (.tuple (AV.datas xs))))) : Ev K E X (tTup A) ρ Q := fun H0 σ ts as H QV s x k =>
  h H0 σ ts as H _ s x fun bs ⟨xs, hs, hz, q⟩ vs H2 s2 hl => ⟨Nat.le_of_lt (small1000 (by omega)), fun p hp => k _ q _ _ (SR.newT (SR.stos (us := []) (cs := []) hs hl rfl s2) (by rw [hl, hs.len]) hp)⟩
/-! tests -/
theorem tv_test {P : Bool → Prop} (h : Ev K E X te ρ fun a => ∃ c, a = .av (.d (.bool c)) ∧ P c) : Tv K E X (tTest te) ρ P := fun H0 σ ts as H QV s x k =>
  h H0 σ ts as H _ s x fun a ⟨c, e, p⟩ v H' s' => by subst e; exact ⟨c, Rep.bl_inv s'.top_d, k c p H' s'.pop⟩
theorem tv_b {P : Bool → Prop} (h : Ev K E X te ρ fun a => ∃ c, a = .av (.d (.bool c)) ∧ P c) : Tv K E X (tB te) ρ P := tv_test h
theorem tv_and {ca cb : TT} {P : Bool → Prop} (h : Tv K E X ca ρ fun c => if c = true then Tv K E X cb ρ P else P false) : Tv K E X (tAnd ca cb) ρ P := fun H0 σ ts as H QV s x k =>
  h H0 σ ts as H _ s x fun c qc H' s' => by
    cases c with
    | true => rw [if_pos rfl] at qc ⊢; exact qc H0 σ ts as H' QV s' x k
    | false => rw [if_neg Bool.false_ne_true] at qc ⊢; exact k _ qc H' s'
theorem tv_or {ca cb : TT} {P : Bool → Prop} (h : Tv K E X ca ρ fun c => if c = true then P true else Tv K E X cb ρ P) : Tv K E X (tOr ca cb) ρ P := fun H0 σ ts as H QV s x k =>
  h H0 σ ts as H _ s x fun c qc H' s' => by
    cases c with
    | true => rw [if_pos rfl] at qc ⊢; exact k _ qc H' s'
    | false => rw [if_neg Bool.false_ne_true] at qc ⊢; exact qc H0 σ ts as H' QV s' x k
theorem tv_not {ca : TT} {P : Bool → Prop} (h : Tv K E X ca ρ fun c => P (!c)) : Tv K E X (tNot ca) ρ P := fun H0 σ ts as H QV s x k =>
  h H0 σ ts as H _ s x fun c qc H' s' => k _ qc H' s'
theorem tv_all {P : Bool → Prop} (q : P true) : Tv K E X tAll ρ P := fun H0 σ ts as H QV s x k => k _ q H s
theorem ev_and (h : Ev K E X ta ρ fun a => ∃ c, a = .av (.d (.bool c)) ∧ if c = true then Ev K E X tb ρ Q else Q (.av (.d (.bool false)))) : Ev K E X (tAndV ta tb) ρ Q := fun H0 σ ts as H QV s x k =>
  h H0 σ ts as H _ s x fun a ⟨c, e, p⟩ v H' s' => by
    subst e
    refine ⟨c, Rep.bl_inv s'.top_d, ?_⟩
    cases c with
    | true => rw [if_pos rfl] at p ⊢; exact p H0 σ ts as H' QV s'.pop x k
    | false => rw [if_neg Bool.false_ne_true] at p ⊢; exact k _ p _ H' (s'.pop.bl false)
theorem ev_or (h : Ev K E X ta ρ fun a => ∃ c, a = .av (.d (.bool c)) ∧ if c = true then Q (.av (.d (.bool true))) else Ev K E X tb ρ Q) : Ev K E X (tOrV ta tb) ρ Q := fun H0 σ ts as H QV s x k =>
  h H0 σ ts as H _ s x fun a ⟨c, e, p⟩ v H' s' => by
    subst e
    refine ⟨c, Rep.bl_inv s'.top_d, ?_⟩
    cases c with
    | true => rw [if_pos rfl] at p ⊢; exact k _ p _ H' (s'.pop.bl true)
    | false => rw [if_neg Bool.false_ne_true] at p ⊢; exact p H0 σ ts as H' QV s'.pop x k
theorem ev_not (h : Ev K E X ta ρ fun a => ∃ c, a = .av (.d (.bool c)) ∧ Q (.av (.d (.bool (!c))))) : Ev K E X (tNotV ta) ρ Q := fun H0 σ ts as H QV s x k =>
  h H0 σ ts as H _ s x fun a ⟨c, e, p⟩ v H' s' => by
    subst e
    exact ⟨c, Rep.bl_inv s'.top_d, k _ p _ H' (s'.pop.bl _)⟩
theorem ev_if {c : TT} (h : Tv K E X c ρ fun b => if b = true then Ev K E X ta ρ Q else Ev K E X tb ρ Q) : Ev K E X (tIf c ta tb) ρ Q := fun H0 σ ts as H QV s x k =>
  h H0 σ ts as H _ s x fun c qc H' s' => by
    cases c with
    | true => rw [if_pos rfl] at qc ⊢; exact qc H0 σ ts as H' QV s' x k
    | false => rw [if_neg Bool.false_ne_true] at qc ⊢; exact qc H0 σ ts as H' QV s' x k
/-! ### statements -/
theorem sv_seq (h : Sv K E X t ρ { DV with nx := fun ρ' => Sv K E X u ρ' DV }) : Sv K E X (tSeq t u) ρ DV := fun H0 σ ts as H D st s x f =>
  h H0 σ ts as H { D with nx := u D } st s x ⟨fun ρ' q σ' H' s' => q H0 σ' ts as H' D st s' x f, f.bk, f.ct, f.rt⟩
theorem sv_next (h : DV.nx ρ) : Sv K E X tNext ρ DV := fun H0 σ ts as H D st s x f => f.nx ρ h σ H s
theorem sv_break (h : DV.bk ρ) : Sv K E X tBreak ρ DV := fun H0 σ ts as H D st s x f => f.bk ρ h σ H s
theorem sv_cont (h : DV.ct ρ) : Sv K E X tCont ρ DV := fun H0 σ ts as H D st s x f => f.ct ρ h σ H s
theorem sv_drop (h : Ev K E X te ρ fun _ => DV.nx ρ) : Sv K E X (tDrop te) ρ DV := fun H0 σ ts as H D st s x f =>
  h H0 σ ts as H _ s x fun a q v H' s' => f.nx ρ q σ H' s'.pop
theorem sv_ret (h : Ev K E X te ρ DV.rt) : Sv K E X (tRet te) ρ DV := fun H0 σ ts as H D st s x f =>
  h H0 σ ts as H _ s x fun a q v H' s' => f.rt a q v σ ρ H' s'
theorem sv_retN (h : DV.rt (.av (.d .none))) : Sv K E X tRetN ρ DV := fun H0 σ ts as H D st s x f => f.rt _ h _ σ ρ H (s.push fun _ => .non)
theorem sv_if {c : TT} (h : Tv K E X c ρ fun b => if b = true then Sv K E X t ρ DV else Sv K E X u ρ DV) : Sv K E X (tIfS c t u) ρ DV := fun H0 σ ts as H D st s x f =>
  h H0 σ ts as H _ s x fun c qc H' s' => by
    cases c with
    | true => rw [if_pos rfl] at qc ⊢; exact qc H0 σ ts as H' D st s' x f
    | false => rw [if_neg Bool.false_ne_true] at qc ⊢; exact qc H0 σ ts as H' D st s' x f
theorem sv_frz {a : AV} (i : Nat) (hi : ρ[i]? = some (some a)) (h : Sv K E X t (ρ.set i (some (.d a.data))) DV) : Sv K E X t ρ DV := fun H0 σ ts as H D st s x f => h H0 σ ts as H D st (s.frz hi) x f
theorem sv_wk {ρ' : Sl} (w : Wk ρ ρ') (h : Sv K E X t ρ' DV) : Sv K E X t ρ DV := fun H0 σ ts as H D st s x f => h H0 σ ts as H D st (w _ _ _ _ _ _ s) x f
/-- x = e -/
theorem sv_asg (h : Ev K E X te ρ fun a => ∃ a', Sto ρ a a' ∧ DV.nx (ρ.set n (some a'))) (hn : n < ρ.length := by simp) : Sv K E X (tAsg te (gName n)) ρ DV := fun H0 σ ts as H D st s x f =>
  h H0 σ ts as H _ s x fun a ⟨a', e, q⟩ v H' s' => f.nx _ q _ H' ((s'.stoS st e).store hn)
theorem gv_name {x : PyData} {P : Sl → Prop} (h : P (ρ.set n (some (.d x)))) (hn : n < ρ.length := by simp) : Gv K (gName n) x ρ P := fun H0 σ ts as H v Qg s k => k _ h _ H (s.store hn)
end
end VL
end

section
set_option Elab.async false
set_option linter.all false
set_option maxRecDepth 100000
set_option maxHeartbeats 4000000
namespace VL
open PySem PySem.Spec L2
theorem small6 {n : Nat} (h : n ≤ 1000000) : n < sizeLine := Nat.lt_of_le_of_lt h (by decide)
section
variable {K : PySem.W.Frag} {G G' H H' H0 : Hp} {σ : St} {ρ : Sl} {ts : List V} {as : List TV} {v x y : V} {a b : TV}
/-! ### lists are written -/
theorem RAs.len : ∀ {vs : List V} {xs : List AV} {p : Fp}, RAs K G H vs xs p → vs.length = xs.length
  | _, _, _, .nil _ => rfl
  | _, _, _, .cons _ rs _ => by simp [RAs.len rs]
theorem RAs.snoc {w : V} {c : AV} {q : Fp} (r : RA K G H w c q) : ∀ {vs : List V} {xs : List AV} {p : Fp}, RAs K G H vs xs p → RAs K G H (vs ++ [w]) (xs ++ [c]) (fun b => p b + q b)
  | _, _, _, .nil e => .cons r (.nil (p := fun _ => 0) fun _ => rfl) (fun b => by have := e b; simp; omega)
  | _, _, _, .cons (p := p1) (q := q1) r1 rs e => .cons r1 (RAs.snoc r rs) (fun b => by have := e b; show _ + q b = p1 b + (q1 b + q b); omega)
theorem RAs.set {w : V} {c : AV} {q : Fp} (r : RA K G H w c q) : ∀ {vs : List V} {xs : List AV} {p : Fp} (j : Nat), RAs K G H vs xs p → ∃ p' : Fp, (∀ b, p' b ≤ p b + q b) ∧ RAs K G H (vs.set j w) (xs.set j c) p'
  | _, _, p, j, .nil e => ⟨p, fun b => by omega, .nil e⟩
  | _, _, _, 0, .cons (q := q1) r1 rs e => ⟨fun b => q b + q1 b, fun b => by have := e b; dsimp only; omega, .cons r rs fun _ => rfl⟩
  | _, _, _, j + 1, .cons (p := p1) r1 rs e => by
    obtain ⟨p', h1, h2⟩ := RAs.set r j rs
    exact ⟨fun b => p1 b + p' b, fun b => by have := e b; have := h1 b; dsimp only; omega, .cons r1 h2 fun _ => rfl⟩
theorem RAs.rev : ∀ {vs : List V} {xs : List AV} {p : Fp}, RAs K G H vs xs p → ∃ p' : Fp, (∀ b, p' b = p b) ∧ RAs K G H vs.reverse xs.reverse p'
  | _, _, p, .nil e => ⟨p, fun _ => rfl, .nil e⟩
  | _, _, _, .cons (p := p1) r1 rs e => by
    obtain ⟨p', h1, h2⟩ := RAs.rev rs
    refine ⟨fun b => p' b + p1 b, fun b => by have := e b; have := h1 b; dsimp only; omega, ?_⟩
    rw [List.reverse_cons, List.reverse_cons]
    exact RAs.snoc r1 h2
/-- a name's list is written, with the value on the top -/
theorem SR.write {i : Nat} {xs xs' : List AV} {c : AV} (h : SR K H0 σ ρ (v :: ts) (.av c :: as) H) (hS : Stb as) (hi : ρ[i]? = some (some (.own xs))) :
    ∃ l vs, σ[i]? = some (some (.ref l)) ∧ H l = some (.lst vs) ∧ vs.length = xs.length ∧ ∀ vs', (∀ G H p q, RAs K G H vs xs p → RA K G H v c q → ∃ p' : Fp, (∀ b, p' b ≤ p b + q b) ∧ RAs K G H vs' xs' p') → SR K H0 σ (ρ.set i (some (.own xs'))) ts as (upd H l (.lst vs')) := by
  obtain ⟨⟨p, q, h1, h2, h3, h4⟩, s⟩ := h
  obtain ⟨p1, p2, w, e1, e2, e3, e4⟩ := h1.frz hi fun _ _ _ _ => trivial
  cases h2 with
  | @cons _ _ _ _ q1 q2 _ r rs eq =>
    cases r with
    | av r =>
    cases e3 with
    | @own l vs _ p3 _ hl hr ep =>
      refine ⟨l, vs, e2, hl, hr.len, fun vs' hw => ?_⟩
      have hpl : p1 l = 1 + p3 l := by have := ep l; simpa using this
      have ne : ∀ b u, p b + q b = 0 → H b = some u → b ≠ l := fun b u z _ y => by subst y; have := e1 b; omega
      -- what stood, in the new heap
      have m0 : Same (hid H p q) (hid (upd H l (.lst vs')) p q) := hid_upd fun b u z w => ⟨z, ne b u z w⟩
      have k1 : ∀ b o, 0 < p3 b → H b = some o → upd H l (.lst vs') b = some o := fun b o z w => by
        rw [upd_ne (fun y => by subst y; have := h3 b; have := e1 b; omega)]; exact w
      have k2 : ∀ b o, 0 < q b → H b = some o → upd H l (.lst vs') b = some o := fun b o z w => by
        rw [upd_ne (fun y => by subst y; have := h3 b; have := e1 b; omega)]; exact w
      have k3 : ∀ b o, 0 < p2 b → H b = some o → upd H l (.lst vs') b = some o := fun b o z w => by
        rw [upd_ne (fun y => by subst y; have := h3 b; have := e1 b; omega)]; exact w
      obtain ⟨p', l1, l2⟩ := hw _ _ _ _ (hr.mono m0 k1) (r.mono m0 fun b o z => k2 b o (by have := eq b; omega))
      have z := e4 (hid (upd H l (.lst vs')) p q) (upd H l (.lst vs')) (.ref l) (.own xs') (fun b => (if b = l then 1 else 0) + p' b) (fun b => ((if b = l then 1 else 0) + p' b) + p2 b) m0 k3 (.own upd_same l2 fun _ => rfl) (fun _ => rfl)
      rw [set_same e2] at z
      have s2 : Same H0 (upd H l (.lst vs')) := s.updF (h4 l (by have := e1 l; omega))
      refine SR.of_le (p := p) (q := q) (p' := fun b => ((if b = l then 1 else 0) + p' b) + p2 b) (q' := q2) s2 h3 h4 (fun b => ?_) z (rs.monoS m0 hS fun b o y => k2 b o (by have := eq b; omega))
      have := l1 b; have := ep b; have := e1 b; have := eq b
      show ((if b = l then 1 else 0) + p' b) + p2 b + q2 b ≤ p b + q b
      omega
theorem RSl.take {m : Nat} {c : AV} {p : Fp} (r : RSl K G H σ ρ p) (hm : ρ[m]? = some (some c)) : ∃ (p1 p2 : Fp) (w : V), (∀ b, p b = p1 b + p2 b) ∧ σ[m]? = some (some w) ∧ RA K G H w c p1 ∧ RSl K G H σ (ρ.set m none) p2 := by
  induction r generalizing m with
  | nil _ => simp at hm
  | @no o σ ρ p r ih =>
    cases m with
    | zero => simp at hm
    | succ m =>
      obtain ⟨p1, p2, w, e1, e2, e3, e4⟩ := ih (by simpa using hm)
      exact ⟨p1, p2, w, e1, by simpa using e2, e3, .no e4⟩
  | @so v a0 σ ρ pa pb pr ra r e ih =>
    cases m with
    | zero =>
      have : a0 = c := by simpa using hm
      subst this
      exact ⟨pa, pb, v, e, rfl, ra, .no r⟩
    | succ m =>
      obtain ⟨p1, p2, w, e1, e2, e3, e4⟩ := ih (by simpa using hm)
      exact ⟨p1, fun b => pa b + p2 b, w, fun b => by have := e b; have := e1 b; dsimp only; omega, by simpa using e2, e3, .so ra e4 fun _ => rfl⟩
/-- a name's value is handed on -/
theorem SR.take {m : Nat} {c : AV} (h : SR K H0 σ ρ ts as H) (hm : ρ[m]? = some (some c)) : ∃ w, σ[m]? = some (some w) ∧ SR K H0 σ (ρ.set m none) (w :: ts) (.av c :: as) H := by
  obtain ⟨⟨p, q, h1, h2, h3, h4⟩, s⟩ := h
  obtain ⟨p1, p2, w, e1, e2, e3, e4⟩ := h1.take hm
  refine ⟨w, e2, SR.of_le (p := p) (q := q) (p' := p2) (q' := fun b => p1 b + q b) s h3 h4 (fun b => ?_) e4 (.cons (.av e3) h2 fun _ => rfl)⟩
  have := e1 b
  show p2 b + (p1 b + q b) ≤ _
  omega
/-- the list on the way is written -/
theorem SR.snocT {D : Addr} {ys : List AV} {c : AV} (h : SR K H0 σ ρ (v :: .ref D :: ts) (.av c :: .av (.own ys) :: as) H) (hS : Stb as) : ∃ vs, H D = some (.lst vs) ∧ vs.length = ys.length ∧ SR K H0 σ ρ (.ref D :: ts) (.av (.own (ys ++ [c])) :: as) (upd H D (.lst (vs ++ [v]))) := by
  obtain ⟨⟨p, q, h1, h2, h3, h4⟩, s⟩ := h
  cases h2 with
  | @cons _ _ _ _ qa qb _ r rs eq =>
  cases r with
  | av r =>
  cases rs with
  | @cons _ _ _ _ qc qd _ r2 rs eq2 =>
  cases r2 with
  | av r2 =>
  cases r2 with
  | @own l vs _ p3 _ hl hr ep =>
    refine ⟨vs, hl, hr.len, ?_⟩
    have hpl : qc D = 1 + p3 D := by have := ep D; simpa using this
    have ne : ∀ b u, p b + q b = 0 → H b = some u → b ≠ D := fun b u z _ y => by subst y; have := eq b; have := eq2 b; omega
    have m0 : Same (hid H p q) (hid (upd H D (.lst (vs ++ [v]))) p q) := hid_upd fun b u z w => ⟨z, ne b u z w⟩
    have k1 : ∀ b o, 0 < p b + qa b + qd b + p3 b → H b = some o → upd H D (.lst (vs ++ [v])) b = some o := fun b o z w => by
      rw [upd_ne (fun y => by subst y; have := h3 b; have := eq b; have := eq2 b; omega)]; exact w
    have s2 : Same H0 (upd H D (.lst (vs ++ [v]))) := s.updF (h4 D (by have := eq D; have := eq2 D; omega))
    refine ⟨⟨p, fun b => ((if b = D then 1 else 0) + (p3 b + qa b)) + qd b, ?_, .cons (.av (.own upd_same (RAs.snoc (r.mono ?_ fun b o z => k1 b o (by omega)) (hr.mono ?_ fun b o z => k1 b o (by omega))) fun _ => rfl)) (rs.monoS ?_ hS fun b o z => k1 b o (by omega)) (fun _ => rfl), ?_, ?_⟩, s2⟩
    all_goals first
      | (refine h1.mono (m0.trans (hid_more fun b z => ?_)) fun b o z => k1 b o (by omega))
      | (refine m0.trans (hid_more fun b z => ?_))
      | intro b
    all_goals (try (intro z))
    all_goals (have e5 := eq b; have e6 := eq2 b; have e7 := ep b; have e8 := h3 b)
    all_goals first
      | (show p b + (((if b = D then 1 else 0) + (p3 b + qa b)) + qd b) = 0; omega)
      | (show p b + (((if b = D then 1 else 0) + (p3 b + qa b)) + qd b) ≤ 1; omega)
      | (refine h4 b ?_; have z' : 0 < p b + (((if b = D then 1 else 0) + (p3 b + qa b)) + qd b) := z; omega)
end
section
variable {K : PySem.W.Frag} {E : XK} {X : Exc → Prop} {ρ : Sl} {Q : TV → Prop} {DV : VEnds} {ta tb te : TE} {i j : Int} {n : Nat} {r : R2} {t u : TS} {a b : TV}
/-- x.append(e) -/
theorem sv_append {xs : List AV} (hi : ρ[n]? = some (some (.own xs))) (h : Ev K E X te ρ fun a => ∃ a', a.sto = some a' ∧ xs.length ≤ 1000000 ∧ DV.nx (ρ.set n (some (.own (xs ++ [a']))))) : Sv K E X (tDrop (tBM K "list" rAppend (tVar n) (tCons te tNil))) ρ DV := fun H0 σ ts as H D st s x f => by
  obtain ⟨l, vs, e1, e2, e3, _⟩ := (s.push (x := .none) fun _ => .non).write (xs' := xs) st hi
  refine ⟨.ref l, e1, rd_tyL e2 (h H0 σ ts as H _ s x fun a ⟨a', e, hz, q⟩ v H' s' => ?_)⟩
  obtain ⟨l', vs', e1', e2', e3', e4'⟩ := (s'.sto e).write (xs' := xs ++ [a']) st hi
  rw [e1] at e1'
  cases e1'
  refine ⟨l, vs', v, rfl, rfl, e2', small6 (by omega), f.nx _ q _ _ (e4' _ fun G H p q r1 r2 => ⟨_, fun _ => Nat.le_refl _, RAs.snoc r2 r1⟩)⟩
/-- x.reverse() -/
theorem sv_reverse {xs : List AV} (hi : ρ[n]? = some (some (.own xs))) (h : DV.nx (ρ.set n (some (.own xs.reverse)))) : Sv K E X (tDrop (tBM0 K "list" rReverse (tVar n))) ρ DV := fun H0 σ ts as H D st s x f => by
  obtain ⟨l, vs, e1, e2, e3, e4⟩ := (s.push (x := .none) fun _ => .non).write (xs' := xs.reverse) st hi
  refine ⟨.ref l, e1, rd_tyL e2 ⟨l, vs, rfl, rfl, e2, f.nx _ h _ _ (e4 _ fun G H p q r1 r2 => ?_)⟩⟩
  obtain ⟨p', h1, h2⟩ := r1.rev
  exact ⟨p', fun b => by have := h1 b; omega, h2⟩
/-- x[k] = e -/
theorem sv_setitem {xs : List AV} {ti : TE} (hi : ρ[n]? = some (some (.own xs))) (h : Ev K E X te ρ fun a => Ev K E X ti ρ fun b => ∃ a' k j, a.sto = some a' ∧ b = .av (.d (.int k)) ∧ ixN xs.length k = some j ∧ DV.nx (ρ.set n (some (.own (xs.set j a'))))) : Sv K E X (tAsg te (gSub (tVar n) ti rSetL)) ρ DV := fun H0 σ ts as H D st s x f => by
  refine h H0 σ ts as H _ s x fun a h2 v H1 s1 => ?_
  obtain ⟨l, vs, e1, e2, e3, _⟩ := (s.push (x := .none) fun _ => .non).write (xs' := xs) st hi
  refine ⟨.ref l, e1, h2 H0 σ _ _ H1 _ s1 x fun b ⟨a', k, j, e, eb, hj, q⟩ w H2 s2 => ?_⟩
  subst eb
  have ew := s2.top_d.int_inv
  subst ew
  obtain ⟨l', vs', e1', e2', e3', e4'⟩ := (s2.pop.sto e).write (xs' := xs.set j a') st hi
  rw [e1] at e1'
  cases e1'
  exact ⟨l, vs', k, j, rfl, rfl, e2', by rw [e3']; exact hj, f.nx _ q _ _ (e4' _ fun G H p q r1 r2 => RAs.set r2 j r1)⟩
/-- x.append(y), y's list is handed on -/
theorem sv_move {m : Nat} {xs ys : List AV} (hm : ρ[m]? = some (some (.own ys))) (hi : ρ[n]? = some (some (.own xs))) (hne : n ≠ m) (hz : xs.length ≤ 1000000) (q : DV.nx ((ρ.set m none).set n (some (.own (xs ++ [.own ys]))))) : Sv K E X (tDrop (tBM K "list" rAppend (tVar n) (tCons (tVar m) tNil))) ρ DV := fun H0 σ ts as H D st s x f => by
  obtain ⟨w, g1, s'⟩ := s.take hm
  obtain ⟨l, vs, e1, e2, e3, e4⟩ := s'.write (i := n) (xs := xs) (xs' := xs ++ [.own ys]) st (by rw [List.getElem?_set_ne (Ne.symm hne)]; exact hi)
  exact ⟨.ref l, e1, rd_tyL e2 ⟨w, g1, l, vs, w, rfl, rfl, e2, small6 (by omega), f.nx _ q _ _ (e4 _ fun G H p q r1 r2 => ⟨_, fun _ => Nat.le_refl _, RAs.snoc r2 r1⟩)⟩⟩
/-- return x, x's list is handed on -/
theorem sv_retO {xs : List AV} (hm : ρ[n]? = some (some (.own xs))) (q : DV.rt (.av (.own xs))) : Sv K E X (tRet (tVar n)) ρ DV := fun H0 σ ts as H D st s x f => by
  obtain ⟨w, g1, s'⟩ := s.take hm
  exact ⟨w, g1, f.rt _ q _ _ _ _ s'⟩
end
end VL
end

section
set_option Elab.async false
set_option linter.all false
set_option maxRecDepth 100000
set_option maxHeartbeats 4000000
namespace VL
open PySem PySem.Spec L2
section
variable {K : PySem.W.Frag} {G G' H H' H0 : Hp} {σ : St} {ρ : Sl} {ts : List V} {as : List TV} {v x y : V} {a b : TV}
/-- an item of what is walked, kept on the way -/
theorem SR.turn {J : It} {u : V} {z : PyData} {n i : Nat} {f : Nat → PyData} (s : SR K H0 σ ρ (u :: ts) (.av (.d z) :: as) H) (ok : ItOk K J u z n f) (hi : i < n) : J.go i H ∧ ∀ x H', J.yld i H x H' → SR K H0 σ ρ (x :: u :: ts) (.av (.d (f i)) :: .av (.d z) :: as) H' := by
  have s0 := s
  obtain ⟨⟨p, q, h1, h2, h3, h4⟩, e⟩ := s
  have hL := SR.lsts h1 h2
  cases h2 with
  | @cons _ _ _ _ q1 q2 _ r rs eq =>
  cases r with
  | av r =>
  cases r with
  | d rp w =>
    obtain ⟨g1, _⟩ := ok _ H hid_le rp
    obtain ⟨g2, g3⟩ := g1 i hi
    refine ⟨g2, fun x H' y => ?_⟩
    obtain ⟨e1, e2⟩ := g3 x H' y
    have s1 := s0.ext e1
    obtain ⟨⟨p', q', k1, k2, k3, k4⟩, e'⟩ := s1
    have m : Same (hid H p q) (hid H' p q) := same_hid e1
    refine ⟨⟨p, q, h1.mono m (fun b o _ => e1 b o), .cons (.av (.d (p := fun _ => 0) (e2 (hid H' p q) m fun b o hb hn => ?_) fun _ => rfl)) (.cons (.av (.d (rp.same m) w)) (rs.mono m e1) eq) (fun b => by simp), h3, h4⟩, e'⟩
    unfold hid
    rw [if_pos]
    · exact hb
    · rcases Nat.eq_zero_or_pos (p b + q b) with c | c
      · exact c
      · obtain ⟨vs, y⟩ := hL b c; rw [hn] at y; cases y
theorem SR.halt {J : It} {u : V} {z : PyData} {n i : Nat} {f : Nat → PyData} (s : SR K H0 σ ρ (u :: ts) (a :: as) H) (na : NR a) (ez : a.data = z) (ok : ItOk K J u z n f) (hi : n ≤ i) : J.stop i H := (ok H H (.refl H) (ez ▸ s.top na)).2 i hi
end
section
variable {K : PySem.W.Frag} {E : XK} {X : Exc → Prop} {ρ : Sl} {Q : TV → Prop} {DV : VEnds} {ta tb te : TE} {i j : Int} {n : Nat} {r : R2} {t u : TS} {a b : TV}
/-! ### what is walked -/
theorem SR.frzV {H0 H : Hp} {σ : St} {ts : List V} {as : List TV} {v : V} (s : SR K H0 σ ρ (v :: ts) (a :: as) H) : SR K H0 σ ρ (v :: ts) (a.frz :: as) H := by
  cases a with
  | av a => exact s.frzT
  | bor x => exact s
  | raw v => exact s
theorem TV.frz_data (a : TV) : a.frz.data = a.data := by cases a <;> rfl
theorem TV.frz_nr (h : NR a) : NR a.frz := by
  cases a with
  | av a => exact NR.av
  | bor x => exact NR.bor
  | raw v => exact absurd rfl (h v)
theorem iv_list {P : Nat → (Nat → PyData) → TV → Prop} (h : Ev K E X te ρ fun a => ∃ ds, a.data = .list ds ∧ NR a ∧ P ds.length (fun i => ds.getD i .none) a.frz) : Iv K E X (iList K te) ρ P := fun H0 σ ts as H R s x k =>
  h H0 σ ts as H _ s x fun a ⟨ds, e, na, q⟩ v H' s' => by
    have rp := s'.top na
    rw [e] at rp
    obtain ⟨l, xs, rfl, h1, h2⟩ := rp.list_inv
    refine ⟨l, rfl, ⟨xs, h1⟩, k _ _ _ q (.ref l) _ H' (TV.frz_nr na) s'.frzV ?_⟩
    rw [TV.frz_data, e]
    intro G H sm rp
    obtain ⟨l', ys, e', h3, h4⟩ := rp.list_inv
    cases e'
    have h5 := sm.seq h3
    refine ⟨fun i hi => ?_, fun i hi => ⟨ys, h5, by rw [h4.length]; exact hi⟩⟩
    obtain ⟨w, h6, h7⟩ := h4.get (i := i) (d := ds.getD i .none) (by rw [List.getD_eq_getElem?_getD, List.getElem?_eq_getElem hi]; rfl)
    refine ⟨⟨ys, w, h5, h6⟩, fun x H' ⟨e1, e2⟩ => ?_⟩
    subst e1
    have := e2 ys h5
    rw [h6] at this
    cases this
    exact ⟨.refl _, fun G' m _ => h7.same m⟩
theorem iv_tup {P : Nat → (Nat → PyData) → TV → Prop} (h : Ev K E X te ρ fun a => ∃ ds, a.data = .tuple ds ∧ NR a ∧ P ds.length (fun i => ds.getD i .none) a.frz) : Iv K E X (iTup K te) ρ P := fun H0 σ ts as H R s x k =>
  h H0 σ ts as H _ s x fun a ⟨ds, e, na, q⟩ v H' s' => by
    have rp := s'.top na
    rw [e] at rp
    obtain ⟨l, xs, rfl, h1, h2⟩ := rp.tuple_inv
    refine ⟨l, rfl, ⟨xs, h1⟩, k _ _ _ q (.ref l) _ H' (TV.frz_nr na) s'.frzV ?_⟩
    rw [TV.frz_data, e]
    intro G H sm rp
    obtain ⟨l', ys, e', h3, h4⟩ := rp.tuple_inv
    cases e'
    have h5 := sm.tupS h3
    refine ⟨fun i hi => ?_, fun i hi => ⟨ys, h5, by rw [h4.length]; exact hi⟩⟩
    obtain ⟨w, h6, h7⟩ := h4.get (i := i) (d := ds.getD i .none) (by rw [List.getD_eq_getElem?_getD, List.getElem?_eq_getElem hi]; rfl)
    refine ⟨⟨ys, w, h5, h6⟩, fun x H' ⟨e1, e2⟩ => ?_⟩
    subst e1
    have := e2 ys h5
    rw [h6] at this
    cases this
    exact ⟨.refl _, fun G' m _ => h7.same m⟩
theorem it_range {lo : Int} {m : Nat} : ItOk K (Itr lo m) .non .none m fun i => .int (lo + i) := fun G H sm rp =>
  ⟨fun i hi => ⟨hi, fun x H' ⟨e1, e2⟩ => by subst e1 e2; exact ⟨.refl _, fun _ _ _ => .int _⟩⟩, fun i hi => hi⟩
theorem ints_of {H0 H : Hp} {σ : St} {ts : List V} {as : List TV} {vs : List V} (s : SR K H0 σ ρ (vs ++ ts) ([.av (.d (.int i))] ++ as) H) (hl : vs.length = 1) : vs = [.int i] ∧ SR K H0 σ ρ ts as H := by
  match vs, hl with
  | [v], _ =>
    have e := SR.top_d (v := v) s
    rw [e.int_inv]
    exact ⟨rfl, SR.pop (v := v) s⟩
theorem ints_of2 {H0 H : Hp} {σ : St} {ts : List V} {as : List TV} {vs : List V} (s : SR K H0 σ ρ (vs ++ ts) ([.av (.d (.int i)), .av (.d (.int j))] ++ as) H) (hl : vs.length = 2) : vs = [.int i, .int j] ∧ SR K H0 σ ρ ts as H := by
  match vs, hl with
  | [v, w], _ =>
    have s' : SR K H0 σ ρ (v :: w :: ts) (.av (.d (.int i)) :: .av (.d (.int j)) :: as) H := s
    have e1 := s'.top_d.int_inv
    have e2 := s'.pop.top_d.int_inv
    subst e1 e2
    exact ⟨rfl, s'.pop.pop⟩
theorem iv_rng1 {A : TA} {P : Nat → (Nat → PyData) → TV → Prop} (h : Ea K E X A ρ fun bs => ∃ j, bs = [.av (.d (.int j))] ∧ (-(2 ^ 62) ≤ j ∧ j < 2 ^ 62) ∧ P j.toNat (fun i => .int (0 + (i : Int))) (.av (.d .none))) : Iv K E X (iRng1 A) ρ P := fun H0 σ ts as H R s x k =>
  h H0 σ ts as H _ s x fun bs ⟨j, e, hj, q⟩ vs H' s' hl => by
    subst e
    obtain ⟨rfl, s2⟩ := ints_of s' hl
    exact ⟨j, rfl, hj.1, hj.2, k _ _ _ q .non _ H' (fun _ z => nomatch z) (s2.push fun _ => .non) it_range⟩
theorem iv_rng2 {A : TA} {P : Nat → (Nat → PyData) → TV → Prop} (h : Ea K E X A ρ fun bs => ∃ i j, bs = [.av (.d (.int i)), .av (.d (.int j))] ∧ (-(2 ^ 62) ≤ i ∧ i < 2 ^ 62 ∧ -(2 ^ 62) ≤ j ∧ j < 2 ^ 62) ∧ P (j - i).toNat (fun k => .int (i + (k : Int))) (.av (.d .none))) : Iv K E X (iRng2 A) ρ P := fun H0 σ ts as H R s x k =>
  h H0 σ ts as H _ s x fun bs ⟨i, j, e, hj, q⟩ vs H' s' hl => by
    subst e
    obtain ⟨rfl, s2⟩ := ints_of2 s' hl
    exact ⟨i, j, rfl, hj, k _ _ _ q .non _ H' (fun _ z => nomatch z) (s2.push fun _ => .non) it_range⟩
/-! ### loops -/
theorem sv_for {wi : TI} {g : TG} {tb : TS} (h : Iv K E X wi ρ fun n f hd => (∃ z, hd = .av (.d z)) ∧ ∃ Iv : Nat → Sl → Prop, Iv 0 ρ ∧ (∀ i ρ', i < n → Iv i ρ' → Gv K g (f i) ρ' fun ρ'' => Sv K E X tb ρ'' { nx := Iv (i + 1), ct := Iv (i + 1), bk := DV.nx, rt := DV.rt }) ∧ ∀ ρ', Iv n ρ' → DV.nx ρ') : Sv K E X (tFor wi g tb) ρ DV := fun H0 σ ts as H D st s x f =>
  h H0 σ ts as H _ s x fun n ft hd ⟨⟨z, ez⟩, Iw, i0, turn, fin⟩ u J H' _ s' ok => by
    subst ez
    refine ⟨fun i m σ' H' => m = n - i ∧ i ≤ n ∧ ∃ ρ', Iw i ρ' ∧ SR K H0 σ' ρ' (u :: ts) (.av (.d z) :: as) H', ⟨n, by simp, Nat.zero_le _, ρ, i0, s'⟩, ?_⟩
    rintro i m σ1 H1 ⟨rfl, hi, ρ1, i1, s1⟩
    by_cases hlt : i < n
    · obtain ⟨g1, g2⟩ := s1.turn ok hlt
      refine .inr ⟨g1, fun σ2 H2 => ∃ ρ', Iw (i + 1) ρ' ∧ SR K H0 σ2 ρ' (u :: ts) (.av (.d z) :: as) H2, fun σ2 H2 p => ⟨n - (i + 1), by omega, rfl, hlt, p⟩, fun y H2 hy => ?_⟩
      refine turn i ρ1 hlt i1 H0 σ1 _ _ H2 y _ (g2 y H2 hy) fun ρ2 sv σ3 H3 s3 => ?_
      exact sv H0 σ3 _ _ H3 _ (Stb.cons st) s3 x ⟨fun ρ4 q σ4 H4 s4 => ⟨ρ4, q, s4⟩, fun ρ4 q σ4 H4 s4 => f.nx ρ4 q σ4 H4 s4.pop, fun ρ4 q σ4 H4 s4 => ⟨ρ4, q, s4⟩, fun a q v σ4 ρ4 H4 s4 => f.rt a q v σ4 ρ4 H4 s4.swap.pop⟩
    · have e : i = n := by omega
      subst e
      exact .inl ⟨s1.halt NR.av rfl ok (Nat.le_refl _), f.nx _ (fin _ i1) _ _ s1.pop⟩
theorem sv_while {tc : TT} {tb : TS} (Iv : Nat → Sl → Prop) (m0 : Nat) (i0 : Iv m0 ρ)
    (h : ∀ m ρ', Iv m ρ' → Tv K E X tc ρ' fun b => if b = true then Sv K E X tb ρ' { nx := fun ρ2 => ∃ m', m' < m ∧ Iv m' ρ2, ct := fun ρ2 => ∃ m', m' < m ∧ Iv m' ρ2, bk := DV.nx, rt := DV.rt } else DV.nx ρ') : Sv K E X (tWhile tc tb) ρ DV := fun H0 σ ts as H D st s x f => by
  refine ⟨fun m σ' H' => ∃ ρ', Iv m ρ' ∧ SR K H0 σ' ρ' ts as H', ⟨m0, ρ, i0, s⟩, ?_⟩
  rintro m σ1 H1 ⟨ρ1, i1, s1⟩
  refine h m ρ1 i1 H0 σ1 ts as H1 _ s1 x fun b q H2 s2 => ?_
  cases b with
  | true =>
    rw [if_pos rfl] at q ⊢
    exact ⟨fun σ' H' => ∃ m', m' < m ∧ ∃ ρ', Iv m' ρ' ∧ SR K H0 σ' ρ' ts as H', fun σ' H' ⟨m', l, z⟩ => ⟨m', l, z⟩, q H0 σ1 ts as H2 _ st s2 x ⟨fun ρ4 ⟨m', l, z⟩ σ4 H4 s4 => ⟨m', l, ρ4, z, s4⟩, fun ρ4 q σ4 H4 s4 => f.nx ρ4 q σ4 H4 s4, fun ρ4 ⟨m', l, z⟩ σ4 H4 s4 => ⟨m', l, ρ4, z, s4⟩, f.rt⟩⟩
  | false =>
    rw [if_neg Bool.false_ne_true] at q ⊢
    exact f.nx _ q _ _ s2
/-! ### comprehensions -/
def capV (cap : List (Option Nat)) (ρ : Sl) : Sl := cap.map fun o => match o with
  | none => none
  | some j => (ρ[j]?).join.map fun a => .d a.data
theorem SR.at {H0 H : Hp} {σ : St} {ts : List V} {as : List TV} {j : Nat} {c : AV} (s : SR K H0 σ ρ ts as H) (h : ρ[j]? = some (some c)) : ∃ v, σ[j]? = some (some v) ∧ Rep K H v c.data := by
  obtain ⟨v, e, _, s'⟩ := s.var h
  exact ⟨v, e, s'.top (a := .bor c.data) NR.bor⟩
theorem RSl.cap {H0 H G H2 : Hp} {σ : St} {ts : List V} {as : List TV} (s : SR K H0 σ ρ ts as H) (m : Same H G) : ∀ cap : List (Option Nat), RSl K G H2 (capS cap σ) (capV cap ρ) fun _ => 0
  | [] => .nil fun _ => rfl
  | none :: cap => .no (RSl.cap s m cap)
  | some j :: cap => by
    cases e : (ρ[j]?).join with
    | none =>
      have : capV (some j :: cap) ρ = none :: capV cap ρ := by simp [capV, e]
      rw [this]
      exact .no (RSl.cap s m cap)
    | some c =>
      have ej : ρ[j]? = some (some c) := by
        cases z : ρ[j]? with
        | none => rw [z] at e; cases e
        | some o => rw [z] at e; cases o with
          | none => cases e
          | some c' => cases e; rfl
      obtain ⟨v, e1, e2⟩ := s.at ej
      have : capV (some j :: cap) ρ = some (.d c.data) :: capV cap ρ := by simp [capV, e]
      rw [this]
      have : capS (some j :: cap) σ = some v :: capS cap σ := by simp [capS, e1]
      rw [this]
      exact .so (.d (e2.same m) fun _ => rfl) (RSl.cap s m cap) fun _ => rfl
/-- what is told of a value got from elsewhere -/
def Got (c : AV) (a : TV) : Prop := (c.clean = true ∧ a = .av c) ∨ a = .bor c.data
theorem Got.own {c : AV} (h : c.clean = true) : Got c (.av c) := .inl ⟨h, rfl⟩
theorem Got.br {c : AV} : Got c (.bor c.data) := .inr rfl
theorem SR.gotG {H0 H H' : Hp} {σ : St} {ts : List V} {as : List TV} {v : V} {c : AV} (h : SR K H0 σ ρ ts as H) (r : Rs K H H' v c) (g : Got c a) : SR K H0 σ ρ (v :: ts) (a :: as) H' := by
  rcases g with ⟨hc, rfl⟩ | rfl
  · exact h.got r hc
  · exact h.gotB r
theorem SR.rs {H0 H : Hp} {σ : St} {ts : List V} {as : List TV} {v : V} {c : AV} (h : SR K H0 σ ρ (v :: ts) (.av c :: as) H) : Rs K H0 H v c := by
  obtain ⟨⟨p, q, h1, h2, h3, h4⟩, e⟩ := h
  cases h2 with
  | @cons _ _ _ _ q1 q2 _ r rs eq =>
  cases r with
  | av r => exact ⟨e, q1, fun b => by have := eq b; have := h3 b; omega, fun b z => h4 b (by have := eq b; omega), r.mono (hid_more fun b z => by have := eq b; simp; omega) fun _ _ _ z => z⟩
theorem ev_comp {cap : List (Option Nat)} {wi : TI} {g : TG} {tt : TT} (h : Iv K E X wi ρ fun n f _ => n ≤ 1000000 ∧ ∃ y : Nat → Option AV, (∀ i, i < n → Gv K g (f i) (capV cap ρ) fun ρ' => Wk ρ' (capV cap ρ) ∧ Tv K E (fun _ => False) tt ρ' fun b => if b = true then Ev K E (fun _ => False) te ρ' fun a => ∃ c, y i = some c ∧ a.sto = some c else y i = none) ∧
    ∃ a, Got (.own ((List.range n).filterMap y)) a ∧ Q a) : Ev K E X (tComp cap wi g tt te) ρ Q := fun H0 σ ts as H QV s x k =>
  h H0 σ ts as H _ s x fun n f hd ⟨hn, y, turn, a, hg, q⟩ u J H1 nr s1 ok D hD => by
    have xo : XOk K E (fun _ => False) H1 := fun _ z => z.elim
    have sD : Same H1 (upd H1 D (.lst [])) := same_new hD
    have st : Stb [TV.av (.d hd.data)] := Stb.cons Stb.nil
    have start : SR K H1 (capS cap σ) (capV cap ρ) [.ref D, u] [.av (.own []), .av (.d hd.data)] (upd H1 D (.lst [])) := by
      have m : Same H1 (hid (upd H1 D (.lst [])) (fun _ => 0) fun b => if b = D then 1 else 0) := fun b o e => by
        have hb : b ≠ D := ne_of_none e hD
        unfold hid
        simp [hb]
        rw [upd_ne hb]
        exact e
      refine ⟨⟨fun _ => 0, fun b => if b = D then 1 else 0, RSl.cap s1 m cap, .cons (.av (.own upd_same (.nil (p := fun _ => 0) fun _ => rfl) (q := fun b => if b = D then 1 else 0) fun b => by simp)) (.cons (.av (.d (p := fun _ => 0) ((s1.top nr).same m) fun _ => rfl)) (.nil (p := fun _ => 0) fun _ => rfl) (r := fun _ => 0) fun b => by simp) (fun b => by simp), fun b => by simp; split <;> omega, fun b z => ?_⟩, sD⟩
      by_cases hb : b = D
      · rw [hb]; exact hD
      · simp [hb] at z
    refine ⟨fun i m σ' H' => m = n - i ∧ i ≤ n ∧ SR K H1 σ' (capV cap ρ) [.ref D, u] [.av (.own ((List.range i).filterMap y)), .av (.d hd.data)] H', ⟨n, by simp, Nat.zero_le _, start⟩, ?_⟩
    rintro i m σ2 H2 ⟨rfl, hi, s2⟩
    by_cases hlt : i < n
    · obtain ⟨g1, g2⟩ := s2.swap.turn ok hlt
      refine .inr ⟨g1, fun σ' H' => SR K H1 σ' (capV cap ρ) [.ref D, u] [.av (.own ((List.range (i + 1)).filterMap y)), .av (.d hd.data)] H', fun σ' H' p => ⟨n - (i + 1), by omega, rfl, hlt, p⟩, fun w H3 hw => ?_⟩
      have s3 := g2 w H3 hw
      refine turn i hlt H1 σ2 _ _ H3 w _ s3 fun ρ4 ⟨wk, tv⟩ σ4 H4 s4 => ?_
      refine tv H1 σ4 _ _ H4 _ s4 xo fun b qb H5 s5 => ?_
      cases b with
      | true =>
        rw [if_pos rfl] at qb ⊢
        refine qb H1 σ4 _ _ H5 _ s5 xo fun a ⟨c, e1, e2⟩ z H6 s6 => ?_
        have s7 := (s6.sto e2)
        have s8 : SR K H1 σ4 ρ4 [z, .ref D, u] [.av c, .av (.own ((List.range i).filterMap y)), .av (.d hd.data)] H6 := by
          obtain ⟨⟨p, q, k1, k2, k3, k4⟩, e⟩ := s7
          refine ⟨⟨p, q, k1, ?_, k3, k4⟩, e⟩
          cases k2 with
          | cons r rs eq => exact .cons r rs.swap eq
        obtain ⟨vs, h1, h2, h3⟩ := s8.snocT st
        refine ⟨vs, h1, small6 ?_, ?_⟩
        · rw [h2]
          exact Nat.le_trans (List.length_filterMap_le _ _) (by rw [List.length_range]; omega)
        · have := wk _ _ _ _ _ _ h3
          rw [List.range_succ, List.filterMap_append]
          simpa [e1] using this
      | false =>
        rw [if_neg Bool.false_ne_true] at qb ⊢
        have := wk _ _ _ _ _ _ s5.swap
        rw [List.range_succ, List.filterMap_append]
        simpa [qb] using this
    · have e : i = n := by omega
      subst e
      exact .inl ⟨s2.swap.halt NR.av rfl ok (Nat.le_refl _), k _ q _ _ (s1.pop.gotG s2.rs hg)⟩
/-! ### calls -/
/-- a def's promise over data: what it hands back -/
def spV (K : PySem.W.Frag) (S : List PyData → AV → Prop) (SX : List PyData → Exc → Prop) : Sp := fun vs H Q E => ∃ ds, Reps K H vs ds ∧
  ((∃ c, S ds c ∧ ∀ v H', Rs K H H' v c → Q v H') ∨ ∃ e, SX ds e ∧ ∀ c d H', Same H H' → XRep K H' e c d → E c d H')
theorem SR.reps {H0 H : Hp} {σ : St} : ∀ {vs : List V} {bs : List TV} {ts : List V} {as : List TV}, (∀ b ∈ bs, NR b) → vs.length = bs.length → SR K H0 σ ρ (vs ++ ts) (bs ++ as) H → Reps K H vs (bs.map TV.data) ∧ SR K H0 σ ρ ts as H
  | [], [], _, _, _, _, s => ⟨.nil, s⟩
  | v :: vs, b :: bs, ts, as, hb, e, s => by
    have s' : SR K H0 σ ρ (v :: (vs ++ ts)) (b :: (bs ++ as)) H := s
    obtain ⟨h1, h2⟩ := SR.reps (fun c hc => hb c (.tail _ hc)) (by simpa using e) s'.pop
    exact ⟨.cons (s'.top (hb b (.head _))) h1, h2⟩
inductive NRs : List TV → Prop
  | nil : NRs []
  | cons {b : TV} {bs : List TV} : NR b → NRs bs → NRs (b :: bs)
theorem NRs.all {bs : List TV} (h : NRs bs) : ∀ b ∈ bs, NR b := by
  induction h with
  | nil => exact fun _ z => nomatch z
  | cons h _ ih => intro b hb; rcases List.mem_cons.mp hb with e | e; exact e ▸ h; exact ih b e
def dvD : V → Option PyData
  | .int i => some (.int i)
  | .bl b => some (.bool b)
  | .str x => some (.str x)
  | .non => some .none
  | _ => none
theorem dvD_rep {v : V} {d : PyData} {H : Hp} (h : dvD v = some d) : Rep K H v d := by
  cases v <;> simp [dvD] at h <;> subst h <;> constructor
inductive DvDs : List V → List PyData → Prop
  | nil : DvDs [] []
  | cons {v : V} {d : PyData} {vs : List V} {ds : List PyData} : dvD v = some d → DvDs vs ds → DvDs (v :: vs) (d :: ds)
theorem DvDs.reps {vs : List V} {ds : List PyData} {H : Hp} (h : DvDs vs ds) : Reps K H vs ds := by
  induction h with
  | nil => exact .nil
  | cons h _ ih => exact .cons (dvD_rep h) ih
theorem ev_call {S : List PyData → AV → Prop} {SX : List PyData → Exc → Prop} {dvs : List V} {dds : List PyData} {A : TA} (hd : DvDs dvs dds) (h : Ea K E X A ρ fun bs => NRs bs ∧ ((∃ c a, S (bs.map TV.data ++ dds) c ∧ Got c a ∧ Q a) ∨ ∃ e, SX (bs.map TV.data ++ dds) e ∧ X e)) : Ev K E X (tCall (spV K S SX) dvs E A) ρ Q := fun H0 σ ts as H QV s x k =>
  h H0 σ ts as H _ s x fun bs ⟨nr, q⟩ vs H' s' hl => by
    obtain ⟨rp, s2⟩ := SR.reps nr.all hl s'
    refine ⟨bs.map TV.data ++ dds, rp.append hd.reps, ?_⟩
    rcases q with ⟨c, a, h1, h2, h3⟩ | ⟨e, h1, h2⟩
    · exact .inl ⟨c, h1, fun v H2 r => k a h3 v H2 (s2.gotG r h2)⟩
    · exact .inr ⟨e, h1, fun c d H2 sm xr => x e h2 c d H2 (s2.same.trans sm) xr⟩
/-! ### a def's body -/
def Res (a : TV) (c : AV) : Prop := a = .av c ∨ (NR a ∧ c = .d a.data)
theorem SR.start {N : List Str} {vs : List V} {ds : List PyData} {H : Hp} (h : Reps K H vs ds) : SR K H (start N vs) (ds.map (fun d => some (.d d)) ++ List.replicate (N.length - ds.length) none) [] [] H := by
  have hl := h.length
  refine ⟨⟨fun _ => 0, fun _ => 0, ?_, .nil fun _ => rfl, fun _ => by simp, fun b z => by simp at z⟩, .refl H⟩
  have hid0 : hid H (fun _ => 0) (fun _ => 0) = H := by funext b; simp [hid]
  rw [hid0]
  unfold L2.start
  rw [hl]
  clear hl
  generalize N.length - ds.length = m
  induction h using Reps.rec (motive_1 := fun _ _ _ => True) with
  | nil =>
    simp only [List.map_nil, List.nil_append]
    induction m with
    | zero => exact .nil fun _ => rfl
    | succ m ih => exact .no ih
  | cons r rs _ ih => exact .so (.d r fun _ => rfl) ih fun _ => rfl
  | _ => trivial
theorem body_ok {t : TS} {N : List Str} {S : List PyData → AV → Prop} {SX : List PyData → Exc → Prop} {vs : List V} {H : Hp} {Qv : VK} {E : XK} (sp : spV K S SX vs H Qv E)
    (h : ∀ ds, (∀ c, S ds c → Sv K E (fun _ => False) t (ds.map (fun d => some (.d d)) ++ List.replicate (N.length - ds.length) none) { nx := fun _ => c = .d .none, rt := fun a => Res a c }) ∧
      ∀ e, SX ds e → Sv K E (fun e' => e' = e) t (ds.map (fun d => some (.d d)) ++ List.replicate (N.length - ds.length) none) { nx := fun _ => False, rt := fun _ => False }) :
    t { nx := fun _ H' => Qv .non H', rt := Qv } (L2.start N vs) H := by
  obtain ⟨ds, rp, q⟩ := sp
  rcases q with ⟨c, h1, h2⟩ | ⟨e, h1, h2⟩
  · refine (h ds).1 c h1 H _ [] [] H _ Stb.nil (SR.start rp) (fun _ z => z.elim) ⟨fun ρ q σ' H' s' => ?_, fun _ z => z.elim, fun _ z => z.elim, fun a q v σ' ρ' H' s' => ?_⟩
    · rw [show c = .d .none from q] at h2
      exact h2 _ _ (SR.rs (v := .non) (s'.push fun _ => .non))
    · rcases q with rfl | ⟨nr, rfl⟩
      · exact h2 _ _ s'.rs
      · refine h2 _ _ ⟨s'.same, fun _ => 0, fun _ => by simp, fun b z => by simp at z, .d ?_ fun _ => rfl⟩
        have hid0 : hid H' (fun _ => 0) (fun _ => 0) = H' := by funext b; simp [hid]
        rw [hid0]
        exact s'.top nr
  · exact (h ds).2 e h1 H _ [] [] H _ Stb.nil (SR.start rp) (fun e' z c d H2 sm xr => by subst z; exact h2 c d H2 sm xr) ⟨fun _ z => z.elim, fun _ z => z.elim, fun _ z => z.elim, fun _ z => z.elim⟩
end
end VL
end

section
set_option Elab.async false
set_option linter.all false
set_option maxRecDepth 100000
set_option maxHeartbeats 4000000
namespace L2
open PySem PySem.Spec PyProof.Rows
section
variable {X : Cx} {K : PySem.W.Frag}
/-- list + list, whatever lists they are -/
def rCatS (K : PySem.W.Frag) : R2 := fun x y H Q => ∃ l b xs zs, x = .ref l ∧ y = .ref b ∧ SqL K H l xs ∧ SqL K H b zs ∧ xs.length + zs.length ≤ sizeLine ∧ ∀ p, H p = none → Q (.ref p) (upd H p (.lst (xs ++ zs)))
theorem op_catS (hK : X.K = K) : OpR X (binaryOp .Add) (rCatS K) := by
  subst hK
  intro pins s σ H x y v u Q I rx ry h
  obtain ⟨l, b, xs, zs, rfl, rfl, hx, hy, hz, q⟩ := h
  cases rx
  cases ry
  obtain ⟨i1, r1, p1, _⟩ := I.list hx
  obtain ⟨i2, r2, p2, _⟩ := I.list hy
  obtain ⟨⟨c1, d1, t1, s1⟩, n1, g1, e1, f1, k1⟩ := p1
  obtain ⟨⟨c2, d2, t2, s2⟩, n2, g2, e2, f2, k2⟩ := p2
  cases e1; cases f1; cases k1; cases e2; cases f2; cases k2
  have l1 := r1.length
  have l2 := r2.length
  have ea : i1.toArray ++ i2.toArray = (i1 ++ i2).toArray := by simp
  refine concat_meets ⟨_, g1, rfl⟩ ⟨_, g2, rfl⟩ noFill_list_add seq_list_add PySem.F.slot_list_add PySem.F.entry_list_add (PySem.F.args_list_add_2 _ _) (list_addW l b i1.toArray i2.toArray n1 n2 _ _ s1 s2 (by rw [List.size_toArray, List.size_toArray]; omega)) ⟨g1, g2, ?_⟩
  rw [ea]
  exact ⟨.ref _, _, I.lnew (t' := s.toks) (r1.append r2) (by rw [List.length_append]; exact hz), rfl, q _ I.fresh⟩
/-- all(xs) of bools -/
def rAllB (K : PySem.W.Frag) : List V → Hp → VK → Prop := fun vs H Q => ∃ (p : Addr) (cs : List Bool), vs = [.ref p] ∧ SqL K H p (cs.map V.bl) ∧ Q (.bl (cs.all id)) H
def rAnyB (K : PySem.W.Frag) : List V → Hp → VK → Prop := fun vs H Q => ∃ (p : Addr) (cs : List Bool), vs = [.ref p] ∧ SqL K H p (cs.map V.bl) ∧ Q (.bl (cs.any id)) H
theorem bl_item : ∀ {cs : List Bool} {us : List Value} {i : Nat} {v : Value}, Vals (cs.map V.bl) us → us[i]? = some v → v = .bool (cs.getD i false)
  | [], _, _, _, .nil, e => by simp at e
  | c :: cs, _, 0, v, .cons r _, e => by simp at e; subst e; exact r
  | c :: cs, _, i + 1, v, .cons _ t, e => by simpa using bl_item (i := i) t (by simpa using e)
theorem range_all (cs : List Bool) : (List.range cs.length).all (fun i => cs.getD i false) = cs.all id := by
  rw [Bool.eq_iff_iff, List.all_eq_true, List.all_eq_true]
  constructor
  · intro h c hc
    obtain ⟨i, hi, e⟩ := List.getElem_of_mem hc
    have := h i (List.mem_range.mpr hi)
    rw [List.getD_eq_getElem?_getD, List.getElem?_eq_getElem hi] at this
    simpa [e] using this
  · intro h i hi
    have hi := List.mem_range.mp hi
    rw [List.getD_eq_getElem?_getD, List.getElem?_eq_getElem hi]
    exact h _ (List.getElem_mem hi)
theorem range_any (cs : List Bool) : (List.range cs.length).any (fun i => cs.getD i false) = cs.any id := by
  rw [Bool.eq_iff_iff, List.any_eq_true, List.any_eq_true]
  constructor
  · rintro ⟨i, hi, h⟩
    have hi := List.mem_range.mp hi
    rw [List.getD_eq_getElem?_getD, List.getElem?_eq_getElem hi] at h
    exact ⟨_, List.getElem_mem hi, h⟩
  · rintro ⟨c, hc, h⟩
    obtain ⟨i, hi, e⟩ := List.getElem_of_mem hc
    refine ⟨i, List.mem_range.mpr hi, ?_⟩
    rw [List.getD_eq_getElem?_getD, List.getElem?_eq_getElem hi]
    simpa [e] using h
theorem bools_truth {P : Program} {w : World} {A : Around} {cs : List Bool} {us : List Value} (r : Vals (cs.map V.bl) us) : TruthOf P w A (fun i v => us.toArray[i]? = some v) (fun i => cs.getD i false) := fun i v s Q E hv q => by
  have := bl_item (i := i) (v := v) r (by simpa using hv)
  subst this
  exact wpAny_truthy_bool q
theorem call_allB (hK : X.K = K) (hc : X.calm = true) : CallR X (.builtin "all") (rAllB K) := by
  subst hK
  intro pins s σ H vs us Q I r h
  obtain ⟨p, cs, rfl, hp, q⟩ := h
  obtain ⟨u, rfl, ru⟩ := vals1 r
  cases ru
  obtain ⟨its, rs, pl, _⟩ := I.list hp
  have hl := pl.isList
  have hlt : p < s.heap.objs.size := by obtain ⟨_, e, _⟩ := hl; exact Heap.lt_size e
  refine call_all_walk (wpAny_pyIter_list hl ?_)
  refine ⟨s.heap.objs.size, _, _, _, _, _, fun i => cs.getD i false, rfl, Walks.list (A := X.A.in1) (I.ok.hd hc) _ p (Nat.ne_of_lt hlt) its.toArray, ⟨⟨_, Heap.get?_push_size _ rfl, rfl, rfl⟩, hl.push _⟩, bools_truth rs, fun h' tk hk => ?_⟩
  have e : its.toArray.size = cs.length := by rw [List.size_toArray, ← rs.length, List.length_map]
  rw [e, range_all]
  exact ⟨.bl _, H, I.kept (t' := tk) (fun b o z => hk b o (by simp; exact Nat.ne_of_lt (Heap.lt_size z)) (Heap.get?_push_of_some _ z)), rfl, q⟩
theorem call_anyB (hK : X.K = K) (hc : X.calm = true) : CallR X (.builtin "any") (rAnyB K) := by
  subst hK
  intro pins s σ H vs us Q I r h
  obtain ⟨p, cs, rfl, hp, q⟩ := h
  obtain ⟨u, rfl, ru⟩ := vals1 r
  cases ru
  obtain ⟨its, rs, pl, _⟩ := I.list hp
  have hl := pl.isList
  have hlt : p < s.heap.objs.size := by obtain ⟨_, e, _⟩ := hl; exact Heap.lt_size e
  refine call_any_walk (wpAny_pyIter_list hl ?_)
  refine ⟨s.heap.objs.size, _, _, _, _, _, fun i => cs.getD i false, rfl, Walks.list (A := X.A.in1) (I.ok.hd hc) _ p (Nat.ne_of_lt hlt) its.toArray, ⟨⟨_, Heap.get?_push_size _ rfl, rfl, rfl⟩, hl.push _⟩, bools_truth rs, fun h' tk hk => ?_⟩
  have e : its.toArray.size = cs.length := by rw [List.size_toArray, ← rs.length, List.length_map]
  rw [e, range_any]
  exact ⟨.bl _, H, I.kept (t' := tk) (fun b o z => hk b o (by simp; exact Nat.ne_of_lt (Heap.lt_size z)) (Heap.get?_push_of_some _ z)), rfl, q⟩
/-! max(xs, default=d) of ints -/
section
variable {P : Program} {w : World} {A : Around} {R : Result → Shared → Prop} {J S : Addr} {f1 f2 : List Addr} {m : Nat} {Pv : Nat → Value → Prop} {Sv : Nat → Heap → Prop} {dn : List (Str × Value)}
theorem maxD_name : (toString "max" ++ toString ".loop" : String) = "max.loop" := by decide
theorem maxD_turns (W : Walks P w A.in1 J f1 f2 m Pv Sv) (bt : Nat → Nat → Bool) (hb : CmpOf P w A.in1 .Gt Pv bt) (hS : S ∉ f1) : ∀ (left j : Nat) (s : Shared) (top : Value) (cap : Nat), m - (j + 1) = left → j + 1 ≤ m → Sv (j + 1) s.heap → Pv (argBest bt j) top →
    s.heap.get? S = some { cls := .type "list", dict := none, data := .seq #[top, top] cap, slots := #[] } →
    (∀ v h' tk, Pv (argBest bt (m - 1)) v → (∀ b o, b ∉ f2 → b ≠ S → s.heap.get? b = some o → h'.get? b = some o) → R (.ok (.ret v)) { s with heap := h', toks := tk }) →
    codeAny (model P w) A (.builtin "max.loop" ⟨[.ref J, .none, .ref S], dn⟩) R s := by
  have hS2 : S ∉ f2 := fun z => hS (W.sub _ z)
  intro left
  induction left with
  | zero =>
    intro j s top cap e1 e2 st pt gS hR
    have ej : j + 1 = m := by omega
    refine codeAny_builtin PySem.F.entry_max_loop ?_
    rw [Around.under_plainId PySem.F.plain_max_loop _]
    show wpAny _ A.in1 (seqItems? (.ref S) >>= _) _ _ s
    refine wpAny_bind (wpAny_seqItems gS rfl ?_)
    show wpAny _ A.in1 (tryCatch (pyNext (.ref J)) _ >>= _) _ _ s
    refine wpAny_bind (wpAny_tryCatch (W.done s _ _ (by rw [← ej]; exact st) fun h1 t1 k1 => ?_))
    have gS1 := k1 S _ hS2 gS
    show wpAny _ A.in1 (updateSeq S (fun _ => #[]) >>= _) _ _ _
    refine wpAny_bind ?_
    refine wpAny_updateSeq gS1 rfl (wpAny_bind (wpAny_letGo (wpAny_pure (hR top _ t1 (by rw [← ej]; exact pt) fun b o z1 z2 z3 => ?_))))
    rw [Heap.get?_update_other _ _ (Ne.symm z2)]
    exact k1 b o z1 z3
  | succ left ih =>
    intro j s top cap e1 e2 st pt gS hR
    have ej : j + 1 < m := by omega
    refine codeAny_builtin PySem.F.entry_max_loop ?_
    rw [Around.under_plainId PySem.F.plain_max_loop _]
    show wpAny _ A.in1 (seqItems? (.ref S) >>= _) _ _ s
    refine wpAny_bind (wpAny_seqItems gS rfl ?_)
    show wpAny _ A.in1 (tryCatch (pyNext (.ref J)) _ >>= _) _ _ s
    refine wpAny_bind (wpAny_tryCatch (W.item (j + 1) s _ _ ej st fun v h1 t1 pv st1 k1 => ?_))
    have gS1 := k1 S _ hS2 gS
    show wpAny _ A.in1 (tryCatch (holding [v, v] (richCompare .Gt v top >>= _)) _ >>= _) _ _ _
    refine wpAny_bind (wpAny_tryCatch (wpAny_holding (wpAny_bind (hb (j + 1) (argBest bt j) v top _ _ _ pv pt (wpAny_bind (wpAny_holding (wpAny_truthy_bool (wpAny_bind (wpAny_letGo (wpAny_pure ?_))))))))))
    cases c : bt (j + 1) (argBest bt j) with
    | true =>
      simp only [if_true]
      refine wpAny_bind ?_
      refine wpAny_updateSeq gS1 rfl (wpAny_bind (wpAny_letGo ?_))
      rw [maxD_name]
      refine wpAny_pure ⟨plainId_quiet PySem.F.plain_max_loop _, ih (j + 1) _ v _ (by omega) ej (W.frame _ _ _ st1 fun b zb o z => ?_) (by simp only [argBest, c, if_true]; exact pv) (Heap.get?_update_self _ gS1 rfl) fun v2 h2 t2 p2 k2 => hR v2 h2 t2 p2 fun b o z1 z2 z3 => k2 b o z1 z2 ?_⟩
      · rw [Heap.get?_update_other _ _ (fun y : S = b => hS (y ▸ zb))]; exact z
      · rw [Heap.get?_update_other _ _ (Ne.symm z2)]; exact k1 b o z1 z3
    | false =>
      simp only [Bool.false_eq_true, if_false]
      refine wpAny_bind (wpAny_letGo ?_)
      rw [maxD_name]
      exact wpAny_pure ⟨plainId_quiet PySem.F.plain_max_loop _, ih (j + 1) _ top cap (by omega) ej st1 (by simp only [argBest, c, Bool.false_eq_true, if_false]; exact pt) gS1 fun v2 h2 t2 p2 k2 => hR v2 h2 t2 p2 fun b o z1 z2 z3 => k2 b o z1 z2 (k1 b o z1 z3)⟩
end
def rMaxD (K : PySem.W.Frag) : List V → List V → Hp → VK → Prop := fun vs zs H Q => ∃ (p : Addr) (ns : List Int) (d : Int), vs = [.ref p] ∧ zs = [.int d] ∧ SqL K H p (ns.map V.int) ∧ ∀ M : Int, ((ns = [] ∧ M = d) ∨ (M ∈ ns ∧ ∀ c ∈ ns, c ≤ M)) → Q (.int M) H
theorem int_item : ∀ {ns : List Int} {us : List Value} {i : Nat} {v : Value}, Vals (ns.map V.int) us → us[i]? = some v → ∃ t, v = .int (ns.getD i 0) t
  | [], _, _, _, .nil, e => by simp at e
  | c :: cs, _, 0, v, .cons r _, e => by simp at e; subst e; exact r
  | c :: cs, _, i + 1, v, .cons _ t, e => by simpa using int_item (i := i) t (by simpa using e)
theorem args_maxD (a v : Value) : argsOk "max" ⟨[a], [("default", v)]⟩ := by unfold argsOk; kernel_rfl
theorem call_maxD {pins : List (Addr × Obj)} {s : Shared} {σ : St} {H : Hp} {vs zs : List V} {us ws : List Value} {Q : VK} (hc : X.calm = true) (I : Inv X pins σ H s) (r : Vals vs us) (rz : Vals zs ws) (h : rMaxD X.K vs zs H Q) :
    wpAny (model X.prog X.w) X.A (PySem.call (.builtin "max") us ((["default"] : List Str).zip ws)) (EP X pins σ Q) X.xe s := by
  obtain ⟨p, ns, d, rfl, rfl, hp, q⟩ := h
  obtain ⟨u, rfl, ru⟩ := vals1 r
  cases ru
  obtain ⟨z, rfl, t, rfl⟩ := vals1 rz
  obtain ⟨its, rs, pl, hz⟩ := I.list hp
  have hl := pl.isList
  have hlt : p < s.heap.objs.size := by obtain ⟨_, e, _⟩ := hl; exact Heap.lt_size e
  have e : its.length = ns.length := by rw [← rs.length, List.length_map]
  have W := Walks.list (prog := X.prog) (w := X.w) (A := X.A.in1) (I.ok.hd hc) s.heap.objs.size p (Nat.ne_of_lt hlt) its.toArray
  refine kmk_tree PySem.F.kind_max PySem.F.plain_max PySem.F.entry_max (args_maxD _ _) ?_
  show wpAny _ X.A.in1 (Builtin.Builtins.bindParams "max" ["key", "default"] 0 ⟨[], [("default", .int d t)]⟩ >>= _) _ _ s
  refine wpAny_bind (wpAny_of_eq (show Builtin.Builtins.bindParams "max" ["key", "default"] 0 ⟨[], [("default", .int d t)]⟩ = pure [none, some (.int d t)] from rfl) (wpAny_bind (wpAny_pure (wpAny_bind (wpAny_pyIter_list hl (wpAny_bind (wpAny_newList ?_ (Nat.zero_le _))))))))
  rw [maxD_name]
  have st0 : (s.heap.push { cls := .type "list_iterator", data := .fields #[.ref p, .int 0 0] }).IsListIter s.heap.objs.size p 0 := ⟨_, Heap.get?_push_size _ rfl, rfl, rfl⟩
  have hSz : (s.heap.push { cls := .type "list_iterator", data := .fields #[.ref p, .int 0 0] }).objs.size = s.heap.objs.size + 1 := by rw [Heap.size_push]
  generalize hh1 : s.heap.push { cls := .type "list_iterator", data := .fields #[.ref p, .int 0 0] } = h1 at st0 hSz
  have k1 : ∀ b o, s.heap.get? b = some o → h1.get? b = some o := fun b o z => by rw [← hh1]; exact Heap.get?_push_of_some _ z
  have hl1 : h1.IsList p its.toArray := by rw [← hh1]; exact hl.push _
  have st1 : (h1.push { cls := .type "list", data := .seq #[] }).IsListIter s.heap.objs.size p 0 ∧ (h1.push { cls := .type "list", data := .seq #[] }).IsList p its.toArray := ⟨let ⟨o, g, r⟩ := st0; ⟨o, Heap.get?_push_of_some _ g, r⟩, hl1.push _⟩
  have gS : (h1.push { cls := .type "list", data := .seq #[] }).get? h1.objs.size = some { cls := .type "list", dict := none, data := .seq #[] 0, slots := #[] } := Heap.get?_push_size _ rfl
  have hSf : h1.objs.size ∉ [s.heap.objs.size, p] := fun z => by
    rcases List.mem_cons.mp z with z | z
    · rw [hSz] at z; exact Nat.succ_ne_self _ z
    · rw [hSz] at z; exact Nat.lt_irrefl _ (Nat.lt_trans (Nat.lt_succ_self _) ((List.mem_singleton.mp z) ▸ hlt))
  have k2 : ∀ h' : Heap, (∀ b o, b ∉ [s.heap.objs.size] → b ≠ h1.objs.size → (h1.push { cls := .type "list", data := .seq #[] }).get? b = some o → h'.get? b = some o) → ∀ b o, s.heap.get? b = some o → h'.get? b = some o := fun h' k b o z => by
    have := Heap.lt_size z
    exact k b o (by simp; exact Nat.ne_of_lt this) (by rw [hSz]; exact Nat.ne_of_lt (Nat.lt_succ_of_lt this)) (Heap.get?_push_of_some _ (k1 b o z))
  refine wpAny_pure ⟨plainId_quiet PySem.F.plain_max_loop _, ?_⟩
  refine codeAny_builtin PySem.F.entry_max_loop ?_
  rw [Around.under_plainId PySem.F.plain_max_loop _]
  show wpAny _ X.A.in1 (seqItems? (.ref h1.objs.size) >>= _) _ _ _
  refine wpAny_bind (wpAny_seqItems gS rfl ?_)
  show wpAny _ X.A.in1 (tryCatch (pyNext (.ref s.heap.objs.size)) _ >>= _) _ _ _
  by_cases hn : ns = []
  · have z0 : its.toArray.size = 0 := by rw [List.size_toArray, e, hn]; rfl
    rw [z0] at W
    refine wpAny_bind (wpAny_tryCatch (W.done _ _ _ st1 fun h2 t2 kk => ?_))
    refine wpAny_bind (wpAny_rule (wpAny_pure ?_))
    exact ⟨.int d, H, I.kept (t' := t2) (k2 h2 fun b o z1 z2 z3 => kk b o z1 z3), ⟨t, rfl⟩, q d (.inl ⟨hn, rfl⟩)⟩
  · have hpos : 0 < its.toArray.size := by rw [List.size_toArray, e]; exact List.length_pos_iff.mpr hn
    refine wpAny_bind (wpAny_tryCatch (W.item 0 _ _ _ hpos st1 fun v h2 t2 pv st2 kk => ?_))
    have gS2 := kk h1.objs.size _ (by rw [hSz]; simp) gS
    show wpAny _ X.A.in1 (updateSeq h1.objs.size (fun _ => #[v, v]) >>= _) _ _ _
    refine wpAny_bind ?_
    refine wpAny_updateSeq gS2 rfl ?_
    rw [maxD_name]
    have hval : ∀ (i : Nat) (v : Value), its.toArray[i]? = some v → ∃ t, v = Value.int (ns.getD i 0) t := fun i v z => int_item (i := i) (v := v) rs (by simpa using z)
    refine wpAny_pure ⟨plainId_quiet PySem.F.plain_max_loop _, maxD_turns (S := h1.objs.size) W _ (CmpOf.ints_gt (fun i => ns.getD i 0) hval) hSf _ 0 _ v _ rfl hpos (W.frame _ _ _ st2 fun b zb o z => ?_) pv (Heap.get?_update_self _ gS2 rfl) fun v3 h3 t3 p3 k3 => ?_⟩
    · rw [Heap.get?_update_other _ _ (fun y : h1.objs.size = b => hSf (y ▸ zb))]; exact z
    · obtain ⟨t4, rfl⟩ := hval _ _ p3
      obtain ⟨b1, b2⟩ := argBest_gt (fun i => ns.getD i 0) (its.toArray.size - 1)
      have e5 : its.toArray.size = ns.length := by rw [List.size_toArray, e]
      refine ⟨.int _, H, I.kept (t' := t3) (k2 h3 fun b o z1 z2 z3 => k3 b o z1 z2 ?_), ⟨t4, rfl⟩, q _ (.inr ⟨?_, fun c hc => ?_⟩)⟩
      · rw [Heap.get?_update_other _ _ (Ne.symm z2)]; exact kk b o z1 z3
      · have hi : argBest (fun i j => decide (ns.getD i 0 > ns.getD j 0)) (its.toArray.size - 1) < ns.length := by omega
        rw [List.getD_eq_getElem?_getD, List.getElem?_eq_getElem hi]
        exact List.getElem_mem hi
      · obtain ⟨i, hi, ei⟩ := List.getElem_of_mem hc
        have := b2 i (by omega)
        rw [List.getD_eq_getElem?_getD (i := i), List.getElem?_eq_getElem hi] at this
        simpa [ei] using this
def tCBK (r : List V → List V → Hp → VK → Prop) (t tk : TA) : TE := fun σ H Q => t σ H fun vs H1 => tk σ H1 fun zs H2 => r vs zs H2 Q
theorem pe_maxD {e : Expr} {d : Expr} {p pos kpos : Pos} {t tk : TA} (hK : X.K = K) (hc : X.calm = true) (hg : Gl X "max") (hm : X.mg "max" = none) (ha : PA X [e] t) (hk : PK X [⟨some "default", d, kpos⟩] tk)
    (he : backTo pos (starEach [e] X.env) = (false, eval e X.env) :: backTo pos (starEach [] X.env) := by rfl)
    (hpl : (backTo pos (starEach [e] X.env)).any (·.1) = false := by rfl) :
    PE X (.Call (.Name "max" p) [e] [⟨some "default", d, kpos⟩] pos) (tCBK (rMaxD K) t tk) := by
  subst hK
  intro pins s σ H Q I h
  refine wpAny_Call_Name_kw (ld_blt I hg hm PyProof.Rows.boot_max ?_ (by decide) (by decide))
  refine callWith_kw (thn (ha pos pins s σ H _ I h) fun us s1 ⟨vs, H1, I1, r, q⟩ => ?_) he hpl rfl rfl
  exact thn (hk pos pins s1 σ H1 _ I1 q) fun ws s2 ⟨zs, H2, I2, rz, q2⟩ => call_maxD hc I2 r rz q2
end
end L2
end

section
set_option Elab.async false
set_option linter.all false
set_option maxRecDepth 100000
set_option maxHeartbeats 4000000
namespace VL
open PySem PySem.Spec L2
section
variable {K : PySem.W.Frag} {E : XK} {X : Exc → Prop} {ρ : Sl} {Q : TV → Prop} {DV : VEnds} {ta tb te : TE} {i j : Int} {n : Nat} {r : R2} {t u : TS} {a b : TV} {H0 H : Hp} {σ : St} {ts : List V} {as : List TV} {v : V}
theorem one_of {vs : List V} (s : SR K H0 σ ρ (vs ++ ts) ([a] ++ as) H) (hl : vs.length = 1) : ∃ v, vs = [v] ∧ SR K H0 σ ρ (v :: ts) (a :: as) H := by
  match vs, hl with
  | [v], _ => exact ⟨v, rfl, s⟩
theorem two_of {vs : List V} (s : SR K H0 σ ρ (vs ++ ts) ([a, b] ++ as) H) (hl : vs.length = 2) : ∃ v w, vs = [v, w] ∧ SR K H0 σ ρ (v :: w :: ts) (a :: b :: as) H := by
  match vs, hl with
  | [v, w], _ => exact ⟨v, w, rfl, s⟩
theorem bi_lenL {ds : List PyData} (ha : a.data = .list ds) (q : Q (.av (.d (.int ds.length)))) (na : NR a := by first | exact NR.av | exact NR.bor) : Bi K E X (rLen K) [a] Q := fun H0 σ ρ ts as H vs QV s hl _ k => by
  obtain ⟨v, rfl, s⟩ := one_of s hl
  exact rd_lenRL (ha ▸ s.top na) (k _ q _ H (s.pop.int _))
theorem bi_lenT {ds : List PyData} (ha : a.data = .tuple ds) (q : Q (.av (.d (.int ds.length)))) (na : NR a := by first | exact NR.av | exact NR.bor) : Bi K E X (rLen K) [a] Q := fun H0 σ ρ ts as H vs QV s hl _ k => by
  obtain ⟨v, rfl, s⟩ := one_of s hl
  exact rd_lenRT (ha ▸ s.top na) (k _ q _ H (s.pop.int _))
theorem datas_d (ds : List PyData) : AV.datas (ds.map AV.d) = ds := by
  induction ds with
  | nil => rfl
  | cons d ds ih => rw [List.map_cons, AV.datas, ih]; rfl
theorem noLst_get {ds : List PyData} (h : noLsts ds = true) : ∀ d ∈ ds, noLst d = true := by
  induction ds with
  | nil => exact fun _ z => nomatch z
  | cons x ds ih =>
    simp only [noLsts, Bool.and_eq_true] at h
    intro d hd
    rcases List.mem_cons.mp hd with e | e
    · exact e ▸ h.1
    · exact ih h.2 d e
theorem noLst_of {ds : List PyData} (h : ∀ d ∈ ds, noLst d = true) : noLsts ds = true := by
  induction ds with
  | nil => rfl
  | cons x ds ih => simp only [noLsts, Bool.and_eq_true]; exact ⟨h x (.head _), ih fun d hd => h d (.tail _ hd)⟩
/-- from the value on the top, items of it are laid on the way -/
theorem SR.items {es : List PyData} (s : SR K H0 σ ρ (v :: ts) (a :: as) H) (h : a = .av (.d a.data) ∨ noLsts es = true) (P : List V → Prop) (hx : ∀ G, Rep K G v a.data → Same G H → ∃ xs, P xs ∧ Reps K G xs es) (na : NR a) : ∃ xs, P xs ∧ xs.length = es.length ∧ SR K H0 σ ρ (xs ++ ts) ((es.map AV.d).map TV.av ++ as) H := by
  have fin : ∀ {p q : Fp} {xs : List V} {es : List PyData}, Reps K (hid H p q) xs es → RTs K (hid H p q) H ts as q → RTs K (hid H p q) H (xs ++ ts) ((es.map AV.d).map TV.av ++ as) q := by
    intro p q xs es r rt
    induction r using Reps.rec (motive_1 := fun _ _ _ => True) with
    | nil => exact rt
    | cons r rs _ ih => exact .cons (.av (.d (p := fun _ => 0) r fun _ => rfl)) ih fun b => by simp
    | _ => trivial
  rcases h with e | hn
  · rw [e] at s
    obtain ⟨⟨p, q, h1, h2, h3, h4⟩, e'⟩ := s
    cases h2 with
    | @cons _ _ _ _ q1 q2 _ r rs z => cases r with
      | av r => cases r with
        | d rp w =>
          obtain ⟨xs, px, this⟩ := hx _ rp hid_le
          have eh : hid H p q = hid H p q2 := hid_eq fun b => by have := z b; have := w b; omega
          rw [eh] at this h1 rs
          exact ⟨xs, px, this.length, ⟨p, q2, h1, fin this rs, fun b => by have := h3 b; have := z b; omega, fun b y => h4 b (by have := z b; omega)⟩, e'⟩
  · obtain ⟨xs, px, this⟩ := hx H (s.top na) (.refl H)
    obtain ⟨⟨p, q, h1, h2, h3, h4⟩, e'⟩ := s.pop
    exact ⟨xs, px, this.length, ⟨p, q, h1, fin (Reps.hid (SR.lsts h1 h2) hn this) h2, h3, h4⟩, e'⟩
/-- may the items be kept? -/
def Kp (a : TV) (es : List PyData) : Prop := a = .av (.d a.data) ∨ noLsts es = true
theorem Kp.d {x : PyData} {es : List PyData} : Kp (.av (.d x)) es := .inl rfl
theorem Kp.flat {es : List PyData} (h : noLsts es = true) : Kp a es := .inr h
theorem bi_listL {ds : List PyData} (ha : a.data = .list ds) (h : Kp a ds) (q : Q (.av (.own (ds.map AV.d)))) (na : NR a := by first | exact NR.av | exact NR.bor) : Bi K E X (rLst K) [a] Q := fun H0 σ ρ ts as H vs QV s hl _ k => by
  obtain ⟨v, rfl, s⟩ := one_of s hl
  obtain ⟨xs, ⟨l, e, h1⟩, h2, s'⟩ := s.items h (fun xs => ∃ l, v = .ref l ∧ SqL K H l xs) (fun G rp sm => by
    rw [ha] at rp
    obtain ⟨l, xs, e, h3, h4⟩ := rp.list_inv
    exact ⟨xs, ⟨l, e, sm.seq h3⟩, h4⟩) na
  exact ⟨l, xs, by rw [e], .inl h1, fun p hp => k _ q _ _ (SR.new s' (by rw [List.length_map, h2]) hp)⟩
theorem bi_listT {ds : List PyData} (ha : a.data = .tuple ds) (h : Kp a ds) (q : Q (.av (.own (ds.map AV.d)))) (na : NR a := by first | exact NR.av | exact NR.bor) : Bi K E X (rLst K) [a] Q := fun H0 σ ρ ts as H vs QV s hl _ k => by
  obtain ⟨v, rfl, s⟩ := one_of s hl
  obtain ⟨xs, ⟨l, e, h1⟩, h2, s'⟩ := s.items h (fun xs => ∃ l, v = .ref l ∧ SqT K H l xs) (fun G rp sm => by
    rw [ha] at rp
    obtain ⟨l, xs, e, h3, h4⟩ := rp.tuple_inv
    exact ⟨xs, ⟨l, e, sm.tupS h3⟩, h4⟩) na
  exact ⟨l, xs, by rw [e], .inr h1, fun p hp => k _ q _ _ (SR.new s' (by rw [List.length_map, h2]) hp)⟩
/-- tuple(x): of what is shared, of a flat list, of a new list -/
theorem bi_tupL {ds : List PyData} (ha : a.data = .list ds) (h : Kp a.frz ds) (q : Q (.av (.d (.tuple ds)))) (na : NR a := by first | exact NR.av | exact NR.bor) : Bi K E X (rTpl K) [a] Q := fun H0 σ ρ ts as H vs QV s hl _ k => by
  obtain ⟨v, rfl, s⟩ := one_of s hl
  obtain ⟨xs, ⟨l, e, h1⟩, h2, s'⟩ := s.frzV.items h (fun xs => ∃ l, v = .ref l ∧ SqL K H l xs) (fun G rp sm => by
    rw [TV.frz_data, ha] at rp
    obtain ⟨l, xs, e, h3, h4⟩ := rp.list_inv
    exact ⟨xs, ⟨l, e, sm.seq h3⟩, h4⟩) (TV.frz_nr na)
  refine ⟨l, xs, by rw [e], .inl ⟨h1, fun p hp => k _ q _ _ ?_⟩⟩
  have := SR.newT s' (by rw [List.length_map, h2]) hp
  rw [datas_d] at this
  exact this
/-! isinstance of data -/
def isiB (x : PyData) (c : String) : Bool := match x, c with
  | .int _, "int" => true
  | .bool _, "bool" => true
  | .bool _, "int" => true
  | .str _, "str" => true
  | .list _, "list" => true
  | .tuple _, "tuple" => true
  | .dict _, "dict" => true
  | _, _ => false
theorem bi_isi {c : String} {cc : Bool} (na : NR a) (e : PySem.W.kitOne K (.type (tyD a.data)) (.type c) = some cc) (q : Q (.av (.d (.bool cc)))) : Bi K E X (rIsi2 K) [a, .raw (.ty c)] Q := fun H0 σ ρ ts as H vs QV s hl _ k => by
  obtain ⟨v, w, rfl, s⟩ := two_of s hl
  have := s.pop.raw
  subst this
  exact rd_isiD (s.top na) rfl e (k _ q _ H (s.pop.pop.bl _))
theorem kit_no {K : PySem.W.Frag} {x y : String} (h : (if (Value.type x == Value.type y) = true then some true else if PySem.W.kitMeta y = true then (fastBuiltinMro x).map (·.contains (Value.type y)) else none) = some false) : PySem.W.kitOne K (.type x) (.type y) = some false := h
theorem isi_int_int (q : Q (.av (.d (.bool true)))) : Bi K E X (rIsi2 K) [.av (.d (.int i)), .raw (.ty "int")] Q := bi_isi NR.av rfl q
theorem isi_int_bool (q : Q (.av (.d (.bool false)))) : Bi K E X (rIsi2 K) [.av (.d (.int i)), .raw (.ty "bool")] Q := bi_isi NR.av kit_int_bool q
theorem isi_list {ds : List PyData} (ha : a.data = .list ds) (q : Q (.av (.d (.bool true)))) (na : NR a := by first | exact NR.av | exact NR.bor) : Bi K E X (rIsi2 K) [a, .raw (.ty "list")] Q := bi_isi na (by rw [ha]; rfl) q
theorem isi_tuple {ds : List PyData} (ha : a.data = .tuple ds) (q : Q (.av (.d (.bool true)))) (na : NR a := by first | exact NR.av | exact NR.bor) : Bi K E X (rIsi2 K) [a, .raw (.ty "tuple")] Q := bi_isi na (by rw [ha]; rfl) q
theorem isi_str {c : Str} (ha : a.data = .str c) (q : Q (.av (.d (.bool true)))) (na : NR a := by first | exact NR.av | exact NR.bor) : Bi K E X (rIsi2 K) [a, .raw (.ty "str")] Q := bi_isi na (by rw [ha]; rfl) q
/-! all, any -/
theorem bools_inv {G : Hp} : ∀ {cs : List Bool} {xs : List V}, Reps K G xs (cs.map PyData.bool) → xs = cs.map V.bl
  | [], _, .nil => rfl
  | c :: cs, _, .cons r rs => by rw [Rep.bl_inv r, bools_inv rs]; rfl
theorem bi_all {cs : List Bool} (ha : a.data = .list (cs.map .bool)) (q : Q (.av (.d (.bool (cs.all id))))) (na : NR a := by first | exact NR.av | exact NR.bor) : Bi K E X (rAllB K) [a] Q := fun H0 σ ρ ts as H vs QV s hl _ k => by
  obtain ⟨v, rfl, s⟩ := one_of s hl
  have rp := s.top na
  rw [ha] at rp
  obtain ⟨l, xs, rfl, h1, h2⟩ := rp.list_inv
  have := bools_inv h2
  subst this
  exact ⟨l, cs, rfl, h1, k _ q _ H (s.pop.bl _)⟩
theorem bi_any {cs : List Bool} (ha : a.data = .list (cs.map .bool)) (q : Q (.av (.d (.bool (cs.any id))))) (na : NR a := by first | exact NR.av | exact NR.bor) : Bi K E X (rAnyB K) [a] Q := fun H0 σ ρ ts as H vs QV s hl _ k => by
  obtain ⟨v, rfl, s⟩ := one_of s hl
  have rp := s.top na
  rw [ha] at rp
  obtain ⟨l, xs, rfl, h1, h2⟩ := rp.list_inv
  have := bools_inv h2
  subst this
  exact ⟨l, cs, rfl, h1, k _ q _ H (s.pop.bl _)⟩
/-! max(xs, default=d) -/
theorem ev_maxD {A B : TA} (h : Ea K E X A ρ fun bs => Ea K E X B ρ fun cs => ∃ a ns d, bs = [a] ∧ NR a ∧ cs = [.av (.d (.int d))] ∧ a.data = dI ns ∧ ∀ M : Int, ((ns = [] ∧ M = d) ∨ (M ∈ ns ∧ ∀ c ∈ ns, c ≤ M)) → Q (.av (.d (.int M)))) : Ev K E X (tCBK (rMaxD K) A B) ρ Q := fun H0 σ ts as H QV s x k =>
  h H0 σ ts as H _ s x fun bs qb vs H1 s1 l1 => qb H0 σ _ _ H1 _ s1 x fun cs ⟨a, ns, d, e1, na, e2, ha, q⟩ zs H2 s2 l2 => by
    subst e1 e2
    obtain ⟨z, ezs, s4⟩ := one_of s2 l2
    have ez := s4.top_d.int_inv
    subst ez
    subst ezs
    have s5 : SR K H0 σ ρ (vs ++ ts) ([a] ++ as) H2 := s4.pop
    obtain ⟨v, ev, s3⟩ := one_of s5 l1
    subst ev
    have rp := s3.top na
    rw [ha] at rp
    obtain ⟨l, xs, rfl, h1, h2⟩ := rp.list_inv
    have := h2.ints_inv
    subst this
    exact ⟨l, ns, d, rfl, rfl, h1, fun M hM => k _ (q M hM) _ H2 (s3.pop.int _)⟩
/-! list + list; list * int; slices -/
theorem RTs.two {G H : Hp} {x y : V} {p : Fp} (r : RTs K G H (y :: x :: ts) (b :: a :: as) p) : True := trivial
/-- two values on the way, their items laid one behind the other -/
theorem op_catL {ds es : List PyData} (ha : a.data = .list ds) (hb : b.data = .list es) (ka : Kp a.frz ds) (kb : Kp b.frz es) (hz : ds.length + es.length ≤ 1000000) (q : Q (.av (.own ((ds ++ es).map AV.d)))) (na : NR a := by first | exact NR.av | exact NR.bor) (nb : NR b := by first | exact NR.av | exact NR.bor) : Op K E X (rCatS K) a b Q := fun H0 σ ρ ts as H x y QV s _ k => by
  -- the second one's items
  obtain ⟨ys, ⟨l2, e2, h2⟩, hl2, s2⟩ := s.frzV.items kb (fun ys => ∃ l, y = .ref l ∧ SqL K H l ys) (fun G rp sm => by
    rw [TV.frz_data, hb] at rp
    obtain ⟨l, xs, e, h3, h4⟩ := rp.list_inv
    exact ⟨xs, ⟨l, e, sm.seq h3⟩, h4⟩) (TV.frz_nr nb)
  have s3 : SR K H0 σ ρ (x :: (ys ++ ts)) (a :: ((es.map AV.d).map TV.av ++ as)) H := SR.rot (by rw [List.length_map, List.length_map, hl2]) s2
  obtain ⟨xs, ⟨l1, e1, h1⟩, hl1, s4⟩ := s3.frzV.items ka (fun ys => ∃ l, x = .ref l ∧ SqL K H l ys) (fun G rp sm => by
    rw [TV.frz_data, ha] at rp
    obtain ⟨l, xs, e, h3, h4⟩ := rp.list_inv
    exact ⟨xs, ⟨l, e, sm.seq h3⟩, h4⟩) (TV.frz_nr na)
  refine ⟨l1, l2, xs, ys, e1, e2, h1, h2, Nat.le_of_lt (small6 (by omega)), fun p hp => k _ q _ _ (SR.new (xs := (ds ++ es).map AV.d) ?_ (by rw [List.length_append, List.length_map, List.length_append, hl1, hl2]) hp)⟩
  rw [List.append_assoc, List.map_append, List.map_append, List.append_assoc]
  exact s4
/-- xs * k of a new list of flat items -/
theorem op_repL {ds : List PyData} {k : Int} (hn : noLsts ds = true) (hk : -(2 ^ 63) ≤ k ∧ k < 2 ^ 63) (hz : ds.length * k.toNat ≤ 1000000) (q : Q (.av (.own ((List.replicate k.toNat ds).flatten.map AV.d)))) : Op K E X rRep (.av (.own (ds.map AV.d))) (.av (.d (.int k))) Q := fun H0 σ ρ ts as H x y QV s _ kk => by
  have ey := s.top_d.int_inv
  subst ey
  have s1 := s.pop
  have rp := s1.top (a := .av (.own (ds.map AV.d))) NR.av
  have sP := s1.pop
  obtain ⟨⟨p, q', h1, h2, h3, h4⟩, e'⟩ := s1
  cases h2 with
  | cons r rs z => cases r with
    | av r => cases r with
      | @own l vs _ p3 _ hl hr ep =>
        have hv : Reps K H vs ds := by have := hr.rep hid_le; rwa [datas_d] at this
        have hrep : ∀ m : Nat, Reps K H (List.replicate m vs).flatten (List.replicate m ds).flatten := fun m => by
          induction m with
          | zero => exact .nil
          | succ m ih => rw [List.replicate_succ, List.replicate_succ, List.flatten_cons, List.flatten_cons]; exact hv.append ih
        have hnr : ∀ m : Nat, noLsts (List.replicate m ds).flatten = true := fun m => noLst_of fun d hd => by
          obtain ⟨l, h5, h6⟩ := List.mem_flatten.mp hd
          rw [List.eq_of_mem_replicate h5] at h6
          exact noLst_get hn d h6
        refine ⟨l, k, vs, rfl, rfl, hl, hk.1, hk.2, Nat.le_of_lt (small6 (by rw [hv.length]; exact hz)), fun p0 hp => kk _ q _ _ (SR.new (xs := (List.replicate k.toNat ds).flatten.map AV.d) ?_ (by rw [List.length_map, (hrep _).length]) hp)⟩
        obtain ⟨⟨p, q', h1, h2, h3, h4⟩, e'⟩ := sP
        refine ⟨⟨p, q', h1, ?_, h3, h4⟩, e'⟩
        have hh := Reps.hid (p := p) (q := q') (SR.lsts h1 h2) (hnr k.toNat) (hrep k.toNat)
        generalize (List.replicate k.toNat vs).flatten = ws at hh
        generalize (List.replicate k.toNat ds).flatten = es at hh
        clear q
        induction hh using Reps.rec (motive_1 := fun _ _ _ => True) with
        | nil => exact h2
        | cons r rs _ ih => exact .cons (.av (.d (p := fun _ => 0) r fun _ => rfl)) ih fun b => by simp
        | _ => trivial
/-- xs[lo:hi] -/
def cutD (xs : List PyData) (lo hi : Option Int) : List PyData := (xs.drop (HT.sIx xs.length 0 lo)).take (HT.sIx xs.length xs.length hi - HT.sIx xs.length 0 lo)
theorem Reps.drop {G : Hp} : ∀ {xs : List V} {ds : List PyData} (m : Nat), Reps K G xs ds → Reps K G (xs.drop m) (ds.drop m)
  | _, _, 0, r => r
  | _, _, _ + 1, .nil => .nil
  | _, _, m + 1, .cons _ rs => Reps.drop m rs
theorem Reps.take {G : Hp} : ∀ {xs : List V} {ds : List PyData} (m : Nat), Reps K G xs ds → Reps K G (xs.take m) (ds.take m)
  | _, _, 0, _ => .nil
  | _, _, _ + 1, .nil => .nil
  | _, _, m + 1, .cons r rs => .cons r (Reps.take m rs)
theorem Reps.cut {G : Hp} {xs : List V} {ds : List PyData} (lo hi : Option Int) (r : Reps K G xs ds) : Reps K G (cutV xs lo hi) (cutD ds lo hi) := by
  unfold cutV cutD
  rw [r.length]
  exact Reps.take _ (Reps.drop _ r)
theorem Reps.rev {G : Hp} : ∀ {xs : List V} {ds : List PyData}, Reps K G xs ds → Reps K G xs.reverse ds.reverse
  | _, _, .nil => .nil
  | _, _, .cons r rs => by rw [List.reverse_cons, List.reverse_cons]; exact (Reps.rev rs).snoc r
def To (t : TO) (ρ : Sl) (K : PySem.W.Frag) (E : XK) (X : Exc → Prop) (Q : Option Int → Prop) : Prop :=
  ∀ (H0 : Hp) (σ : St) (ts : List V) (as : List TV) (H : Hp) (QV : Option Int → Hp → Prop), SR K H0 σ ρ ts as H → XOk K E X H0 → (∀ o, Q o → ∀ H', SR K H0 σ ρ ts as H' → QV o H') → t σ H QV
theorem to_no {P : Option Int → Prop} (q : P none) : To tNoPart ρ K E X P := fun H0 σ ts as H QV s x k => k _ q H s
theorem to_part {P : Option Int → Prop} (h : Ev K E X te ρ fun a => ∃ i, a = .av (.d (.int i)) ∧ P (some i)) : To (tPart te) ρ K E X P := fun H0 σ ts as H QV s x k =>
  h H0 σ ts as H _ s x fun a ⟨i, e, q⟩ v H' s' => by subst e; exact ⟨i, s'.top_d.int_inv, k _ q H' s'.pop⟩
theorem ev_slL {tl th : TO} (h : Ev K E X te ρ fun a => To tl ρ K E X fun lo => To th ρ K E X fun hi => ∃ ds, a.data = .list ds ∧ NR a ∧ Kp a.frz (cutD ds lo hi) ∧ Q (.av (.own ((cutD ds lo hi).map AV.d)))) : Ev K E X (tSl (rSlL K) te tl th) ρ Q := fun H0 σ ts as H QV s x k =>
  h H0 σ ts as H _ s x fun a qa v H1 s1 => qa H0 σ _ _ H1 _ s1 x fun lo ql H2 s2 => ql H0 σ _ _ H2 _ s2 x fun hi ⟨ds, ha, na, kp, q⟩ H3 s3 => by
    obtain ⟨xs, ⟨l, ys, e, h1, ex⟩, h2, s'⟩ := s3.frzV.items kp (fun xs => ∃ l ys, v = .ref l ∧ SqL K H3 l ys ∧ xs = cutV ys lo hi) (fun G rp sm => by
      rw [TV.frz_data, ha] at rp
      obtain ⟨l, xs, e, h3, h4⟩ := rp.list_inv
      exact ⟨_, ⟨l, xs, e, sm.seq h3, rfl⟩, Reps.cut lo hi h4⟩) (TV.frz_nr na)
    subst ex
    exact ⟨l, ys, e, h1, fun p hp => k _ q _ _ (SR.new s' (by rw [List.length_map, h2]) hp)⟩
theorem ev_rev (h : Ev K E X te ρ fun a => ∃ ds, a.data = .list ds ∧ NR a ∧ Kp a.frz ds.reverse ∧ Q (.av (.own (ds.reverse.map AV.d)))) : Ev K E X (tRev K te) ρ Q := fun H0 σ ts as H QV s x k =>
  h H0 σ ts as H _ s x fun a ⟨ds, ha, na, kp, q⟩ v H3 s3 => by
    obtain ⟨xs, ⟨l, ys, e, h1, ex⟩, h2, s'⟩ := s3.frzV.items kp (fun xs => ∃ l ys, v = .ref l ∧ SqL K H3 l ys ∧ xs = ys.reverse) (fun G rp sm => by
      rw [TV.frz_data, ha] at rp
      obtain ⟨l, xs, e, h3, h4⟩ := rp.list_inv
      exact ⟨_, ⟨l, xs, e, sm.seq h3, rfl⟩, Reps.rev h4⟩) (TV.frz_nr na)
    subst ex
    exact ⟨l, ys, e, h1, fun p hp => k _ q _ _ (SR.new s' (by rw [List.length_map, h2]) hp)⟩
end
end VL
end

section
set_option Elab.async false
set_option linter.all false
set_option maxRecDepth 100000
set_option maxHeartbeats 4000000
namespace VL
open PySem PySem.Spec L2
section
variable {K : PySem.W.Frag} {E : XK} {X : Exc → Prop} {Q : TV → Prop} {nx bk ct : Sl → Prop} {rt : TV → Prop} {ta tb te : TE} {x : PyData} {r : Sl} {a : AV}
theorem ev_v0 (q : Q (.av (.d x))) : Ev K E X (tVar 0) (some (.d x) :: r) Q := ev_var rfl q
theorem ev_o0 {xs : List AV} (q : Q (.bor (.list (AV.datas xs)))) : Ev K E X (tVar 0) (some (.own xs) :: r) Q := ev_varB rfl q
theorem sv_a0 {o : Option AV} (h : Ev K E X te (o :: r) fun a => ∃ a', Sto (o :: r) a a' ∧ nx (some a' :: r)) : Sv K E X (tAsg te (gName 0)) (o :: r) ⟨nx, rt, bk, ct⟩ := sv_asg (n := 0) h (by simp only [List.length_cons]; omega)
theorem gv_0 {o : Option AV} {P : Sl → Prop} (h : P (some (.d x) :: r)) : Gv K (gName 0) x (o :: r) P := gv_name (n := 0) h (by simp only [List.length_cons]; omega)
theorem sv_ap0 {xs : List AV} (h : Ev K E X te (some (.own xs) :: r) fun a => ∃ a', a.sto = some a' ∧ xs.length ≤ 1000000 ∧ nx (some (.own (xs ++ [a'])) :: r)) : Sv K E X (tDrop (tBM K "list" rAppend (tVar 0) (tCons te tNil))) (some (.own xs) :: r) ⟨nx, rt, bk, ct⟩ := sv_append (n := 0) rfl h
theorem sv_f0 {t : TS} (h : Sv K E X t (some (.d a.data) :: r) ⟨nx, rt, bk, ct⟩) : Sv K E X t (some a :: r) ⟨nx, rt, bk, ct⟩ := sv_frz 0 rfl h
theorem sv_ro0 {xs : List AV} (q : rt (.av (.own xs))) : Sv K E X (tRet (tVar 0)) (some (.own xs) :: r) ⟨nx, rt, bk, ct⟩ := sv_retO rfl q
theorem sv_rv0 {xs : List AV} (h : nx (some (.own xs.reverse) :: r)) : Sv K E X (tDrop (tBM0 K "list" rReverse (tVar 0))) (some (.own xs) :: r) ⟨nx, rt, bk, ct⟩ := sv_reverse (n := 0) rfl h
theorem wk_0 {o : Option AV} : Wk (o :: r) (none :: r) := fun _ _ _ _ _ _ s => s.drop (i := 0)
theorem sv_st0 {xs : List AV} {ti : TE} (h : Ev K E X te (some (.own xs) :: r) fun a => Ev K E X ti (some (.own xs) :: r) fun b => ∃ a' k j, a.sto = some a' ∧ b = .av (.d (.int k)) ∧ ixN xs.length k = some j ∧ nx (some (.own (xs.set j a')) :: r)) : Sv K E X (tAsg te (gSub (tVar 0) ti rSetL)) (some (.own xs) :: r) ⟨nx, rt, bk, ct⟩ := sv_setitem (n := 0) rfl h
theorem sv_d0 {t : TS} {o : Option AV} (h : Sv K E X t (none :: r) ⟨nx, rt, bk, ct⟩) : Sv K E X t (o :: r) ⟨nx, rt, bk, ct⟩ := sv_wk (fun _ _ _ _ _ _ s => s.drop (i := 0)) h
theorem ev_v1 {s0 : Option AV} (q : Q (.av (.d x))) : Ev K E X (tVar 1) (s0 :: some (.d x) :: r) Q := ev_var rfl q
theorem ev_o1 {s0 : Option AV} {xs : List AV} (q : Q (.bor (.list (AV.datas xs)))) : Ev K E X (tVar 1) (s0 :: some (.own xs) :: r) Q := ev_varB rfl q
theorem sv_a1 {s0 : Option AV} {o : Option AV} (h : Ev K E X te (s0 :: o :: r) fun a => ∃ a', Sto (s0 :: o :: r) a a' ∧ nx (s0 :: some a' :: r)) : Sv K E X (tAsg te (gName 1)) (s0 :: o :: r) ⟨nx, rt, bk, ct⟩ := sv_asg (n := 1) h (by simp only [List.length_cons]; omega)
theorem gv_1 {s0 : Option AV} {o : Option AV} {P : Sl → Prop} (h : P (s0 :: some (.d x) :: r)) : Gv K (gName 1) x (s0 :: o :: r) P := gv_name (n := 1) h (by simp only [List.length_cons]; omega)
theorem sv_ap1 {s0 : Option AV} {xs : List AV} (h : Ev K E X te (s0 :: some (.own xs) :: r) fun a => ∃ a', a.sto = some a' ∧ xs.length ≤ 1000000 ∧ nx (s0 :: some (.own (xs ++ [a'])) :: r)) : Sv K E X (tDrop (tBM K "list" rAppend (tVar 1) (tCons te tNil))) (s0 :: some (.own xs) :: r) ⟨nx, rt, bk, ct⟩ := sv_append (n := 1) rfl h
theorem sv_f1 {s0 : Option AV} {t : TS} (h : Sv K E X t (s0 :: some (.d a.data) :: r) ⟨nx, rt, bk, ct⟩) : Sv K E X t (s0 :: some a :: r) ⟨nx, rt, bk, ct⟩ := sv_frz 1 rfl h
theorem sv_ro1 {s0 : Option AV} {xs : List AV} (q : rt (.av (.own xs))) : Sv K E X (tRet (tVar 1)) (s0 :: some (.own xs) :: r) ⟨nx, rt, bk, ct⟩ := sv_retO rfl q
theorem sv_rv1 {s0 : Option AV} {xs : List AV} (h : nx (s0 :: some (.own xs.reverse) :: r)) : Sv K E X (tDrop (tBM0 K "list" rReverse (tVar 1))) (s0 :: some (.own xs) :: r) ⟨nx, rt, bk, ct⟩ := sv_reverse (n := 1) rfl h
theorem wk_1 {s0 : Option AV} {o : Option AV} : Wk (s0 :: o :: r) (s0 :: none :: r) := fun _ _ _ _ _ _ s => s.drop (i := 1)
theorem sv_st1 {s0 : Option AV} {xs : List AV} {ti : TE} (h : Ev K E X te (s0 :: some (.own xs) :: r) fun a => Ev K E X ti (s0 :: some (.own xs) :: r) fun b => ∃ a' k j, a.sto = some a' ∧ b = .av (.d (.int k)) ∧ ixN xs.length k = some j ∧ nx (s0 :: some (.own (xs.set j a')) :: r)) : Sv K E X (tAsg te (gSub (tVar 1) ti rSetL)) (s0 :: some (.own xs) :: r) ⟨nx, rt, bk, ct⟩ := sv_setitem (n := 1) rfl h
theorem sv_d1 {s0 : Option AV} {t : TS} {o : Option AV} (h : Sv K E X t (s0 :: none :: r) ⟨nx, rt, bk, ct⟩) : Sv K E X t (s0 :: o :: r) ⟨nx, rt, bk, ct⟩ := sv_wk (fun _ _ _ _ _ _ s => s.drop (i := 1)) h
theorem ev_v2 {s0 s1 : Option AV} (q : Q (.av (.d x))) : Ev K E X (tVar 2) (s0 :: s1 :: some (.d x) :: r) Q := ev_var rfl q
theorem ev_o2 {s0 s1 : Option AV} {xs : List AV} (q : Q (.bor (.list (AV.datas xs)))) : Ev K E X (tVar 2) (s0 :: s1 :: some (.own xs) :: r) Q := ev_varB rfl q
theorem sv_a2 {s0 s1 : Option AV} {o : Option AV} (h : Ev K E X te (s0 :: s1 :: o :: r) fun a => ∃ a', Sto (s0 :: s1 :: o :: r) a a' ∧ nx (s0 :: s1 :: some a' :: r)) : Sv K E X (tAsg te (gName 2)) (s0 :: s1 :: o :: r) ⟨nx, rt, bk, ct⟩ := sv_asg (n := 2) h (by simp only [List.length_cons]; omega)
theorem gv_2 {s0 s1 : Option AV} {o : Option AV} {P : Sl → Prop} (h : P (s0 :: s1 :: some (.d x) :: r)) : Gv K (gName 2) x (s0 :: s1 :: o :: r) P := gv_name (n := 2) h (by simp only [List.length_cons]; omega)
theorem sv_ap2 {s0 s1 : Option AV} {xs : List AV} (h : Ev K E X te (s0 :: s1 :: some (.own xs) :: r) fun a => ∃ a', a.sto = some a' ∧ xs.length ≤ 1000000 ∧ nx (s0 :: s1 :: some (.own (xs ++ [a'])) :: r)) : Sv K E X (tDrop (tBM K "list" rAppend (tVar 2) (tCons te tNil))) (s0 :: s1 :: some (.own xs) :: r) ⟨nx, rt, bk, ct⟩ := sv_append (n := 2) rfl h
theorem sv_f2 {s0 s1 : Option AV} {t : TS} (h : Sv K E X t (s0 :: s1 :: some (.d a.data) :: r) ⟨nx, rt, bk, ct⟩) : Sv K E X t (s0 :: s1 :: some a :: r) ⟨nx, rt, bk, ct⟩ := sv_frz 2 rfl h
theorem sv_ro2 {s0 s1 : Option AV} {xs : List AV} (q : rt (.av (.own xs))) : Sv K E X (tRet (tVar 2)) (s0 :: s1 :: some (.own xs) :: r) ⟨nx, rt, bk, ct⟩ := sv_retO rfl q
theorem sv_rv2 {s0 s1 : Option AV} {xs : List AV} (h : nx (s0 :: s1 :: some (.own xs.reverse) :: r)) : Sv K E X (tDrop (tBM0 K "list" rReverse (tVar 2))) (s0 :: s1 :: some (.own xs) :: r) ⟨nx, rt, bk, ct⟩ := sv_reverse (n := 2) rfl h
theorem wk_2 {s0 s1 : Option AV} {o : Option AV} : Wk (s0 :: s1 :: o :: r) (s0 :: s1 :: none :: r) := fun _ _ _ _ _ _ s => s.drop (i := 2)
theorem sv_st2 {s0 s1 : Option AV} {xs : List AV} {ti : TE} (h : Ev K E X te (s0 :: s1 :: some (.own xs) :: r) fun a => Ev K E X ti (s0 :: s1 :: some (.own xs) :: r) fun b => ∃ a' k j, a.sto = some a' ∧ b = .av (.d (.int k)) ∧ ixN xs.length k = some j ∧ nx (s0 :: s1 :: some (.own (xs.set j a')) :: r)) : Sv K E X (tAsg te (gSub (tVar 2) ti rSetL)) (s0 :: s1 :: some (.own xs) :: r) ⟨nx, rt, bk, ct⟩ := sv_setitem (n := 2) rfl h
theorem sv_d2 {s0 s1 : Option AV} {t : TS} {o : Option AV} (h : Sv K E X t (s0 :: s1 :: none :: r) ⟨nx, rt, bk, ct⟩) : Sv K E X t (s0 :: s1 :: o :: r) ⟨nx, rt, bk, ct⟩ := sv_wk (fun _ _ _ _ _ _ s => s.drop (i := 2)) h
theorem ev_v3 {s0 s1 s2 : Option AV} (q : Q (.av (.d x))) : Ev K E X (tVar 3) (s0 :: s1 :: s2 :: some (.d x) :: r) Q := ev_var rfl q
theorem ev_o3 {s0 s1 s2 : Option AV} {xs : List AV} (q : Q (.bor (.list (AV.datas xs)))) : Ev K E X (tVar 3) (s0 :: s1 :: s2 :: some (.own xs) :: r) Q := ev_varB rfl q
theorem sv_a3 {s0 s1 s2 : Option AV} {o : Option AV} (h : Ev K E X te (s0 :: s1 :: s2 :: o :: r) fun a => ∃ a', Sto (s0 :: s1 :: s2 :: o :: r) a a' ∧ nx (s0 :: s1 :: s2 :: some a' :: r)) : Sv K E X (tAsg te (gName 3)) (s0 :: s1 :: s2 :: o :: r) ⟨nx, rt, bk, ct⟩ := sv_asg (n := 3) h (by simp only [List.length_cons]; omega)
theorem gv_3 {s0 s1 s2 : Option AV} {o : Option AV} {P : Sl → Prop} (h : P (s0 :: s1 :: s2 :: some (.d x) :: r)) : Gv K (gName 3) x (s0 :: s1 :: s2 :: o :: r) P := gv_name (n := 3) h (by simp only [List.length_cons]; omega)
theorem sv_ap3 {s0 s1 s2 : Option AV} {xs : List AV} (h : Ev K E X te (s0 :: s1 :: s2 :: some (.own xs) :: r) fun a => ∃ a', a.sto = some a' ∧ xs.length ≤ 1000000 ∧ nx (s0 :: s1 :: s2 :: some (.own (xs ++ [a'])) :: r)) : Sv K E X (tDrop (tBM K "list" rAppend (tVar 3) (tCons te tNil))) (s0 :: s1 :: s2 :: some (.own xs) :: r) ⟨nx, rt, bk, ct⟩ := sv_append (n := 3) rfl h
theorem sv_f3 {s0 s1 s2 : Option AV} {t : TS} (h : Sv K E X t (s0 :: s1 :: s2 :: some (.d a.data) :: r) ⟨nx, rt, bk, ct⟩) : Sv K E X t (s0 :: s1 :: s2 :: some a :: r) ⟨nx, rt, bk, ct⟩ := sv_frz 3 rfl h
theorem sv_ro3 {s0 s1 s2 : Option AV} {xs : List AV} (q : rt (.av (.own xs))) : Sv K E X (tRet (tVar 3)) (s0 :: s1 :: s2 :: some (.own xs) :: r) ⟨nx, rt, bk, ct⟩ := sv_retO rfl q
theorem sv_rv3 {s0 s1 s2 : Option AV} {xs : List AV} (h : nx (s0 :: s1 :: s2 :: some (.own xs.reverse) :: r)) : Sv K E X (tDrop (tBM0 K "list" rReverse (tVar 3))) (s0 :: s1 :: s2 :: some (.own xs) :: r) ⟨nx, rt, bk, ct⟩ := sv_reverse (n := 3) rfl h
theorem wk_3 {s0 s1 s2 : Option AV} {o : Option AV} : Wk (s0 :: s1 :: s2 :: o :: r) (s0 :: s1 :: s2 :: none :: r) := fun _ _ _ _ _ _ s => s.drop (i := 3)
theorem sv_st3 {s0 s1 s2 : Option AV} {xs : List AV} {ti : TE} (h : Ev K E X te (s0 :: s1 :: s2 :: some (.own xs) :: r) fun a => Ev K E X ti (s0 :: s1 :: s2 :: some (.own xs) :: r) fun b => ∃ a' k j, a.sto = some a' ∧ b = .av (.d (.int k)) ∧ ixN xs.length k = some j ∧ nx (s0 :: s1 :: s2 :: some (.own (xs.set j a')) :: r)) : Sv K E X (tAsg te (gSub (tVar 3) ti rSetL)) (s0 :: s1 :: s2 :: some (.own xs) :: r) ⟨nx, rt, bk, ct⟩ := sv_setitem (n := 3) rfl h
theorem sv_d3 {s0 s1 s2 : Option AV} {t : TS} {o : Option AV} (h : Sv K E X t (s0 :: s1 :: s2 :: none :: r) ⟨nx, rt, bk, ct⟩) : Sv K E X t (s0 :: s1 :: s2 :: o :: r) ⟨nx, rt, bk, ct⟩ := sv_wk (fun _ _ _ _ _ _ s => s.drop (i := 3)) h
theorem ev_v4 {s0 s1 s2 s3 : Option AV} (q : Q (.av (.d x))) : Ev K E X (tVar 4) (s0 :: s1 :: s2 :: s3 :: some (.d x) :: r) Q := ev_var rfl q
theorem ev_o4 {s0 s1 s2 s3 : Option AV} {xs : List AV} (q : Q (.bor (.list (AV.datas xs)))) : Ev K E X (tVar 4) (s0 :: s1 :: s2 :: s3 :: some (.own xs) :: r) Q := ev_varB rfl q
theorem sv_a4 {s0 s1 s2 s3 : Option AV} {o : Option AV} (h : Ev K E X te (s0 :: s1 :: s2 :: s3 :: o :: r) fun a => ∃ a', Sto (s0 :: s1 :: s2 :: s3 :: o :: r) a a' ∧ nx (s0 :: s1 :: s2 :: s3 :: some a' :: r)) : Sv K E X (tAsg te (gName 4)) (s0 :: s1 :: s2 :: s3 :: o :: r) ⟨nx, rt, bk, ct⟩ := sv_asg (n := 4) h (by simp only [List.length_cons]; omega)
theorem gv_4 {s0 s1 s2 s3 : Option AV} {o : Option AV} {P : Sl → Prop} (h : P (s0 :: s1 :: s2 :: s3 :: some (.d x) :: r)) : Gv K (gName 4) x (s0 :: s1 :: s2 :: s3 :: o :: r) P := gv_name (n := 4) h (by simp only [List.length_cons]; omega)
theorem sv_ap4 {s0 s1 s2 s3 : Option AV} {xs : List AV} (h : Ev K E X te (s0 :: s1 :: s2 :: s3 :: some (.own xs) :: r) fun a => ∃ a', a.sto = some a' ∧ xs.length ≤ 1000000 ∧ nx (s0 :: s1 :: s2 :: s3 :: some (.own (xs ++ [a'])) :: r)) : Sv K E X (tDrop (tBM K "list" rAppend (tVar 4) (tCons te tNil))) (s0 :: s1 :: s2 :: s3 :: some (.own xs) :: r) ⟨nx, rt, bk, ct⟩ := sv_append (n := 4) rfl h
theorem sv_f4 {s0 s1 s2 s3 : Option AV} {t : TS} (h : Sv K E X t (s0 :: s1 :: s2 :: s3 :: some (.d a.data) :: r) ⟨nx, rt, bk, ct⟩) : Sv K E X t (s0 :: s1 :: s2 :: s3 :: some a :: r) ⟨nx, rt, bk, ct⟩ := sv_frz 4 rfl h
theorem sv_ro4 {s0 s1 s2 s3 : Option AV} {xs : List AV} (q : rt (.av (.own xs))) : Sv K E X (tRet (tVar 4)) (s0 :: s1 :: s2 :: s3 :: some (.own xs) :: r) ⟨nx, rt, bk, ct⟩ := sv_retO rfl q
theorem sv_rv4 {s0 s1 s2 s3 : Option AV} {xs : List AV} (h : nx (s0 :: s1 :: s2 :: s3 :: some (.own xs.reverse) :: r)) : Sv K E X (tDrop (tBM0 K "list" rReverse (tVar 4))) (s0 :: s1 :: s2 :: s3 :: some (.own xs) :: r) ⟨nx, rt, bk, ct⟩ := sv_reverse (n := 4) rfl h
theorem wk_4 {s0 s1 s2 s3 : Option AV} {o : Option AV} : Wk (s0 :: s1 :: s2 :: s3 :: o :: r) (s0 :: s1 :: s2 :: s3 :: none :: r) := fun _ _ _ _ _ _ s => s.drop (i := 4)
theorem sv_st4 {s0 s1 s2 s3 : Option AV} {xs : List AV} {ti : TE} (h : Ev K E X te (s0 :: s1 :: s2 :: s3 :: some (.own xs) :: r) fun a => Ev K E X ti (s0 :: s1 :: s2 :: s3 :: some (.own xs) :: r) fun b => ∃ a' k j, a.sto = some a' ∧ b = .av (.d (.int k)) ∧ ixN xs.length k = some j ∧ nx (s0 :: s1 :: s2 :: s3 :: some (.own (xs.set j a')) :: r)) : Sv K E X (tAsg te (gSub (tVar 4) ti rSetL)) (s0 :: s1 :: s2 :: s3 :: some (.own xs) :: r) ⟨nx, rt, bk, ct⟩ := sv_setitem (n := 4) rfl h
theorem sv_d4 {s0 s1 s2 s3 : Option AV} {t : TS} {o : Option AV} (h : Sv K E X t (s0 :: s1 :: s2 :: s3 :: none :: r) ⟨nx, rt, bk, ct⟩) : Sv K E X t (s0 :: s1 :: s2 :: s3 :: o :: r) ⟨nx, rt, bk, ct⟩ := sv_wk (fun _ _ _ _ _ _ s => s.drop (i := 4)) h
theorem ev_v5 {s0 s1 s2 s3 s4 : Option AV} (q : Q (.av (.d x))) : Ev K E X (tVar 5) (s0 :: s1 :: s2 :: s3 :: s4 :: some (.d x) :: r) Q := ev_var rfl q
theorem ev_o5 {s0 s1 s2 s3 s4 : Option AV} {xs : List AV} (q : Q (.bor (.list (AV.datas xs)))) : Ev K E X (tVar 5) (s0 :: s1 :: s2 :: s3 :: s4 :: some (.own xs) :: r) Q := ev_varB rfl q
theorem sv_a5 {s0 s1 s2 s3 s4 : Option AV} {o : Option AV} (h : Ev K E X te (s0 :: s1 :: s2 :: s3 :: s4 :: o :: r) fun a => ∃ a', Sto (s0 :: s1 :: s2 :: s3 :: s4 :: o :: r) a a' ∧ nx (s0 :: s1 :: s2 :: s3 :: s4 :: some a' :: r)) : Sv K E X (tAsg te (gName 5)) (s0 :: s1 :: s2 :: s3 :: s4 :: o :: r) ⟨nx, rt, bk, ct⟩ := sv_asg (n := 5) h (by simp only [List.length_cons]; omega)
theorem gv_5 {s0 s1 s2 s3 s4 : Option AV} {o : Option AV} {P : Sl → Prop} (h : P (s0 :: s1 :: s2 :: s3 :: s4 :: some (.d x) :: r)) : Gv K (gName 5) x (s0 :: s1 :: s2 :: s3 :: s4 :: o :: r) P := gv_name (n := 5) h (by simp only [List.length_cons]; omega)
theorem sv_ap5 {s0 s1 s2 s3 s4 : Option AV} {xs : List AV} (h : Ev K E X te (s0 :: s1 :: s2 :: s3 :: s4 :: some (.own xs) :: r) fun a => ∃ a', a.sto = some a' ∧ xs.length ≤ 1000000 ∧ nx (s0 :: s1 :: s2 :: s3 :: s4 :: some (.own (xs ++ [a'])) :: r)) : Sv K E X (tDrop (tBM K "list" rAppend (tVar 5) (tCons te tNil))) (s0 :: s1 :: s2 :: s3 :: s4 :: some (.own xs) :: r) ⟨nx, rt, bk, ct⟩ := sv_append (n := 5) rfl h
theorem sv_f5 {s0 s1 s2 s3 s4 : Option AV} {t : TS} (h : Sv K E X t (s0 :: s1 :: s2 :: s3 :: s4 :: some (.d a.data) :: r) ⟨nx, rt, bk, ct⟩) : Sv K E X t (s0 :: s1 :: s2 :: s3 :: s4 :: some a :: r) ⟨nx, rt, bk, ct⟩ := sv_frz 5 rfl h
theorem sv_ro5 {s0 s1 s2 s3 s4 : Option AV} {xs : List AV} (q : rt (.av (.own xs))) : Sv K E X (tRet (tVar 5)) (s0 :: s1 :: s2 :: s3 :: s4 :: some (.own xs) :: r) ⟨nx, rt, bk, ct⟩ := sv_retO rfl q
theorem sv_rv5 {s0 s1 s2 s3 s4 : Option AV} {xs : List AV} (h : nx (s0 :: s1 :: s2 :: s3 :: s4 :: some (.own xs.reverse) :: r)) : Sv K E X (tDrop (tBM0 K "list" rReverse (tVar 5))) (s0 :: s1 :: s2 :: s3 :: s4 :: some (.own xs) :: r) ⟨nx, rt, bk, ct⟩ := sv_reverse (n := 5) rfl h
theorem wk_5 {s0 s1 s2 s3 s4 : Option AV} {o : Option AV} : Wk (s0 :: s1 :: s2 :: s3 :: s4 :: o :: r) (s0 :: s1 :: s2 :: s3 :: s4 :: none :: r) := fun _ _ _ _ _ _ s => s.drop (i := 5)
theorem sv_st5 {s0 s1 s2 s3 s4 : Option AV} {xs : List AV} {ti : TE} (h : Ev K E X te (s0 :: s1 :: s2 :: s3 :: s4 :: some (.own xs) :: r) fun a => Ev K E X ti (s0 :: s1 :: s2 :: s3 :: s4 :: some (.own xs) :: r) fun b => ∃ a' k j, a.sto = some a' ∧ b = .av (.d (.int k)) ∧ ixN xs.length k = some j ∧ nx (s0 :: s1 :: s2 :: s3 :: s4 :: some (.own (xs.set j a')) :: r)) : Sv K E X (tAsg te (gSub (tVar 5) ti rSetL)) (s0 :: s1 :: s2 :: s3 :: s4 :: some (.own xs) :: r) ⟨nx, rt, bk, ct⟩ := sv_setitem (n := 5) rfl h
theorem sv_d5 {s0 s1 s2 s3 s4 : Option AV} {t : TS} {o : Option AV} (h : Sv K E X t (s0 :: s1 :: s2 :: s3 :: s4 :: none :: r) ⟨nx, rt, bk, ct⟩) : Sv K E X t (s0 :: s1 :: s2 :: s3 :: s4 :: o :: r) ⟨nx, rt, bk, ct⟩ := sv_wk (fun _ _ _ _ _ _ s => s.drop (i := 5)) h
theorem ev_v6 {s0 s1 s2 s3 s4 s5 : Option AV} (q : Q (.av (.d x))) : Ev K E X (tVar 6) (s0 :: s1 :: s2 :: s3 :: s4 :: s5 :: some (.d x) :: r) Q := ev_var rfl q
theorem ev_o6 {s0 s1 s2 s3 s4 s5 : Option AV} {xs : List AV} (q : Q (.bor (.list (AV.datas xs)))) : Ev K E X (tVar 6) (s0 :: s1 :: s2 :: s3 :: s4 :: s5 :: some (.own xs) :: r) Q := ev_varB rfl q
theorem sv_a6 {s0 s1 s2 s3 s4 s5 : Option AV} {o : Option AV} (h : Ev K E X te (s0 :: s1 :: s2 :: s3 :: s4 :: s5 :: o :: r) fun a => ∃ a', Sto (s0 :: s1 :: s2 :: s3 :: s4 :: s5 :: o :: r) a a' ∧ nx (s0 :: s1 :: s2 :: s3 :: s4 :: s5 :: some a' :: r)) : Sv K E X (tAsg te (gName 6)) (s0 :: s1 :: s2 :: s3 :: s4 :: s5 :: o :: r) ⟨nx, rt, bk, ct⟩ := sv_asg (n := 6) h (by simp only [List.length_cons]; omega)
theorem gv_6 {s0 s1 s2 s3 s4 s5 : Option AV} {o : Option AV} {P : Sl → Prop} (h : P (s0 :: s1 :: s2 :: s3 :: s4 :: s5 :: some (.d x) :: r)) : Gv K (gName 6) x (s0 :: s1 :: s2 :: s3 :: s4 :: s5 :: o :: r) P := gv_name (n := 6) h (by simp only [List.length_cons]; omega)
theorem sv_ap6 {s0 s1 s2 s3 s4 s5 : Option AV} {xs : List AV} (h : Ev K E X te (s0 :: s1 :: s2 :: s3 :: s4 :: s5 :: some (.own xs) :: r) fun a => ∃ a', a.sto = some a' ∧ xs.length ≤ 1000000 ∧ nx (s0 :: s1 :: s2 :: s3 :: s4 :: s5 :: some (.own (xs ++ [a'])) :: r)) : Sv K E X (tDrop (tBM K "list" rAppend (tVar 6) (tCons te tNil))) (s0 :: s1 :: s2 :: s3 :: s4 :: s5 :: some (.own xs) :: r) ⟨nx, rt, bk, ct⟩ := sv_append (n := 6) rfl h
theorem sv_f6 {s0 s1 s2 s3 s4 s5 : Option AV} {t : TS} (h : Sv K E X t (s0 :: s1 :: s2 :: s3 :: s4 :: s5 :: some (.d a.data) :: r) ⟨nx, rt, bk, ct⟩) : Sv K E X t (s0 :: s1 :: s2 :: s3 :: s4 :: s5 :: some a :: r) ⟨nx, rt, bk, ct⟩ := sv_frz 6 rfl h
theorem sv_ro6 {s0 s1 s2 s3 s4 s5 : Option AV} {xs : List AV} (q : rt (.av (.own xs))) : Sv K E X (tRet (tVar 6)) (s0 :: s1 :: s2 :: s3 :: s4 :: s5 :: some (.own xs) :: r) ⟨nx, rt, bk, ct⟩ := sv_retO rfl q
theorem sv_rv6 {s0 s1 s2 s3 s4 s5 : Option AV} {xs : List AV} (h : nx (s0 :: s1 :: s2 :: s3 :: s4 :: s5 :: some (.own xs.reverse) :: r)) : Sv K E X (tDrop (tBM0 K "list" rReverse (tVar 6))) (s0 :: s1 :: s2 :: s3 :: s4 :: s5 :: some (.own xs) :: r) ⟨nx, rt, bk, ct⟩ := sv_reverse (n := 6) rfl h
theorem wk_6 {s0 s1 s2 s3 s4 s5 : Option AV} {o : Option AV} : Wk (s0 :: s1 :: s2 :: s3 :: s4 :: s5 :: o :: r) (s0 :: s1 :: s2 :: s3 :: s4 :: s5 :: none :: r) := fun _ _ _ _ _ _ s => s.drop (i := 6)
theorem sv_st6 {s0 s1 s2 s3 s4 s5 : Option AV} {xs : List AV} {ti : TE} (h : Ev K E X te (s0 :: s1 :: s2 :: s3 :: s4 :: s5 :: some (.own xs) :: r) fun a => Ev K E X ti (s0 :: s1 :: s2 :: s3 :: s4 :: s5 :: some (.own xs) :: r) fun b => ∃ a' k j, a.sto = some a' ∧ b = .av (.d (.int k)) ∧ ixN xs.length k = some j ∧ nx (s0 :: s1 :: s2 :: s3 :: s4 :: s5 :: some (.own (xs.set j a')) :: r)) : Sv K E X (tAsg te (gSub (tVar 6) ti rSetL)) (s0 :: s1 :: s2 :: s3 :: s4 :: s5 :: some (.own xs) :: r) ⟨nx, rt, bk, ct⟩ := sv_setitem (n := 6) rfl h
theorem sv_d6 {s0 s1 s2 s3 s4 s5 : Option AV} {t : TS} {o : Option AV} (h : Sv K E X t (s0 :: s1 :: s2 :: s3 :: s4 :: s5 :: none :: r) ⟨nx, rt, bk, ct⟩) : Sv K E X t (s0 :: s1 :: s2 :: s3 :: s4 :: s5 :: o :: r) ⟨nx, rt, bk, ct⟩ := sv_wk (fun _ _ _ _ _ _ s => s.drop (i := 6)) h
theorem ev_v7 {s0 s1 s2 s3 s4 s5 s6 : Option AV} (q : Q (.av (.d x))) : Ev K E X (tVar 7) (s0 :: s1 :: s2 :: s3 :: s4 :: s5 :: s6 :: some (.d x) :: r) Q := ev_var rfl q
theorem ev_o7 {s0 s1 s2 s3 s4 s5 s6 : Option AV} {xs : List AV} (q : Q (.bor (.list (AV.datas xs)))) : Ev K E X (tVar 7) (s0 :: s1 :: s2 :: s3 :: s4 :: s5 :: s6 :: some (.own xs) :: r) Q := ev_varB rfl q
theorem sv_a7 {s0 s1 s2 s3 s4 s5 s6 : Option AV} {o : Option AV} (h : Ev K E X te (s0 :: s1 :: s2 :: s3 :: s4 :: s5 :: s6 :: o :: r) fun a => ∃ a', Sto (s0 :: s1 :: s2 :: s3 :: s4 :: s5 :: s6 :: o :: r) a a' ∧ nx (s0 :: s1 :: s2 :: s3 :: s4 :: s5 :: s6 :: some a' :: r)) : Sv K E X (tAsg te (gName 7)) (s0 :: s1 :: s2 :: s3 :: s4 :: s5 :: s6 :: o :: r) ⟨nx, rt, bk, ct⟩ := sv_asg (n := 7) h (by simp only [List.length_cons]; omega)
theorem gv_7 {s0 s1 s2 s3 s4 s5 s6 : Option AV} {o : Option AV} {P : Sl → Prop} (h : P (s0 :: s1 :: s2 :: s3 :: s4 :: s5 :: s6 :: some (.d x) :: r)) : Gv K (gName 7) x (s0 :: s1 :: s2 :: s3 :: s4 :: s5 :: s6 :: o :: r) P := gv_name (n := 7) h (by simp only [List.length_cons]; omega)
theorem sv_ap7 {s0 s1 s2 s3 s4 s5 s6 : Option AV} {xs : List AV} (h : Ev K E X te (s0 :: s1 :: s2 :: s3 :: s4 :: s5 :: s6 :: some (.own xs) :: r) fun a => ∃ a', a.sto = some a' ∧ xs.length ≤ 1000000 ∧ nx (s0 :: s1 :: s2 :: s3 :: s4 :: s5 :: s6 :: some (.own (xs ++ [a'])) :: r)) : Sv K E X (tDrop (tBM K "list" rAppend (tVar 7) (tCons te tNil))) (s0 :: s1 :: s2 :: s3 :: s4 :: s5 :: s6 :: some (.own xs) :: r) ⟨nx, rt, bk, ct⟩ := sv_append (n := 7) rfl h
theorem sv_f7 {s0 s1 s2 s3 s4 s5 s6 : Option AV} {t : TS} (h : Sv K E X t (s0 :: s1 :: s2 :: s3 :: s4 :: s5 :: s6 :: some (.d a.data) :: r) ⟨nx, rt, bk, ct⟩) : Sv K E X t (s0 :: s1 :: s2 :: s3 :: s4 :: s5 :: s6 :: some a :: r) ⟨nx, rt, bk, ct⟩ := sv_frz 7 rfl h
theorem sv_ro7 {s0 s1 s2 s3 s4 s5 s6 : Option AV} {xs : List AV} (q : rt (.av (.own xs))) : Sv K E X (tRet (tVar 7)) (s0 :: s1 :: s2 :: s3 :: s4 :: s5 :: s6 :: some (.own xs) :: r) ⟨nx, rt, bk, ct⟩ := sv_retO rfl q
theorem sv_rv7 {s0 s1 s2 s3 s4 s5 s6 : Option AV} {xs : List AV} (h : nx (s0 :: s1 :: s2 :: s3 :: s4 :: s5 :: s6 :: some (.own xs.reverse) :: r)) : Sv K E X (tDrop (tBM0 K "list" rReverse (tVar 7))) (s0 :: s1 :: s2 :: s3 :: s4 :: s5 :: s6 :: some (.own xs) :: r) ⟨nx, rt, bk, ct⟩ := sv_reverse (n := 7) rfl h
theorem wk_7 {s0 s1 s2 s3 s4 s5 s6 : Option AV} {o : Option AV} : Wk (s0 :: s1 :: s2 :: s3 :: s4 :: s5 :: s6 :: o :: r) (s0 :: s1 :: s2 :: s3 :: s4 :: s5 :: s6 :: none :: r) := fun _ _ _ _ _ _ s => s.drop (i := 7)
theorem sv_st7 {s0 s1 s2 s3 s4 s5 s6 : Option AV} {xs : List AV} {ti : TE} (h : Ev K E X te (s0 :: s1 :: s2 :: s3 :: s4 :: s5 :: s6 :: some (.own xs) :: r) fun a => Ev K E X ti (s0 :: s1 :: s2 :: s3 :: s4 :: s5 :: s6 :: some (.own xs) :: r) fun b => ∃ a' k j, a.sto = some a' ∧ b = .av (.d (.int k)) ∧ ixN xs.length k = some j ∧ nx (s0 :: s1 :: s2 :: s3 :: s4 :: s5 :: s6 :: some (.own (xs.set j a')) :: r)) : Sv K E X (tAsg te (gSub (tVar 7) ti rSetL)) (s0 :: s1 :: s2 :: s3 :: s4 :: s5 :: s6 :: some (.own xs) :: r) ⟨nx, rt, bk, ct⟩ := sv_setitem (n := 7) rfl h
theorem sv_d7 {s0 s1 s2 s3 s4 s5 s6 : Option AV} {t : TS} {o : Option AV} (h : Sv K E X t (s0 :: s1 :: s2 :: s3 :: s4 :: s5 :: s6 :: none :: r) ⟨nx, rt, bk, ct⟩) : Sv K E X t (s0 :: s1 :: s2 :: s3 :: s4 :: s5 :: s6 :: o :: r) ⟨nx, rt, bk, ct⟩ := sv_wk (fun _ _ _ _ _ _ s => s.drop (i := 7)) h
theorem ev_v8 {s0 s1 s2 s3 s4 s5 s6 s7 : Option AV} (q : Q (.av (.d x))) : Ev K E X (tVar 8) (s0 :: s1 :: s2 :: s3 :: s4 :: s5 :: s6 :: s7 :: some (.d x) :: r) Q := ev_var rfl q
theorem ev_o8 {s0 s1 s2 s3 s4 s5 s6 s7 : Option AV} {xs : List AV} (q : Q (.bor (.list (AV.datas xs)))) : Ev K E X (tVar 8) (s0 :: s1 :: s2 :: s3 :: s4 :: s5 :: s6 :: s7 :: some (.own xs) :: r) Q := ev_varB rfl q
theorem sv_a8 {s0 s1 s2 s3 s4 s5 s6 s7 : Option AV} {o : Option AV} (h : Ev K E X te (s0 :: s1 :: s2 :: s3 :: s4 :: s5 :: s6 :: s7 :: o :: r) fun a => ∃ a', Sto (s0 :: s1 :: s2 :: s3 :: s4 :: s5 :: s6 :: s7 :: o :: r) a a' ∧ nx (s0 :: s1 :: s2 :: s3 :: s4 :: s5 :: s6 :: s7 :: some a' :: r)) : Sv K E X (tAsg te (gName 8)) (s0 :: s1 :: s2 :: s3 :: s4 :: s5 :: s6 :: s7 :: o :: r) ⟨nx, rt, bk, ct⟩ := sv_asg (n := 8) h (by simp only [List.length_cons]; omega)
theorem gv_8 {s0 s1 s2 s3 s4 s5 s6 s7 : Option AV} {o : Option AV} {P : Sl → Prop} (h : P (s0 :: s1 :: s2 :: s3 :: s4 :: s5 :: s6 :: s7 :: some (.d x) :: r)) : Gv K (gName 8) x (s0 :: s1 :: s2 :: s3 :: s4 :: s5 :: s6 :: s7 :: o :: r) P := gv_name (n := 8) h (by simp only [List.length_cons]; omega)
theorem sv_ap8 {s0 s1 s2 s3 s4 s5 s6 s7 : Option AV} {xs : List AV} (h : Ev K E X te (s0 :: s1 :: s2 :: s3 :: s4 :: s5 :: s6 :: s7 :: some (.own xs) :: r) fun a => ∃ a', a.sto = some a' ∧ xs.length ≤ 1000000 ∧ nx (s0 :: s1 :: s2 :: s3 :: s4 :: s5 :: s6 :: s7 :: some (.own (xs ++ [a'])) :: r)) : Sv K E X (tDrop (tBM K "list" rAppend (tVar 8) (tCons te tNil))) (s0 :: s1 :: s2 :: s3 :: s4 :: s5 :: s6 :: s7 :: some (.own xs) :: r) ⟨nx, rt, bk, ct⟩ := sv_append (n := 8) rfl h
theorem sv_f8 {s0 s1 s2 s3 s4 s5 s6 s7 : Option AV} {t : TS} (h : Sv K E X t (s0 :: s1 :: s2 :: s3 :: s4 :: s5 :: s6 :: s7 :: some (.d a.data) :: r) ⟨nx, rt, bk, ct⟩) : Sv K E X t (s0 :: s1 :: s2 :: s3 :: s4 :: s5 :: s6 :: s7 :: some a :: r) ⟨nx, rt, bk, ct⟩ := sv_frz 8 rfl h
theorem sv_ro8 {s0 s1 s2 s3 s4 s5 s6 s7 : Option AV} {xs : List AV} (q : rt (.av (.own xs))) : Sv K E X (tRet (tVar 8)) (s0 :: s1 :: s2 :: s3 :: s4 :: s5 :: s6 :: s7 :: some (.own xs) :: r) ⟨nx, rt, bk, ct⟩ := sv_retO rfl q
theorem sv_rv8 {s0 s1 s2 s3 s4 s5 s6 s7 : Option AV} {xs : List AV} (h : nx (s0 :: s1 :: s2 :: s3 :: s4 :: s5 :: s6 :: s7 :: some (.own xs.reverse) :: r)) : Sv K E X (tDrop (tBM0 K "list" rReverse (tVar 8))) (s0 :: s1 :: s2 :: s3 :: s4 :: s5 :: s6 :: s7 :: some (.own xs) :: r) ⟨nx, rt, bk, ct⟩ := sv_reverse (n := 8) rfl h
theorem wk_8 {s0 s1 s2 s3 s4 s5 s6 s7 : Option AV} {o : Option AV} : Wk (s0 :: s1 :: s2 :: s3 :: s4 :: s5 :: s6 :: s7 :: o :: r) (s0 :: s1 :: s2 :: s3 :: s4 :: s5 :: s6 :: s7 :: none :: r) := fun _ _ _ _ _ _ s => s.drop (i := 8)
theorem sv_st8 {s0 s1 s2 s3 s4 s5 s6 s7 : Option AV} {xs : List AV} {ti : TE} (h : Ev K E X te (s0 :: s1 :: s2 :: s3 :: s4 :: s5 :: s6 :: s7 :: some (.own xs) :: r) fun a => Ev K E X ti (s0 :: s1 :: s2 :: s3 :: s4 :: s5 :: s6 :: s7 :: some (.own xs) :: r) fun b => ∃ a' k j, a.sto = some a' ∧ b = .av (.d (.int k)) ∧ ixN xs.length k = some j ∧ nx (s0 :: s1 :: s2 :: s3 :: s4 :: s5 :: s6 :: s7 :: some (.own (xs.set j a')) :: r)) : Sv K E X (tAsg te (gSub (tVar 8) ti rSetL)) (s0 :: s1 :: s2 :: s3 :: s4 :: s5 :: s6 :: s7 :: some (.own xs) :: r) ⟨nx, rt, bk, ct⟩ := sv_setitem (n := 8) rfl h
theorem sv_d8 {s0 s1 s2 s3 s4 s5 s6 s7 : Option AV} {t : TS} {o : Option AV} (h : Sv K E X t (s0 :: s1 :: s2 :: s3 :: s4 :: s5 :: s6 :: s7 :: none :: r) ⟨nx, rt, bk, ct⟩) : Sv K E X t (s0 :: s1 :: s2 :: s3 :: s4 :: s5 :: s6 :: s7 :: o :: r) ⟨nx, rt, bk, ct⟩ := sv_wk (fun _ _ _ _ _ _ s => s.drop (i := 8)) h
theorem ev_v9 {s0 s1 s2 s3 s4 s5 s6 s7 s8 : Option AV} (q : Q (.av (.d x))) : Ev K E X (tVar 9) (s0 :: s1 :: s2 :: s3 :: s4 :: s5 :: s6 :: s7 :: s8 :: some (.d x) :: r) Q := ev_var rfl q
theorem ev_o9 {s0 s1 s2 s3 s4 s5 s6 s7 s8 : Option AV} {xs : List AV} (q : Q (.bor (.list (AV.datas xs)))) : Ev K E X (tVar 9) (s0 :: s1 :: s2 :: s3 :: s4 :: s5 :: s6 :: s7 :: s8 :: some (.own xs) :: r) Q := ev_varB rfl q
theorem sv_a9 {s0 s1 s2 s3 s4 s5 s6 s7 s8 : Option AV} {o : Option AV} (h : Ev K E X te (s0 :: s1 :: s2 :: s3 :: s4 :: s5 :: s6 :: s7 :: s8 :: o :: r) fun a => ∃ a', Sto (s0 :: s1 :: s2 :: s3 :: s4 :: s5 :: s6 :: s7 :: s8 :: o :: r) a a' ∧ nx (s0 :: s1 :: s2 :: s3 :: s4 :: s5 :: s6 :: s7 :: s8 :: some a' :: r)) : Sv K E X (tAsg te (gName 9)) (s0 :: s1 :: s2 :: s3 :: s4 :: s5 :: s6 :: s7 :: s8 :: o :: r) ⟨nx, rt, bk, ct⟩ := sv_asg (n := 9) h (by simp only [List.length_cons]; omega)
theorem gv_9 {s0 s1 s2 s3 s4 s5 s6 s7 s8 : Option AV} {o : Option AV} {P : Sl → Prop} (h : P (s0 :: s1 :: s2 :: s3 :: s4 :: s5 :: s6 :: s7 :: s8 :: some (.d x) :: r)) : Gv K (gName 9) x (s0 :: s1 :: s2 :: s3 :: s4 :: s5 :: s6 :: s7 :: s8 :: o :: r) P := gv_name (n := 9) h (by simp only [List.length_cons]; omega)
theorem sv_ap9 {s0 s1 s2 s3 s4 s5 s6 s7 s8 : Option AV} {xs : List AV} (h : Ev K E X te (s0 :: s1 :: s2 :: s3 :: s4 :: s5 :: s6 :: s7 :: s8 :: some (.own xs) :: r) fun a => ∃ a', a.sto = some a' ∧ xs.length ≤ 1000000 ∧ nx (s0 :: s1 :: s2 :: s3 :: s4 :: s5 :: s6 :: s7 :: s8 :: some (.own (xs ++ [a'])) :: r)) : Sv K E X (tDrop (tBM K "list" rAppend (tVar 9) (tCons te tNil))) (s0 :: s1 :: s2 :: s3 :: s4 :: s5 :: s6 :: s7 :: s8 :: some (.own xs) :: r) ⟨nx, rt, bk, ct⟩ := sv_append (n := 9) rfl h
theorem sv_f9 {s0 s1 s2 s3 s4 s5 s6 s7 s8 : Option AV} {t : TS} (h : Sv K E X t (s0 :: s1 :: s2 :: s3 :: s4 :: s5 :: s6 :: s7 :: s8 :: some (.d a.data) :: r) ⟨nx, rt, bk, ct⟩) : Sv K E X t (s0 :: s1 :: s2 :: s3 :: s4 :: s5 :: s6 :: s7 :: s8 :: some a :: r) ⟨nx, rt, bk, ct⟩ := sv_frz 9 rfl h
theorem sv_ro9 {s0 s1 s2 s3 s4 s5 s6 s7 s8 : Option AV} {xs : List AV} (q : rt (.av (.own xs))) : Sv K E X (tRet (tVar 9)) (s0 :: s1 :: s2 :: s3 :: s4 :: s5 :: s6 :: s7 :: s8 :: some (.own xs) :: r) ⟨nx, rt, bk, ct⟩ := sv_retO rfl q
theorem sv_rv9 {s0 s1 s2 s3 s4 s5 s6 s7 s8 : Option AV} {xs : List AV} (h : nx (s0 :: s1 :: s2 :: s3 :: s4 :: s5 :: s6 :: s7 :: s8 :: some (.own xs.reverse) :: r)) : Sv K E X (tDrop (tBM0 K "list" rReverse (tVar 9))) (s0 :: s1 :: s2 :: s3 :: s4 :: s5 :: s6 :: s7 :: s8 :: some (.own xs) :: r) ⟨nx, rt, bk, ct⟩ := sv_reverse (n := 9) rfl h
theorem wk_9 {s0 s1 s2 s3 s4 s5 s6 s7 s8 : Option AV} {o : Option AV} : Wk (s0 :: s1 :: s2 :: s3 :: s4 :: s5 :: s6 :: s7 :: s8 :: o :: r) (s0 :: s1 :: s2 :: s3 :: s4 :: s5 :: s6 :: s7 :: s8 :: none :: r) := fun _ _ _ _ _ _ s => s.drop (i := 9)
theorem sv_st9 {s0 s1 s2 s3 s4 s5 s6 s7 s8 : Option AV} {xs : List AV} {ti : TE} (h : Ev K E X te (s0 :: s1 :: s2 :: s3 :: s4 :: s5 :: s6 :: s7 :: s8 :: some (.own xs) :: r) fun a => Ev K E X ti (s0 :: s1 :: s2 :: s3 :: s4 :: s5 :: s6 :: s7 :: s8 :: some (.own xs) :: r) fun b => ∃ a' k j, a.sto = some a' ∧ b = .av (.d (.int k)) ∧ ixN xs.length k = some j ∧ nx (s0 :: s1 :: s2 :: s3 :: s4 :: s5 :: s6 :: s7 :: s8 :: some (.own (xs.set j a')) :: r)) : Sv K E X (tAsg te (gSub (tVar 9) ti rSetL)) (s0 :: s1 :: s2 :: s3 :: s4 :: s5 :: s6 :: s7 :: s8 :: some (.own xs) :: r) ⟨nx, rt, bk, ct⟩ := sv_setitem (n := 9) rfl h
theorem sv_d9 {s0 s1 s2 s3 s4 s5 s6 s7 s8 : Option AV} {t : TS} {o : Option AV} (h : Sv K E X t (s0 :: s1 :: s2 :: s3 :: s4 :: s5 :: s6 :: s7 :: s8 :: none :: r) ⟨nx, rt, bk, ct⟩) : Sv K E X t (s0 :: s1 :: s2 :: s3 :: s4 :: s5 :: s6 :: s7 :: s8 :: o :: r) ⟨nx, rt, bk, ct⟩ := sv_wk (fun _ _ _ _ _ _ s => s.drop (i := 9)) h
theorem ev_v10 {s0 s1 s2 s3 s4 s5 s6 s7 s8 s9 : Option AV} (q : Q (.av (.d x))) : Ev K E X (tVar 10) (s0 :: s1 :: s2 :: s3 :: s4 :: s5 :: s6 :: s7 :: s8 :: s9 :: some (.d x) :: r) Q := ev_var rfl q
theorem ev_o10 {s0 s1 s2 s3 s4 s5 s6 s7 s8 s9 : Option AV} {xs : List AV} (q : Q (.bor (.list (AV.datas xs)))) : Ev K E X (tVar 10) (s0 :: s1 :: s2 :: s3 :: s4 :: s5 :: s6 :: s7 :: s8 :: s9 :: some (.own xs) :: r) Q := ev_varB rfl q
theorem sv_a10 {s0 s1 s2 s3 s4 s5 s6 s7 s8 s9 : Option AV} {o : Option AV} (h : Ev K E X te (s0 :: s1 :: s2 :: s3 :: s4 :: s5 :: s6 :: s7 :: s8 :: s9 :: o :: r) fun a => ∃ a', Sto (s0 :: s1 :: s2 :: s3 :: s4 :: s5 :: s6 :: s7 :: s8 :: s9 :: o :: r) a a' ∧ nx (s0 :: s1 :: s2 :: s3 :: s4 :: s5 :: s6 :: s7 :: s8 :: s9 :: some a' :: r)) : Sv K E X (tAsg te (gName 10)) (s0 :: s1 :: s2 :: s3 :: s4 :: s5 :: s6 :: s7 :: s8 :: s9 :: o :: r) ⟨nx, rt, bk, ct⟩ := sv_asg (n := 10) h (by simp only [List.length_cons]; omega)
theorem gv_10 {s0 s1 s2 s3 s4 s5 s6 s7 s8 s9 : Option AV} {o : Option AV} {P : Sl → Prop} (h : P (s0 :: s1 :: s2 :: s3 :: s4 :: s5 :: s6 :: s7 :: s8 :: s9 :: some (.d x) :: r)) : Gv K (gName 10) x (s0 :: s1 :: s2 :: s3 :: s4 :: s5 :: s6 :: s7 :: s8 :: s9 :: o :: r) P := gv_name (n := 10) h (by simp only [List.length_cons]; omega)
theorem sv_ap10 {s0 s1 s2 s3 s4 s5 s6 s7 s8 s9 : Option AV} {xs : List AV} (h : Ev K E X te (s0 :: s1 :: s2 :: s3 :: s4 :: s5 :: s6 :: s7 :: s8 :: s9 :: some (.own xs) :: r) fun a => ∃ a', a.sto = some a' ∧ xs.length ≤ 1000000 ∧ nx (s0 :: s1 :: s2 :: s3 :: s4 :: s5 :: s6 :: s7 :: s8 :: s9 :: some (.own (xs ++ [a'])) :: r)) : Sv K E X (tDrop (tBM K "list" rAppend (tVar 10) (tCons te tNil))) (s0 :: s1 :: s2 :: s3 :: s4 :: s5 :: s6 :: s7 :: s8 :: s9 :: some (.own xs) :: r) ⟨nx, rt, bk, ct⟩ := sv_append (n := 10) rfl h
theorem sv_f10 {s0 s1 s2 s3 s4 s5 s6 s7 s8 s9 : Option AV} {t : TS} (h : Sv K E X t (s0 :: s1 :: s2 :: s3 :: s4 :: s5 :: s6 :: s7 :: s8 :: s9 :: some (.d a.data) :: r) ⟨nx, rt, bk, ct⟩) : Sv K E X t (s0 :: s1 :: s2 :: s3 :: s4 :: s5 :: s6 :: s7 :: s8 :: s9 :: some a :: r) ⟨nx, rt, bk, ct⟩ := sv_frz 10 rfl h
theorem sv_ro10 {s0 s1 s2 s3 s4 s5 s6 s7 s8 s9 : Option AV} {xs : List AV} (q : rt (.av (.own xs))) : Sv K E X (tRet (tVar 10)) (s0 :: s1 :: s2 :: s3 :: s4 :: s5 :: s6 :: s7 :: s8 :: s9 :: some (.own xs) :: r) ⟨nx, rt, bk, ct⟩ := sv_retO rfl q
theorem sv_rv10 {s0 s1 s2 s3 s4 s5 s6 s7 s8 s9 : Option AV} {xs : List AV} (h : nx (s0 :: s1 :: s2 :: s3 :: s4 :: s5 :: s6 :: s7 :: s8 :: s9 :: some (.own xs.reverse) :: r)) : Sv K E X (tDrop (tBM0 K "list" rReverse (tVar 10))) (s0 :: s1 :: s2 :: s3 :: s4 :: s5 :: s6 :: s7 :: s8 :: s9 :: some (.own xs) :: r) ⟨nx, rt, bk, ct⟩ := sv_reverse (n := 10) rfl h
theorem wk_10 {s0 s1 s2 s3 s4 s5 s6 s7 s8 s9 : Option AV} {o : Option AV} : Wk (s0 :: s1 :: s2 :: s3 :: s4 :: s5 :: s6 :: s7 :: s8 :: s9 :: o :: r) (s0 :: s1 :: s2 :: s3 :: s4 :: s5 :: s6 :: s7 :: s8 :: s9 :: none :: r) := fun _ _ _ _ _ _ s => s.drop (i := 10)
theorem sv_st10 {s0 s1 s2 s3 s4 s5 s6 s7 s8 s9 : Option AV} {xs : List AV} {ti : TE} (h : Ev K E X te (s0 :: s1 :: s2 :: s3 :: s4 :: s5 :: s6 :: s7 :: s8 :: s9 :: some (.own xs) :: r) fun a => Ev K E X ti (s0 :: s1 :: s2 :: s3 :: s4 :: s5 :: s6 :: s7 :: s8 :: s9 :: some (.own xs) :: r) fun b => ∃ a' k j, a.sto = some a' ∧ b = .av (.d (.int k)) ∧ ixN xs.length k = some j ∧ nx (s0 :: s1 :: s2 :: s3 :: s4 :: s5 :: s6 :: s7 :: s8 :: s9 :: some (.own (xs.set j a')) :: r)) : Sv K E X (tAsg te (gSub (tVar 10) ti rSetL)) (s0 :: s1 :: s2 :: s3 :: s4 :: s5 :: s6 :: s7 :: s8 :: s9 :: some (.own xs) :: r) ⟨nx, rt, bk, ct⟩ := sv_setitem (n := 10) rfl h
theorem sv_d10 {s0 s1 s2 s3 s4 s5 s6 s7 s8 s9 : Option AV} {t : TS} {o : Option AV} (h : Sv K E X t (s0 :: s1 :: s2 :: s3 :: s4 :: s5 :: s6 :: s7 :: s8 :: s9 :: none :: r) ⟨nx, rt, bk, ct⟩) : Sv K E X t (s0 :: s1 :: s2 :: s3 :: s4 :: s5 :: s6 :: s7 :: s8 :: s9 :: o :: r) ⟨nx, rt, bk, ct⟩ := sv_wk (fun _ _ _ _ _ _ s => s.drop (i := 10)) h
theorem ev_v11 {s0 s1 s2 s3 s4 s5 s6 s7 s8 s9 s10 : Option AV} (q : Q (.av (.d x))) : Ev K E X (tVar 11) (s0 :: s1 :: s2 :: s3 :: s4 :: s5 :: s6 :: s7 :: s8 :: s9 :: s10 :: some (.d x) :: r) Q := ev_var rfl q
theorem ev_o11 {s0 s1 s2 s3 s4 s5 s6 s7 s8 s9 s10 : Option AV} {xs : List AV} (q : Q (.bor (.list (AV.datas xs)))) : Ev K E X (tVar 11) (s0 :: s1 :: s2 :: s3 :: s4 :: s5 :: s6 :: s7 :: s8 :: s9 :: s10 :: some (.own xs) :: r) Q := ev_varB rfl q
theorem sv_a11 {s0 s1 s2 s3 s4 s5 s6 s7 s8 s9 s10 : Option AV} {o : Option AV} (h : Ev K E X te (s0 :: s1 :: s2 :: s3 :: s4 :: s5 :: s6 :: s7 :: s8 :: s9 :: s10 :: o :: r) fun a => ∃ a', Sto (s0 :: s1 :: s2 :: s3 :: s4 :: s5 :: s6 :: s7 :: s8 :: s9 :: s10 :: o :: r) a a' ∧ nx (s0 :: s1 :: s2 :: s3 :: s4 :: s5 :: s6 :: s7 :: s8 :: s9 :: s10 :: some a' :: r)) : Sv K E X (tAsg te (gName 11)) (s0 :: s1 :: s2 :: s3 :: s4 :: s5 :: s6 :: s7 :: s8 :: s9 :: s10 :: o :: r) ⟨nx, rt, bk, ct⟩ := sv_asg (n := 11) h (by simp only [List.length_cons]; omega)
theorem gv_11 {s0 s1 s2 s3 s4 s5 s6 s7 s8 s9 s10 : Option AV} {o : Option AV} {P : Sl → Prop} (h : P (s0 :: s1 :: s2 :: s3 :: s4 :: s5 :: s6 :: s7 :: s8 :: s9 :: s10 :: some (.d x) :: r)) : Gv K (gName 11) x (s0 :: s1 :: s2 :: s3 :: s4 :: s5 :: s6 :: s7 :: s8 :: s9 :: s10 :: o :: r) P := gv_name (n := 11) h (by simp only [List.length_cons]; omega)
theorem sv_ap11 {s0 s1 s2 s3 s4 s5 s6 s7 s8 s9 s10 : Option AV} {xs : List AV} (h : Ev K E X te (s0 :: s1 :: s2 :: s3 :: s4 :: s5 :: s6 :: s7 :: s8 :: s9 :: s10 :: some (.own xs) :: r) fun a => ∃ a', a.sto = some a' ∧ xs.length ≤ 1000000 ∧ nx (s0 :: s1 :: s2 :: s3 :: s4 :: s5 :: s6 :: s7 :: s8 :: s9 :: s10 :: some (.own (xs ++ [a'])) :: r)) : Sv K E X (tDrop (tBM K "list" rAppend (tVar 11) (tCons te tNil))) (s0 :: s1 :: s2 :: s3 :: s4 :: s5 :: s6 :: s7 :: s8 :: s9 :: s10 :: some (.own xs) :: r) ⟨nx, rt, bk, ct⟩ := sv_append (n := 11) rfl h
theorem sv_f11 {s0 s1 s2 s3 s4 s5 s6 s7 s8 s9 s10 : Option AV} {t : TS} (h : Sv K E X t (s0 :: s1 :: s2 :: s3 :: s4 :: s5 :: s6 :: s7 :: s8 :: s9 :: s10 :: some (.d a.data) :: r) ⟨nx, rt, bk, ct⟩) : Sv K E X t (s0 :: s1 :: s2 :: s3 :: s4 :: s5 :: s6 :: s7 :: s8 :: s9 :: s10 :: some a :: r) ⟨nx, rt, bk, ct⟩ := sv_frz 11 rfl h
theorem sv_ro11 {s0 s1 s2 s3 s4 s5 s6 s7 s8 s9 s10 : Option AV} {xs : List AV} (q : rt (.av (.own xs))) : Sv K E X (tRet (tVar 11)) (s0 :: s1 :: s2 :: s3 :: s4 :: s5 :: s6 :: s7 :: s8 :: s9 :: s10 :: some (.own xs) :: r) ⟨nx, rt, bk, ct⟩ := sv_retO rfl q
theorem sv_rv11 {s0 s1 s2 s3 s4 s5 s6 s7 s8 s9 s10 : Option AV} {xs : List AV} (h : nx (s0 :: s1 :: s2 :: s3 :: s4 :: s5 :: s6 :: s7 :: s8 :: s9 :: s10 :: some (.own xs.reverse) :: r)) : Sv K E X (tDrop (tBM0 K "list" rReverse (tVar 11))) (s0 :: s1 :: s2 :: s3 :: s4 :: s5 :: s6 :: s7 :: s8 :: s9 :: s10 :: some (.own xs) :: r) ⟨nx, rt, bk, ct⟩ := sv_reverse (n := 11) rfl h
theorem wk_11 {s0 s1 s2 s3 s4 s5 s6 s7 s8 s9 s10 : Option AV} {o : Option AV} : Wk (s0 :: s1 :: s2 :: s3 :: s4 :: s5 :: s6 :: s7 :: s8 :: s9 :: s10 :: o :: r) (s0 :: s1 :: s2 :: s3 :: s4 :: s5 :: s6 :: s7 :: s8 :: s9 :: s10 :: none :: r) := fun _ _ _ _ _ _ s => s.drop (i := 11)
theorem sv_st11 {s0 s1 s2 s3 s4 s5 s6 s7 s8 s9 s10 : Option AV} {xs : List AV} {ti : TE} (h : Ev K E X te (s0 :: s1 :: s2 :: s3 :: s4 :: s5 :: s6 :: s7 :: s8 :: s9 :: s10 :: some (.own xs) :: r) fun a => Ev K E X ti (s0 :: s1 :: s2 :: s3 :: s4 :: s5 :: s6 :: s7 :: s8 :: s9 :: s10 :: some (.own xs) :: r) fun b => ∃ a' k j, a.sto = some a' ∧ b = .av (.d (.int k)) ∧ ixN xs.length k = some j ∧ nx (s0 :: s1 :: s2 :: s3 :: s4 :: s5 :: s6 :: s7 :: s8 :: s9 :: s10 :: some (.own (xs.set j a')) :: r)) : Sv K E X (tAsg te (gSub (tVar 11) ti rSetL)) (s0 :: s1 :: s2 :: s3 :: s4 :: s5 :: s6 :: s7 :: s8 :: s9 :: s10 :: some (.own xs) :: r) ⟨nx, rt, bk, ct⟩ := sv_setitem (n := 11) rfl h
theorem sv_d11 {s0 s1 s2 s3 s4 s5 s6 s7 s8 s9 s10 : Option AV} {t : TS} {o : Option AV} (h : Sv K E X t (s0 :: s1 :: s2 :: s3 :: s4 :: s5 :: s6 :: s7 :: s8 :: s9 :: s10 :: none :: r) ⟨nx, rt, bk, ct⟩) : Sv K E X t (s0 :: s1 :: s2 :: s3 :: s4 :: s5 :: s6 :: s7 :: s8 :: s9 :: s10 :: o :: r) ⟨nx, rt, bk, ct⟩ := sv_wk (fun _ _ _ _ _ _ s => s.drop (i := 11)) h
theorem ev_v12 {s0 s1 s2 s3 s4 s5 s6 s7 s8 s9 s10 s11 : Option AV} (q : Q (.av (.d x))) : Ev K E X (tVar 12) (s0 :: s1 :: s2 :: s3 :: s4 :: s5 :: s6 :: s7 :: s8 :: s9 :: s10 :: s11 :: some (.d x) :: r) Q := ev_var rfl q
theorem ev_o12 {s0 s1 s2 s3 s4 s5 s6 s7 s8 s9 s10 s11 : Option AV} {xs : List AV} (q : Q (.bor (.list (AV.datas xs)))) : Ev K E X (tVar 12) (s0 :: s1 :: s2 :: s3 :: s4 :: s5 :: s6 :: s7 :: s8 :: s9 :: s10 :: s11 :: some (.own xs) :: r) Q := ev_varB rfl q
theorem sv_a12 {s0 s1 s2 s3 s4 s5 s6 s7 s8 s9 s10 s11 : Option AV} {o : Option AV} (h : Ev K E X te (s0 :: s1 :: s2 :: s3 :: s4 :: s5 :: s6 :: s7 :: s8 :: s9 :: s10 :: s11 :: o :: r) fun a => ∃ a', Sto (s0 :: s1 :: s2 :: s3 :: s4 :: s5 :: s6 :: s7 :: s8 :: s9 :: s10 :: s11 :: o :: r) a a' ∧ nx (s0 :: s1 :: s2 :: s3 :: s4 :: s5 :: s6 :: s7 :: s8 :: s9 :: s10 :: s11 :: some a' :: r)) : Sv K E X (tAsg te (gName 12)) (s0 :: s1 :: s2 :: s3 :: s4 :: s5 :: s6 :: s7 :: s8 :: s9 :: s10 :: s11 :: o :: r) ⟨nx, rt, bk, ct⟩ := sv_asg (n := 12) h (by simp only [List.length_cons]; omega)
theorem gv_12 {s0 s1 s2 s3 s4 s5 s6 s7 s8 s9 s10 s11 : Option AV} {o : Option AV} {P : Sl → Prop} (h : P (s0 :: s1 :: s2 :: s3 :: s4 :: s5 :: s6 :: s7 :: s8 :: s9 :: s10 :: s11 :: some (.d x) :: r)) : Gv K (gName 12) x (s0 :: s1 :: s2 :: s3 :: s4 :: s5 :: s6 :: s7 :: s8 :: s9 :: s10 :: s11 :: o :: r) P := gv_name (n := 12) h (by simp only [List.length_cons]; omega)
theorem sv_ap12 {s0 s1 s2 s3 s4 s5 s6 s7 s8 s9 s10 s11 : Option AV} {xs : List AV} (h : Ev K E X te (s0 :: s1 :: s2 :: s3 :: s4 :: s5 :: s6 :: s7 :: s8 :: s9 :: s10 :: s11 :: some (.own xs) :: r) fun a => ∃ a', a.sto = some a' ∧ xs.length ≤ 1000000 ∧ nx (s0 :: s1 :: s2 :: s3 :: s4 :: s5 :: s6 :: s7 :: s8 :: s9 :: s10 :: s11 :: some (.own (xs ++ [a'])) :: r)) : Sv K E X (tDrop (tBM K "list" rAppend (tVar 12) (tCons te tNil))) (s0 :: s1 :: s2 :: s3 :: s4 :: s5 :: s6 :: s7 :: s8 :: s9 :: s10 :: s11 :: some (.own xs) :: r) ⟨nx, rt, bk, ct⟩ := sv_append (n := 12) rfl h
theorem sv_f12 {s0 s1 s2 s3 s4 s5 s6 s7 s8 s9 s10 s11 : Option AV} {t : TS} (h : Sv K E X t (s0 :: s1 :: s2 :: s3 :: s4 :: s5 :: s6 :: s7 :: s8 :: s9 :: s10 :: s11 :: some (.d a.data) :: r) ⟨nx, rt, bk, ct⟩) : Sv K E X t (s0 :: s1 :: s2 :: s3 :: s4 :: s5 :: s6 :: s7 :: s8 :: s9 :: s10 :: s11 :: some a :: r) ⟨nx, rt, bk, ct⟩ := sv_frz 12 rfl h
theorem sv_ro12 {s0 s1 s2 s3 s4 s5 s6 s7 s8 s9 s10 s11 : Option AV} {xs : List AV} (q : rt (.av (.own xs))) : Sv K E X (tRet (tVar 12)) (s0 :: s1 :: s2 :: s3 :: s4 :: s5 :: s6 :: s7 :: s8 :: s9 :: s10 :: s11 :: some (.own xs) :: r) ⟨nx, rt, bk, ct⟩ := sv_retO rfl q
theorem sv_rv12 {s0 s1 s2 s3 s4 s5 s6 s7 s8 s9 s10 s11 : Option AV} {xs : List AV} (h : nx (s0 :: s1 :: s2 :: s3 :: s4 :: s5 :: s6 :: s7 :: s8 :: s9 :: s10 :: s11 :: some (.own xs.reverse) :: r)) : Sv K E X (tDrop (tBM0 K "list" rReverse (tVar 12))) (s0 :: s1 :: s2 :: s3 :: s4 :: s5 :: s6 :: s7 :: s8 :: s9 :: s10 :: s11 :: some (.own xs) :: r) ⟨nx, rt, bk, ct⟩ := sv_reverse (n := 12) rfl h
theorem wk_12 {s0 s1 s2 s3 s4 s5 s6 s7 s8 s9 s10 s11 : Option AV} {o : Option AV} : Wk (s0 :: s1 :: s2 :: s3 :: s4 :: s5 :: s6 :: s7 :: s8 :: s9 :: s10 :: s11 :: o :: r) (s0 :: s1 :: s2 :: s3 :: s4 :: s5 :: s6 :: s7 :: s8 :: s9 :: s10 :: s11 :: none :: r) := fun _ _ _ _ _ _ s => s.drop (i := 12)
theorem sv_st12 {s0 s1 s2 s3 s4 s5 s6 s7 s8 s9 s10 s11 : Option AV} {xs : List AV} {ti : TE} (h : Ev K E X te (s0 :: s1 :: s2 :: s3 :: s4 :: s5 :: s6 :: s7 :: s8 :: s9 :: s10 :: s11 :: some (.own xs) :: r) fun a => Ev K E X ti (s0 :: s1 :: s2 :: s3 :: s4 :: s5 :: s6 :: s7 :: s8 :: s9 :: s10 :: s11 :: some (.own xs) :: r) fun b => ∃ a' k j, a.sto = some a' ∧ b = .av (.d (.int k)) ∧ ixN xs.length k = some j ∧ nx (s0 :: s1 :: s2 :: s3 :: s4 :: s5 :: s6 :: s7 :: s8 :: s9 :: s10 :: s11 :: some (.own (xs.set j a')) :: r)) : Sv K E X (tAsg te (gSub (tVar 12) ti rSetL)) (s0 :: s1 :: s2 :: s3 :: s4 :: s5 :: s6 :: s7 :: s8 :: s9 :: s10 :: s11 :: some (.own xs) :: r) ⟨nx, rt, bk, ct⟩ := sv_setitem (n := 12) rfl h
theorem sv_d12 {s0 s1 s2 s3 s4 s5 s6 s7 s8 s9 s10 s11 : Option AV} {t : TS} {o : Option AV} (h : Sv K E X t (s0 :: s1 :: s2 :: s3 :: s4 :: s5 :: s6 :: s7 :: s8 :: s9 :: s10 :: s11 :: none :: r) ⟨nx, rt, bk, ct⟩) : Sv K E X t (s0 :: s1 :: s2 :: s3 :: s4 :: s5 :: s6 :: s7 :: s8 :: s9 :: s10 :: s11 :: o :: r) ⟨nx, rt, bk, ct⟩ := sv_wk (fun _ _ _ _ _ _ s => s.drop (i := 12)) h
theorem ev_v13 {s0 s1 s2 s3 s4 s5 s6 s7 s8 s9 s10 s11 s12 : Option AV} (q : Q (.av (.d x))) : Ev K E X (tVar 13) (s0 :: s1 :: s2 :: s3 :: s4 :: s5 :: s6 :: s7 :: s8 :: s9 :: s10 :: s11 :: s12 :: some (.d x) :: r) Q := ev_var rfl q
theorem ev_o13 {s0 s1 s2 s3 s4 s5 s6 s7 s8 s9 s10 s11 s12 : Option AV} {xs : List AV} (q : Q (.bor (.list (AV.datas xs)))) : Ev K E X (tVar 13) (s0 :: s1 :: s2 :: s3 :: s4 :: s5 :: s6 :: s7 :: s8 :: s9 :: s10 :: s11 :: s12 :: some (.own xs) :: r) Q := ev_varB rfl q
theorem sv_a13 {s0 s1 s2 s3 s4 s5 s6 s7 s8 s9 s10 s11 s12 : Option AV} {o : Option AV} (h : Ev K E X te (s0 :: s1 :: s2 :: s3 :: s4 :: s5 :: s6 :: s7 :: s8 :: s9 :: s10 :: s11 :: s12 :: o :: r) fun a => ∃ a', Sto (s0 :: s1 :: s2 :: s3 :: s4 :: s5 :: s6 :: s7 :: s8 :: s9 :: s10 :: s11 :: s12 :: o :: r) a a' ∧ nx (s0 :: s1 :: s2 :: s3 :: s4 :: s5 :: s6 :: s7 :: s8 :: s9 :: s10 :: s11 :: s12 :: some a' :: r)) : Sv K E X (tAsg te (gName 13)) (s0 :: s1 :: s2 :: s3 :: s4 :: s5 :: s6 :: s7 :: s8 :: s9 :: s10 :: s11 :: s12 :: o :: r) ⟨nx, rt, bk, ct⟩ := sv_asg (n := 13) h (by simp only [List.length_cons]; omega)
theorem gv_13 {s0 s1 s2 s3 s4 s5 s6 s7 s8 s9 s10 s11 s12 : Option AV} {o : Option AV} {P : Sl → Prop} (h : P (s0 :: s1 :: s2 :: s3 :: s4 :: s5 :: s6 :: s7 :: s8 :: s9 :: s10 :: s11 :: s12 :: some (.d x) :: r)) : Gv K (gName 13) x (s0 :: s1 :: s2 :: s3 :: s4 :: s5 :: s6 :: s7 :: s8 :: s9 :: s10 :: s11 :: s12 :: o :: r) P := gv_name (n := 13) h (by simp only [List.length_cons]; omega)
theorem sv_ap13 {s0 s1 s2 s3 s4 s5 s6 s7 s8 s9 s10 s11 s12 : Option AV} {xs : List AV} (h : Ev K E X te (s0 :: s1 :: s2 :: s3 :: s4 :: s5 :: s6 :: s7 :: s8 :: s9 :: s10 :: s11 :: s12 :: some (.own xs) :: r) fun a => ∃ a', a.sto = some a' ∧ xs.length ≤ 1000000 ∧ nx (s0 :: s1 :: s2 :: s3 :: s4 :: s5 :: s6 :: s7 :: s8 :: s9 :: s10 :: s11 :: s12 :: some (.own (xs ++ [a'])) :: r)) : Sv K E X (tDrop (tBM K "list" rAppend (tVar 13) (tCons te tNil))) (s0 :: s1 :: s2 :: s3 :: s4 :: s5 :: s6 :: s7 :: s8 :: s9 :: s10 :: s11 :: s12 :: some (.own xs) :: r) ⟨nx, rt, bk, ct⟩ := sv_append (n := 13) rfl h
theorem sv_f13 {s0 s1 s2 s3 s4 s5 s6 s7 s8 s9 s10 s11 s12 : Option AV} {t : TS} (h : Sv K E X t (s0 :: s1 :: s2 :: s3 :: s4 :: s5 :: s6 :: s7 :: s8 :: s9 :: s10 :: s11 :: s12 :: some (.d a.data) :: r) ⟨nx, rt, bk, ct⟩) : Sv K E X t (s0 :: s1 :: s2 :: s3 :: s4 :: s5 :: s6 :: s7 :: s8 :: s9 :: s10 :: s11 :: s12 :: some a :: r) ⟨nx, rt, bk, ct⟩ := sv_frz 13 rfl h
theorem sv_ro13 {s0 s1 s2 s3 s4 s5 s6 s7 s8 s9 s10 s11 s12 : Option AV} {xs : List AV} (q : rt (.av (.own xs))) : Sv K E X (tRet (tVar 13)) (s0 :: s1 :: s2 :: s3 :: s4 :: s5 :: s6 :: s7 :: s8 :: s9 :: s10 :: s11 :: s12 :: some (.own xs) :: r) ⟨nx, rt, bk, ct⟩ := sv_retO rfl q
theorem sv_rv13 {s0 s1 s2 s3 s4 s5 s6 s7 s8 s9 s10 s11 s12 : Option AV} {xs : List AV} (h : nx (s0 :: s1 :: s2 :: s3 :: s4 :: s5 :: s6 :: s7 :: s8 :: s9 :: s10 :: s11 :: s12 :: some (.own xs.reverse) :: r)) : Sv K E X (tDrop (tBM0 K "list" rReverse (tVar 13))) (s0 :: s1 :: s2 :: s3 :: s4 :: s5 :: s6 :: s7 :: s8 :: s9 :: s10 :: s11 :: s12 :: some (.own xs) :: r) ⟨nx, rt, bk, ct⟩ := sv_reverse (n := 13) rfl h
theorem wk_13 {s0 s1 s2 s3 s4 s5 s6 s7 s8 s9 s10 s11 s12 : Option AV} {o : Option AV} : Wk (s0 :: s1 :: s2 :: s3 :: s4 :: s5 :: s6 :: s7 :: s8 :: s9 :: s10 :: s11 :: s12 :: o :: r) (s0 :: s1 :: s2 :: s3 :: s4 :: s5 :: s6 :: s7 :: s8 :: s9 :: s10 :: s11 :: s12 :: none :: r) := fun _ _ _ _ _ _ s => s.drop (i := 13)
theorem sv_st13 {s0 s1 s2 s3 s4 s5 s6 s7 s8 s9 s10 s11 s12 : Option AV} {xs : List AV} {ti : TE} (h : Ev K E X te (s0 :: s1 :: s2 :: s3 :: s4 :: s5 :: s6 :: s7 :: s8 :: s9 :: s10 :: s11 :: s12 :: some (.own xs) :: r) fun a => Ev K E X ti (s0 :: s1 :: s2 :: s3 :: s4 :: s5 :: s6 :: s7 :: s8 :: s9 :: s10 :: s11 :: s12 :: some (.own xs) :: r) fun b => ∃ a' k j, a.sto = some a' ∧ b = .av (.d (.int k)) ∧ ixN xs.length k = some j ∧ nx (s0 :: s1 :: s2 :: s3 :: s4 :: s5 :: s6 :: s7 :: s8 :: s9 :: s10 :: s11 :: s12 :: some (.own (xs.set j a')) :: r)) : Sv K E X (tAsg te (gSub (tVar 13) ti rSetL)) (s0 :: s1 :: s2 :: s3 :: s4 :: s5 :: s6 :: s7 :: s8 :: s9 :: s10 :: s11 :: s12 :: some (.own xs) :: r) ⟨nx, rt, bk, ct⟩ := sv_setitem (n := 13) rfl h
theorem sv_d13 {s0 s1 s2 s3 s4 s5 s6 s7 s8 s9 s10 s11 s12 : Option AV} {t : TS} {o : Option AV} (h : Sv K E X t (s0 :: s1 :: s2 :: s3 :: s4 :: s5 :: s6 :: s7 :: s8 :: s9 :: s10 :: s11 :: s12 :: none :: r) ⟨nx, rt, bk, ct⟩) : Sv K E X t (s0 :: s1 :: s2 :: s3 :: s4 :: s5 :: s6 :: s7 :: s8 :: s9 :: s10 :: s11 :: s12 :: o :: r) ⟨nx, rt, bk, ct⟩ := sv_wk (fun _ _ _ _ _ _ s => s.drop (i := 13)) h
theorem ev_v14 {s0 s1 s2 s3 s4 s5 s6 s7 s8 s9 s10 s11 s12 s13 : Option AV} (q : Q (.av (.d x))) : Ev K E X (tVar 14) (s0 :: s1 :: s2 :: s3 :: s4 :: s5 :: s6 :: s7 :: s8 :: s9 :: s10 :: s11 :: s12 :: s13 :: some (.d x) :: r) Q := ev_var rfl q
theorem ev_o14 {s0 s1 s2 s3 s4 s5 s6 s7 s8 s9 s10 s11 s12 s13 : Option AV} {xs : List AV} (q : Q (.bor (.list (AV.datas xs)))) : Ev K E X (tVar 14) (s0 :: s1 :: s2 :: s3 :: s4 :: s5 :: s6 :: s7 :: s8 :: s9 :: s10 :: s11 :: s12 :: s13 :: some (.own xs) :: r) Q := ev_varB rfl q
theorem sv_a14 {s0 s1 s2 s3 s4 s5 s6 s7 s8 s9 s10 s11 s12 s13 : Option AV} {o : Option AV} (h : Ev K E X te (s0 :: s1 :: s2 :: s3 :: s4 :: s5 :: s6 :: s7 :: s8 :: s9 :: s10 :: s11 :: s12 :: s13 :: o :: r) fun a => ∃ a', Sto (s0 :: s1 :: s2 :: s3 :: s4 :: s5 :: s6 :: s7 :: s8 :: s9 :: s10 :: s11 :: s12 :: s13 :: o :: r) a a' ∧ nx (s0 :: s1 :: s2 :: s3 :: s4 :: s5 :: s6 :: s7 :: s8 :: s9 :: s10 :: s11 :: s12 :: s13 :: some a' :: r)) : Sv K E X (tAsg te (gName 14)) (s0 :: s1 :: s2 :: s3 :: s4 :: s5 :: s6 :: s7 :: s8 :: s9 :: s10 :: s11 :: s12 :: s13 :: o :: r) ⟨nx, rt, bk, ct⟩ := sv_asg (n := 14) h (by simp only [List.length_cons]; omega)
theorem gv_14 {s0 s1 s2 s3 s4 s5 s6 s7 s8 s9 s10 s11 s12 s13 : Option AV} {o : Option AV} {P : Sl → Prop} (h : P (s0 :: s1 :: s2 :: s3 :: s4 :: s5 :: s6 :: s7 :: s8 :: s9 :: s10 :: s11 :: s12 :: s13 :: some (.d x) :: r)) : Gv K (gName 14) x (s0 :: s1 :: s2 :: s3 :: s4 :: s5 :: s6 :: s7 :: s8 :: s9 :: s10 :: s11 :: s12 :: s13 :: o :: r) P := gv_name (n := 14) h (by simp only [List.length_cons]; omega)
theorem sv_ap14 {s0 s1 s2 s3 s4 s5 s6 s7 s8 s9 s10 s11 s12 s13 : Option AV} {xs : List AV} (h : Ev K E X te (s0 :: s1 :: s2 :: s3 :: s4 :: s5 :: s6 :: s7 :: s8 :: s9 :: s10 :: s11 :: s12 :: s13 :: some (.own xs) :: r) fun a => ∃ a', a.sto = some a' ∧ xs.length ≤ 1000000 ∧ nx (s0 :: s1 :: s2 :: s3 :: s4 :: s5 :: s6 :: s7 :: s8 :: s9 :: s10 :: s11 :: s12 :: s13 :: some (.own (xs ++ [a'])) :: r)) : Sv K E X (tDrop (tBM K "list" rAppend (tVar 14) (tCons te tNil))) (s0 :: s1 :: s2 :: s3 :: s4 :: s5 :: s6 :: s7 :: s8 :: s9 :: s10 :: s11 :: s12 :: s13 :: some (.own xs) :: r) ⟨nx, rt, bk, ct⟩ := sv_append (n := 14) rfl h
theorem sv_f14 {s0 s1 s2 s3 s4 s5 s6 s7 s8 s9 s10 s11 s12 s13 : Option AV} {t : TS} (h : Sv K E X t (s0 :: s1 :: s2 :: s3 :: s4 :: s5 :: s6 :: s7 :: s8 :: s9 :: s10 :: s11 :: s12 :: s13 :: some (.d a.data) :: r) ⟨nx, rt, bk, ct⟩) : Sv K E X t (s0 :: s1 :: s2 :: s3 :: s4 :: s5 :: s6 :: s7 :: s8 :: s9 :: s10 :: s11 :: s12 :: s13 :: some a :: r) ⟨nx, rt, bk, ct⟩ := sv_frz 14 rfl h
theorem sv_ro14 {s0 s1 s2 s3 s4 s5 s6 s7 s8 s9 s10 s11 s12 s13 : Option AV} {xs : List AV} (q : rt (.av (.own xs))) : Sv K E X (tRet (tVar 14)) (s0 :: s1 :: s2 :: s3 :: s4 :: s5 :: s6 :: s7 :: s8 :: s9 :: s10 :: s11 :: s12 :: s13 :: some (.own xs) :: r) ⟨nx, rt, bk, ct⟩ := sv_retO rfl q
theorem sv_rv14 {s0 s1 s2 s3 s4 s5 s6 s7 s8 s9 s10 s11 s12 s13 : Option AV} {xs : List AV} (h : nx (s0 :: s1 :: s2 :: s3 :: s4 :: s5 :: s6 :: s7 :: s8 :: s9 :: s10 :: s11 :: s12 :: s13 :: some (.own xs.reverse) :: r)) : Sv K E X (tDrop (tBM0 K "list" rReverse (tVar 14))) (s0 :: s1 :: s2 :: s3 :: s4 :: s5 :: s6 :: s7 :: s8 :: s9 :: s10 :: s11 :: s12 :: s13 :: some (.own xs) :: r) ⟨nx, rt, bk, ct⟩ := sv_reverse (n := 14) rfl h
theorem wk_14 {s0 s1 s2 s3 s4 s5 s6 s7 s8 s9 s10 s11 s12 s13 : Option AV} {o : Option AV} : Wk (s0 :: s1 :: s2 :: s3 :: s4 :: s5 :: s6 :: s7 :: s8 :: s9 :: s10 :: s11 :: s12 :: s13 :: o :: r) (s0 :: s1 :: s2 :: s3 :: s4 :: s5 :: s6 :: s7 :: s8 :: s9 :: s10 :: s11 :: s12 :: s13 :: none :: r) := fun _ _ _ _ _ _ s => s.drop (i := 14)
theorem sv_st14 {s0 s1 s2 s3 s4 s5 s6 s7 s8 s9 s10 s11 s12 s13 : Option AV} {xs : List AV} {ti : TE} (h : Ev K E X te (s0 :: s1 :: s2 :: s3 :: s4 :: s5 :: s6 :: s7 :: s8 :: s9 :: s10 :: s11 :: s12 :: s13 :: some (.own xs) :: r) fun a => Ev K E X ti (s0 :: s1 :: s2 :: s3 :: s4 :: s5 :: s6 :: s7 :: s8 :: s9 :: s10 :: s11 :: s12 :: s13 :: some (.own xs) :: r) fun b => ∃ a' k j, a.sto = some a' ∧ b = .av (.d (.int k)) ∧ ixN xs.length k = some j ∧ nx (s0 :: s1 :: s2 :: s3 :: s4 :: s5 :: s6 :: s7 :: s8 :: s9 :: s10 :: s11 :: s12 :: s13 :: some (.own (xs.set j a')) :: r)) : Sv K E X (tAsg te (gSub (tVar 14) ti rSetL)) (s0 :: s1 :: s2 :: s3 :: s4 :: s5 :: s6 :: s7 :: s8 :: s9 :: s10 :: s11 :: s12 :: s13 :: some (.own xs) :: r) ⟨nx, rt, bk, ct⟩ := sv_setitem (n := 14) rfl h
theorem sv_d14 {s0 s1 s2 s3 s4 s5 s6 s7 s8 s9 s10 s11 s12 s13 : Option AV} {t : TS} {o : Option AV} (h : Sv K E X t (s0 :: s1 :: s2 :: s3 :: s4 :: s5 :: s6 :: s7 :: s8 :: s9 :: s10 :: s11 :: s12 :: s13 :: none :: r) ⟨nx, rt, bk, ct⟩) : Sv K E X t (s0 :: s1 :: s2 :: s3 :: s4 :: s5 :: s6 :: s7 :: s8 :: s9 :: s10 :: s11 :: s12 :: s13 :: o :: r) ⟨nx, rt, bk, ct⟩ := sv_wk (fun _ _ _ _ _ _ s => s.drop (i := 14)) h
theorem ev_v15 {s0 s1 s2 s3 s4 s5 s6 s7 s8 s9 s10 s11 s12 s13 s14 : Option AV} (q : Q (.av (.d x))) : Ev K E X (tVar 15) (s0 :: s1 :: s2 :: s3 :: s4 :: s5 :: s6 :: s7 :: s8 :: s9 :: s10 :: s11 :: s12 :: s13 :: s14 :: some (.d x) :: r) Q := ev_var rfl q
theorem ev_o15 {s0 s1 s2 s3 s4 s5 s6 s7 s8 s9 s10 s11 s12 s13 s14 : Option AV} {xs : List AV} (q : Q (.bor (.list (AV.datas xs)))) : Ev K E X (tVar 15) (s0 :: s1 :: s2 :: s3 :: s4 :: s5 :: s6 :: s7 :: s8 :: s9 :: s10 :: s11 :: s12 :: s13 :: s14 :: some (.own xs) :: r) Q := ev_varB rfl q
theorem sv_a15 {s0 s1 s2 s3 s4 s5 s6 s7 s8 s9 s10 s11 s12 s13 s14 : Option AV} {o : Option AV} (h : Ev K E X te (s0 :: s1 :: s2 :: s3 :: s4 :: s5 :: s6 :: s7 :: s8 :: s9 :: s10 :: s11 :: s12 :: s13 :: s14 :: o :: r) fun a => ∃ a', Sto (s0 :: s1 :: s2 :: s3 :: s4 :: s5 :: s6 :: s7 :: s8 :: s9 :: s10 :: s11 :: s12 :: s13 :: s14 :: o :: r) a a' ∧ nx (s0 :: s1 :: s2 :: s3 :: s4 :: s5 :: s6 :: s7 :: s8 :: s9 :: s10 :: s11 :: s12 :: s13 :: s14 :: some a' :: r)) : Sv K E X (tAsg te (gName 15)) (s0 :: s1 :: s2 :: s3 :: s4 :: s5 :: s6 :: s7 :: s8 :: s9 :: s10 :: s11 :: s12 :: s13 :: s14 :: o :: r) ⟨nx, rt, bk, ct⟩ := sv_asg (n := 15) h (by simp only [List.length_cons]; omega)
theorem gv_15 {s0 s1 s2 s3 s4 s5 s6 s7 s8 s9 s10 s11 s12 s13 s14 : Option AV} {o : Option AV} {P : Sl → Prop} (h : P (s0 :: s1 :: s2 :: s3 :: s4 :: s5 :: s6 :: s7 :: s8 :: s9 :: s10 :: s11 :: s12 :: s13 :: s14 :: some (.d x) :: r)) : Gv K (gName 15) x (s0 :: s1 :: s2 :: s3 :: s4 :: s5 :: s6 :: s7 :: s8 :: s9 :: s10 :: s11 :: s12 :: s13 :: s14 :: o :: r) P := gv_name (n := 15) h (by simp only [List.length_cons]; omega)
theorem sv_ap15 {s0 s1 s2 s3 s4 s5 s6 s7 s8 s9 s10 s11 s12 s13 s14 : Option AV} {xs : List AV} (h : Ev K E X te (s0 :: s1 :: s2 :: s3 :: s4 :: s5 :: s6 :: s7 :: s8 :: s9 :: s10 :: s11 :: s12 :: s13 :: s14 :: some (.own xs) :: r) fun a => ∃ a', a.sto = some a' ∧ xs.length ≤ 1000000 ∧ nx (s0 :: s1 :: s2 :: s3 :: s4 :: s5 :: s6 :: s7 :: s8 :: s9 :: s10 :: s11 :: s12 :: s13 :: s14 :: some (.own (xs ++ [a'])) :: r)) : Sv K E X (tDrop (tBM K "list" rAppend (tVar 15) (tCons te tNil))) (s0 :: s1 :: s2 :: s3 :: s4 :: s5 :: s6 :: s7 :: s8 :: s9 :: s10 :: s11 :: s12 :: s13 :: s14 :: some (.own xs) :: r) ⟨nx, rt, bk, ct⟩ := sv_append (n := 15) rfl h
theorem sv_f15 {s0 s1 s2 s3 s4 s5 s6 s7 s8 s9 s10 s11 s12 s13 s14 : Option AV} {t : TS} (h : Sv K E X t (s0 :: s1 :: s2 :: s3 :: s4 :: s5 :: s6 :: s7 :: s8 :: s9 :: s10 :: s11 :: s12 :: s13 :: s14 :: some (.d a.data) :: r) ⟨nx, rt, bk, ct⟩) : Sv K E X t (s0 :: s1 :: s2 :: s3 :: s4 :: s5 :: s6 :: s7 :: s8 :: s9 :: s10 :: s11 :: s12 :: s13 :: s14 :: some a :: r) ⟨nx, rt, bk, ct⟩ := sv_frz 15 rfl h
theorem sv_ro15 {s0 s1 s2 s3 s4 s5 s6 s7 s8 s9 s10 s11 s12 s13 s14 : Option AV} {xs : List AV} (q : rt (.av (.own xs))) : Sv K E X (tRet (tVar 15)) (s0 :: s1 :: s2 :: s3 :: s4 :: s5 :: s6 :: s7 :: s8 :: s9 :: s10 :: s11 :: s12 :: s13 :: s14 :: some (.own xs) :: r) ⟨nx, rt, bk, ct⟩ := sv_retO rfl q
theorem sv_rv15 {s0 s1 s2 s3 s4 s5 s6 s7 s8 s9 s10 s11 s12 s13 s14 : Option AV} {xs : List AV} (h : nx (s0 :: s1 :: s2 :: s3 :: s4 :: s5 :: s6 :: s7 :: s8 :: s9 :: s10 :: s11 :: s12 :: s13 :: s14 :: some (.own xs.reverse) :: r)) : Sv K E X (tDrop (tBM0 K "list" rReverse (tVar 15))) (s0 :: s1 :: s2 :: s3 :: s4 :: s5 :: s6 :: s7 :: s8 :: s9 :: s10 :: s11 :: s12 :: s13 :: s14 :: some (.own xs) :: r) ⟨nx, rt, bk, ct⟩ := sv_reverse (n := 15) rfl h
theorem wk_15 {s0 s1 s2 s3 s4 s5 s6 s7 s8 s9 s10 s11 s12 s13 s14 : Option AV} {o : Option AV} : Wk (s0 :: s1 :: s2 :: s3 :: s4 :: s5 :: s6 :: s7 :: s8 :: s9 :: s10 :: s11 :: s12 :: s13 :: s14 :: o :: r) (s0 :: s1 :: s2 :: s3 :: s4 :: s5 :: s6 :: s7 :: s8 :: s9 :: s10 :: s11 :: s12 :: s13 :: s14 :: none :: r) := fun _ _ _ _ _ _ s => s.drop (i := 15)
theorem sv_st15 {s0 s1 s2 s3 s4 s5 s6 s7 s8 s9 s10 s11 s12 s13 s14 : Option AV} {xs : List AV} {ti : TE} (h : Ev K E X te (s0 :: s1 :: s2 :: s3 :: s4 :: s5 :: s6 :: s7 :: s8 :: s9 :: s10 :: s11 :: s12 :: s13 :: s14 :: some (.own xs) :: r) fun a => Ev K E X ti (s0 :: s1 :: s2 :: s3 :: s4 :: s5 :: s6 :: s7 :: s8 :: s9 :: s10 :: s11 :: s12 :: s13 :: s14 :: some (.own xs) :: r) fun b => ∃ a' k j, a.sto = some a' ∧ b = .av (.d (.int k)) ∧ ixN xs.length k = some j ∧ nx (s0 :: s1 :: s2 :: s3 :: s4 :: s5 :: s6 :: s7 :: s8 :: s9 :: s10 :: s11 :: s12 :: s13 :: s14 :: some (.own (xs.set j a')) :: r)) : Sv K E X (tAsg te (gSub (tVar 15) ti rSetL)) (s0 :: s1 :: s2 :: s3 :: s4 :: s5 :: s6 :: s7 :: s8 :: s9 :: s10 :: s11 :: s12 :: s13 :: s14 :: some (.own xs) :: r) ⟨nx, rt, bk, ct⟩ := sv_setitem (n := 15) rfl h
theorem sv_d15 {s0 s1 s2 s3 s4 s5 s6 s7 s8 s9 s10 s11 s12 s13 s14 : Option AV} {t : TS} {o : Option AV} (h : Sv K E X t (s0 :: s1 :: s2 :: s3 :: s4 :: s5 :: s6 :: s7 :: s8 :: s9 :: s10 :: s11 :: s12 :: s13 :: s14 :: none :: r) ⟨nx, rt, bk, ct⟩) : Sv K E X t (s0 :: s1 :: s2 :: s3 :: s4 :: s5 :: s6 :: s7 :: s8 :: s9 :: s10 :: s11 :: s12 :: s13 :: s14 :: o :: r) ⟨nx, rt, bk, ct⟩ := sv_wk (fun _ _ _ _ _ _ s => s.drop (i := 15)) h
theorem ev_v16 {s0 s1 s2 s3 s4 s5 s6 s7 s8 s9 s10 s11 s12 s13 s14 s15 : Option AV} (q : Q (.av (.d x))) : Ev K E X (tVar 16) (s0 :: s1 :: s2 :: s3 :: s4 :: s5 :: s6 :: s7 :: s8 :: s9 :: s10 :: s11 :: s12 :: s13 :: s14 :: s15 :: some (.d x) :: r) Q := ev_var rfl q
theorem ev_o16 {s0 s1 s2 s3 s4 s5 s6 s7 s8 s9 s10 s11 s12 s13 s14 s15 : Option AV} {xs : List AV} (q : Q (.bor (.list (AV.datas xs)))) : Ev K E X (tVar 16) (s0 :: s1 :: s2 :: s3 :: s4 :: s5 :: s6 :: s7 :: s8 :: s9 :: s10 :: s11 :: s12 :: s13 :: s14 :: s15 :: some (.own xs) :: r) Q := ev_varB rfl q
theorem sv_a16 {s0 s1 s2 s3 s4 s5 s6 s7 s8 s9 s10 s11 s12 s13 s14 s15 : Option AV} {o : Option AV} (h : Ev K E X te (s0 :: s1 :: s2 :: s3 :: s4 :: s5 :: s6 :: s7 :: s8 :: s9 :: s10 :: s11 :: s12 :: s13 :: s14 :: s15 :: o :: r) fun a => ∃ a', Sto (s0 :: s1 :: s2 :: s3 :: s4 :: s5 :: s6 :: s7 :: s8 :: s9 :: s10 :: s11 :: s12 :: s13 :: s14 :: s15 :: o :: r) a a' ∧ nx (s0 :: s1 :: s2 :: s3 :: s4 :: s5 :: s6 :: s7 :: s8 :: s9 :: s10 :: s11 :: s12 :: s13 :: s14 :: s15 :: some a' :: r)) : Sv K E X (tAsg te (gName 16)) (s0 :: s1 :: s2 :: s3 :: s4 :: s5 :: s6 :: s7 :: s8 :: s9 :: s10 :: s11 :: s12 :: s13 :: s14 :: s15 :: o :: r) ⟨nx, rt, bk, ct⟩ := sv_asg (n := 16) h (by simp only [List.length_cons]; omega)
theorem gv_16 {s0 s1 s2 s3 s4 s5 s6 s7 s8 s9 s10 s11 s12 s13 s14 s15 : Option AV} {o : Option AV} {P : Sl → Prop} (h : P (s0 :: s1 :: s2 :: s3 :: s4 :: s5 :: s6 :: s7 :: s8 :: s9 :: s10 :: s11 :: s12 :: s13 :: s14 :: s15 :: some (.d x) :: r)) : Gv K (gName 16) x (s0 :: s1 :: s2 :: s3 :: s4 :: s5 :: s6 :: s7 :: s8 :: s9 :: s10 :: s11 :: s12 :: s13 :: s14 :: s15 :: o :: r) P := gv_name (n := 16) h (by simp only [List.length_cons]; omega)
theorem sv_ap16 {s0 s1 s2 s3 s4 s5 s6 s7 s8 s9 s10 s11 s12 s13 s14 s15 : Option AV} {xs : List AV} (h : Ev K E X te (s0 :: s1 :: s2 :: s3 :: s4 :: s5 :: s6 :: s7 :: s8 :: s9 :: s10 :: s11 :: s12 :: s13 :: s14 :: s15 :: some (.own xs) :: r) fun a => ∃ a', a.sto = some a' ∧ xs.length ≤ 1000000 ∧ nx (s0 :: s1 :: s2 :: s3 :: s4 :: s5 :: s6 :: s7 :: s8 :: s9 :: s10 :: s11 :: s12 :: s13 :: s14 :: s15 :: some (.own (xs ++ [a'])) :: r)) : Sv K E X (tDrop (tBM K "list" rAppend (tVar 16) (tCons te tNil))) (s0 :: s1 :: s2 :: s3 :: s4 :: s5 :: s6 :: s7 :: s8 :: s9 :: s10 :: s11 :: s12 :: s13 :: s14 :: s15 :: some (.own xs) :: r) ⟨nx, rt, bk, ct⟩ := sv_append (n := 16) rfl h
theorem sv_f16 {s0 s1 s2 s3 s4 s5 s6 s7 s8 s9 s10 s11 s12 s13 s14 s15 : Option AV} {t : TS} (h : Sv K E X t (s0 :: s1 :: s2 :: s3 :: s4 :: s5 :: s6 :: s7 :: s8 :: s9 :: s10 :: s11 :: s12 :: s13 :: s14 :: s15 :: some (.d a.data) :: r) ⟨nx, rt, bk, ct⟩) : Sv K E X t (s0 :: s1 :: s2 :: s3 :: s4 :: s5 :: s6 :: s7 :: s8 :: s9 :: s10 :: s11 :: s12 :: s13 :: s14 :: s15 :: some a :: r) ⟨nx, rt, bk, ct⟩ := sv_frz 16 rfl h
theorem sv_ro16 {s0 s1 s2 s3 s4 s5 s6 s7 s8 s9 s10 s11 s12 s13 s14 s15 : Option AV} {xs : List AV} (q : rt (.av (.own xs))) : Sv K E X (tRet (tVar 16)) (s0 :: s1 :: s2 :: s3 :: s4 :: s5 :: s6 :: s7 :: s8 :: s9 :: s10 :: s11 :: s12 :: s13 :: s14 :: s15 :: some (.own xs) :: r) ⟨nx, rt, bk, ct⟩ := sv_retO rfl q
theorem sv_rv16 {s0 s1 s2 s3 s4 s5 s6 s7 s8 s9 s10 s11 s12 s13 s14 s15 : Option AV} {xs : List AV} (h : nx (s0 :: s1 :: s2 :: s3 :: s4 :: s5 :: s6 :: s7 :: s8 :: s9 :: s10 :: s11 :: s12 :: s13 :: s14 :: s15 :: some (.own xs.reverse) :: r)) : Sv K E X (tDrop (tBM0 K "list" rReverse (tVar 16))) (s0 :: s1 :: s2 :: s3 :: s4 :: s5 :: s6 :: s7 :: s8 :: s9 :: s10 :: s11 :: s12 :: s13 :: s14 :: s15 :: some (.own xs) :: r) ⟨nx, rt, bk, ct⟩ := sv_reverse (n := 16) rfl h
theorem wk_16 {s0 s1 s2 s3 s4 s5 s6 s7 s8 s9 s10 s11 s12 s13 s14 s15 : Option AV} {o : Option AV} : Wk (s0 :: s1 :: s2 :: s3 :: s4 :: s5 :: s6 :: s7 :: s8 :: s9 :: s10 :: s11 :: s12 :: s13 :: s14 :: s15 :: o :: r) (s0 :: s1 :: s2 :: s3 :: s4 :: s5 :: s6 :: s7 :: s8 :: s9 :: s10 :: s11 :: s12 :: s13 :: s14 :: s15 :: none :: r) := fun _ _ _ _ _ _ s => s.drop (i := 16)
theorem sv_st16 {s0 s1 s2 s3 s4 s5 s6 s7 s8 s9 s10 s11 s12 s13 s14 s15 : Option AV} {xs : List AV} {ti : TE} (h : Ev K E X te (s0 :: s1 :: s2 :: s3 :: s4 :: s5 :: s6 :: s7 :: s8 :: s9 :: s10 :: s11 :: s12 :: s13 :: s14 :: s15 :: some (.own xs) :: r) fun a => Ev K E X ti (s0 :: s1 :: s2 :: s3 :: s4 :: s5 :: s6 :: s7 :: s8 :: s9 :: s10 :: s11 :: s12 :: s13 :: s14 :: s15 :: some (.own xs) :: r) fun b => ∃ a' k j, a.sto = some a' ∧ b = .av (.d (.int k)) ∧ ixN xs.length k = some j ∧ nx (s0 :: s1 :: s2 :: s3 :: s4 :: s5 :: s6 :: s7 :: s8 :: s9 :: s10 :: s11 :: s12 :: s13 :: s14 :: s15 :: some (.own (xs.set j a')) :: r)) : Sv K E X (tAsg te (gSub (tVar 16) ti rSetL)) (s0 :: s1 :: s2 :: s3 :: s4 :: s5 :: s6 :: s7 :: s8 :: s9 :: s10 :: s11 :: s12 :: s13 :: s14 :: s15 :: some (.own xs) :: r) ⟨nx, rt, bk, ct⟩ := sv_setitem (n := 16) rfl h
theorem sv_d16 {s0 s1 s2 s3 s4 s5 s6 s7 s8 s9 s10 s11 s12 s13 s14 s15 : Option AV} {t : TS} {o : Option AV} (h : Sv K E X t (s0 :: s1 :: s2 :: s3 :: s4 :: s5 :: s6 :: s7 :: s8 :: s9 :: s10 :: s11 :: s12 :: s13 :: s14 :: s15 :: none :: r) ⟨nx, rt, bk, ct⟩) : Sv K E X t (s0 :: s1 :: s2 :: s3 :: s4 :: s5 :: s6 :: s7 :: s8 :: s9 :: s10 :: s11 :: s12 :: s13 :: s14 :: s15 :: o :: r) ⟨nx, rt, bk, ct⟩ := sv_wk (fun _ _ _ _ _ _ s => s.drop (i := 16)) h
theorem ev_v17 {s0 s1 s2 s3 s4 s5 s6 s7 s8 s9 s10 s11 s12 s13 s14 s15 s16 : Option AV} (q : Q (.av (.d x))) : Ev K E X (tVar 17) (s0 :: s1 :: s2 :: s3 :: s4 :: s5 :: s6 :: s7 :: s8 :: s9 :: s10 :: s11 :: s12 :: s13 :: s14 :: s15 :: s16 :: some (.d x) :: r) Q := ev_var rfl q
theorem ev_o17 {s0 s1 s2 s3 s4 s5 s6 s7 s8 s9 s10 s11 s12 s13 s14 s15 s16 : Option AV} {xs : List AV} (q : Q (.bor (.list (AV.datas xs)))) : Ev K E X (tVar 17) (s0 :: s1 :: s2 :: s3 :: s4 :: s5 :: s6 :: s7 :: s8 :: s9 :: s10 :: s11 :: s12 :: s13 :: s14 :: s15 :: s16 :: some (.own xs) :: r) Q := ev_varB rfl q
theorem sv_a17 {s0 s1 s2 s3 s4 s5 s6 s7 s8 s9 s10 s11 s12 s13 s14 s15 s16 : Option AV} {o : Option AV} (h : Ev K E X te (s0 :: s1 :: s2 :: s3 :: s4 :: s5 :: s6 :: s7 :: s8 :: s9 :: s10 :: s11 :: s12 :: s13 :: s14 :: s15 :: s16 :: o :: r) fun a => ∃ a', Sto (s0 :: s1 :: s2 :: s3 :: s4 :: s5 :: s6 :: s7 :: s8 :: s9 :: s10 :: s11 :: s12 :: s13 :: s14 :: s15 :: s16 :: o :: r) a a' ∧ nx (s0 :: s1 :: s2 :: s3 :: s4 :: s5 :: s6 :: s7 :: s8 :: s9 :: s10 :: s11 :: s12 :: s13 :: s14 :: s15 :: s16 :: some a' :: r)) : Sv K E X (tAsg te (gName 17)) (s0 :: s1 :: s2 :: s3 :: s4 :: s5 :: s6 :: s7 :: s8 :: s9 :: s10 :: s11 :: s12 :: s13 :: s14 :: s15 :: s16 :: o :: r) ⟨nx, rt, bk, ct⟩ := sv_asg (n := 17) h (by simp only [List.length_cons]; omega)
theorem gv_17 {s0 s1 s2 s3 s4 s5 s6 s7 s8 s9 s10 s11 s12 s13 s14 s15 s16 : Option AV} {o : Option AV} {P : Sl → Prop} (h : P (s0 :: s1 :: s2 :: s3 :: s4 :: s5 :: s6 :: s7 :: s8 :: s9 :: s10 :: s11 :: s12 :: s13 :: s14 :: s15 :: s16 :: some (.d x) :: r)) : Gv K (gName 17) x (s0 :: s1 :: s2 :: s3 :: s4 :: s5 :: s6 :: s7 :: s8 :: s9 :: s10 :: s11 :: s12 :: s13 :: s14 :: s15 :: s16 :: o :: r) P := gv_name (n := 17) h (by simp only [List.length_cons]; omega)
theorem sv_ap17 {s0 s1 s2 s3 s4 s5 s6 s7 s8 s9 s10 s11 s12 s13 s14 s15 s16 : Option AV} {xs : List AV} (h : Ev K E X te (s0 :: s1 :: s2 :: s3 :: s4 :: s5 :: s6 :: s7 :: s8 :: s9 :: s10 :: s11 :: s12 :: s13 :: s14 :: s15 :: s16 :: some (.own xs) :: r) fun a => ∃ a', a.sto = some a' ∧ xs.length ≤ 1000000 ∧ nx (s0 :: s1 :: s2 :: s3 :: s4 :: s5 :: s6 :: s7 :: s8 :: s9 :: s10 :: s11 :: s12 :: s13 :: s14 :: s15 :: s16 :: some (.own (xs ++ [a'])) :: r)) : Sv K E X (tDrop (tBM K "list" rAppend (tVar 17) (tCons te tNil))) (s0 :: s1 :: s2 :: s3 :: s4 :: s5 :: s6 :: s7 :: s8 :: s9 :: s10 :: s11 :: s12 :: s13 :: s14 :: s15 :: s16 :: some (.own xs) :: r) ⟨nx, rt, bk, ct⟩ := sv_append (n := 17) rfl h
theorem sv_f17 {s0 s1 s2 s3 s4 s5 s6 s7 s8 s9 s10 s11 s12 s13 s14 s15 s16 : Option AV} {t : TS} (h : Sv K E X t (s0 :: s1 :: s2 :: s3 :: s4 :: s5 :: s6 :: s7 :: s8 :: s9 :: s10 :: s11 :: s12 :: s13 :: s14 :: s15 :: s16 :: some (.d a.data) :: r) ⟨nx, rt, bk, ct⟩) : Sv K E X t (s0 :: s1 :: s2 :: s3 :: s4 :: s5 :: s6 :: s7 :: s8 :: s9 :: s10 :: s11 :: s12 :: s13 :: s14 :: s15 :: s16 :: some a :: r) ⟨nx, rt, bk, ct⟩ := sv_frz 17 rfl h
theorem sv_ro17 {s0 s1 s2 s3 s4 s5 s6 s7 s8 s9 s10 s11 s12 s13 s14 s15 s16 : Option AV} {xs : List AV} (q : rt (.av (.own xs))) : Sv K E X (tRet (tVar 17)) (s0 :: s1 :: s2 :: s3 :: s4 :: s5 :: s6 :: s7 :: s8 :: s9 :: s10 :: s11 :: s12 :: s13 :: s14 :: s15 :: s16 :: some (.own xs) :: r) ⟨nx, rt, bk, ct⟩ := sv_retO rfl q
theorem sv_rv17 {s0 s1 s2 s3 s4 s5 s6 s7 s8 s9 s10 s11 s12 s13 s14 s15 s16 : Option AV} {xs : List AV} (h : nx (s0 :: s1 :: s2 :: s3 :: s4 :: s5 :: s6 :: s7 :: s8 :: s9 :: s10 :: s11 :: s12 :: s13 :: s14 :: s15 :: s16 :: some (.own xs.reverse) :: r)) : Sv K E X (tDrop (tBM0 K "list" rReverse (tVar 17))) (s0 :: s1 :: s2 :: s3 :: s4 :: s5 :: s6 :: s7 :: s8 :: s9 :: s10 :: s11 :: s12 :: s13 :: s14 :: s15 :: s16 :: some (.own xs) :: r) ⟨nx, rt, bk, ct⟩ := sv_reverse (n := 17) rfl h
theorem wk_17 {s0 s1 s2 s3 s4 s5 s6 s7 s8 s9 s10 s11 s12 s13 s14 s15 s16 : Option AV} {o : Option AV} : Wk (s0 :: s1 :: s2 :: s3 :: s4 :: s5 :: s6 :: s7 :: s8 :: s9 :: s10 :: s11 :: s12 :: s13 :: s14 :: s15 :: s16 :: o :: r) (s0 :: s1 :: s2 :: s3 :: s4 :: s5 :: s6 :: s7 :: s8 :: s9 :: s10 :: s11 :: s12 :: s13 :: s14 :: s15 :: s16 :: none :: r) := fun _ _ _ _ _ _ s => s.drop (i := 17)
theorem sv_st17 {s0 s1 s2 s3 s4 s5 s6 s7 s8 s9 s10 s11 s12 s13 s14 s15 s16 : Option AV} {xs : List AV} {ti : TE} (h : Ev K E X te (s0 :: s1 :: s2 :: s3 :: s4 :: s5 :: s6 :: s7 :: s8 :: s9 :: s10 :: s11 :: s12 :: s13 :: s14 :: s15 :: s16 :: some (.own xs) :: r) fun a => Ev K E X ti (s0 :: s1 :: s2 :: s3 :: s4 :: s5 :: s6 :: s7 :: s8 :: s9 :: s10 :: s11 :: s12 :: s13 :: s14 :: s15 :: s16 :: some (.own xs) :: r) fun b => ∃ a' k j, a.sto = some a' ∧ b = .av (.d (.int k)) ∧ ixN xs.length k = some j ∧ nx (s0 :: s1 :: s2 :: s3 :: s4 :: s5 :: s6 :: s7 :: s8 :: s9 :: s10 :: s11 :: s12 :: s13 :: s14 :: s15 :: s16 :: some (.own (xs.set j a')) :: r)) : Sv K E X (tAsg te (gSub (tVar 17) ti rSetL)) (s0 :: s1 :: s2 :: s3 :: s4 :: s5 :: s6 :: s7 :: s8 :: s9 :: s10 :: s11 :: s12 :: s13 :: s14 :: s15 :: s16 :: some (.own xs) :: r) ⟨nx, rt, bk, ct⟩ := sv_setitem (n := 17) rfl h
theorem sv_d17 {s0 s1 s2 s3 s4 s5 s6 s7 s8 s9 s10 s11 s12 s13 s14 s15 s16 : Option AV} {t : TS} {o : Option AV} (h : Sv K E X t (s0 :: s1 :: s2 :: s3 :: s4 :: s5 :: s6 :: s7 :: s8 :: s9 :: s10 :: s11 :: s12 :: s13 :: s14 :: s15 :: s16 :: none :: r) ⟨nx, rt, bk, ct⟩) : Sv K E X t (s0 :: s1 :: s2 :: s3 :: s4 :: s5 :: s6 :: s7 :: s8 :: s9 :: s10 :: s11 :: s12 :: s13 :: s14 :: s15 :: s16 :: o :: r) ⟨nx, rt, bk, ct⟩ := sv_wk (fun _ _ _ _ _ _ s => s.drop (i := 17)) h
theorem ev_v18 {s0 s1 s2 s3 s4 s5 s6 s7 s8 s9 s10 s11 s12 s13 s14 s15 s16 s17 : Option AV} (q : Q (.av (.d x))) : Ev K E X (tVar 18) (s0 :: s1 :: s2 :: s3 :: s4 :: s5 :: s6 :: s7 :: s8 :: s9 :: s10 :: s11 :: s12 :: s13 :: s14 :: s15 :: s16 :: s17 :: some (.d x) :: r) Q := ev_var rfl q
theorem ev_o18 {s0 s1 s2 s3 s4 s5 s6 s7 s8 s9 s10 s11 s12 s13 s14 s15 s16 s17 : Option AV} {xs : List AV} (q : Q (.bor (.list (AV.datas xs)))) : Ev K E X (tVar 18) (s0 :: s1 :: s2 :: s3 :: s4 :: s5 :: s6 :: s7 :: s8 :: s9 :: s10 :: s11 :: s12 :: s13 :: s14 :: s15 :: s16 :: s17 :: some (.own xs) :: r) Q := ev_varB rfl q
theorem sv_a18 {s0 s1 s2 s3 s4 s5 s6 s7 s8 s9 s10 s11 s12 s13 s14 s15 s16 s17 : Option AV} {o : Option AV} (h : Ev K E X te (s0 :: s1 :: s2 :: s3 :: s4 :: s5 :: s6 :: s7 :: s8 :: s9 :: s10 :: s11 :: s12 :: s13 :: s14 :: s15 :: s16 :: s17 :: o :: r) fun a => ∃ a', Sto (s0 :: s1 :: s2 :: s3 :: s4 :: s5 :: s6 :: s7 :: s8 :: s9 :: s10 :: s11 :: s12 :: s13 :: s14 :: s15 :: s16 :: s17 :: o :: r) a a' ∧ nx (s0 :: s1 :: s2 :: s3 :: s4 :: s5 :: s6 :: s7 :: s8 :: s9 :: s10 :: s11 :: s12 :: s13 :: s14 :: s15 :: s16 :: s17 :: some a' :: r)) : Sv K E X (tAsg te (gName 18)) (s0 :: s1 :: s2 :: s3 :: s4 :: s5 :: s6 :: s7 :: s8 :: s9 :: s10 :: s11 :: s12 :: s13 :: s14 :: s15 :: s16 :: s17 :: o :: r) ⟨nx, rt, bk, ct⟩ := sv_asg (n := 18) h (by simp only [List.length_cons]; omega)
theorem gv_18 {s0 s1 s2 s3 s4 s5 s6 s7 s8 s9 s10 s11 s12 s13 s14 s15 s16 s17 : Option AV} {o : Option AV} {P : Sl → Prop} (h : P (s0 :: s1 :: s2 :: s3 :: s4 :: s5 :: s6 :: s7 :: s8 :: s9 :: s10 :: s11 :: s12 :: s13 :: s14 :: s15 :: s16 :: s17 :: some (.d x) :: r)) : Gv K (gName 18) x (s0 :: s1 :: s2 :: s3 :: s4 :: s5 :: s6 :: s7 :: s8 :: s9 :: s10 :: s11 :: s12 :: s13 :: s14 :: s15 :: s16 :: s17 :: o :: r) P := gv_name (n := 18) h (by simp only [List.length_cons]; omega)
theorem sv_ap18 {s0 s1 s2 s3 s4 s5 s6 s7 s8 s9 s10 s11 s12 s13 s14 s15 s16 s17 : Option AV} {xs : List AV} (h : Ev K E X te (s0 :: s1 :: s2 :: s3 :: s4 :: s5 :: s6 :: s7 :: s8 :: s9 :: s10 :: s11 :: s12 :: s13 :: s14 :: s15 :: s16 :: s17 :: some (.own xs) :: r) fun a => ∃ a', a.sto = some a' ∧ xs.length ≤ 1000000 ∧ nx (s0 :: s1 :: s2 :: s3 :: s4 :: s5 :: s6 :: s7 :: s8 :: s9 :: s10 :: s11 :: s12 :: s13 :: s14 :: s15 :: s16 :: s17 :: some (.own (xs ++ [a'])) :: r)) : Sv K E X (tDrop (tBM K "list" rAppend (tVar 18) (tCons te tNil))) (s0 :: s1 :: s2 :: s3 :: s4 :: s5 :: s6 :: s7 :: s8 :: s9 :: s10 :: s11 :: s12 :: s13 :: s14 :: s15 :: s16 :: s17 :: some (.own xs) :: r) ⟨nx, rt, bk, ct⟩ := sv_append (n := 18) rfl h
theorem sv_f18 {s0 s1 s2 s3 s4 s5 s6 s7 s8 s9 s10 s11 s12 s13 s14 s15 s16 s17 : Option AV} {t : TS} (h : Sv K E X t (s0 :: s1 :: s2 :: s3 :: s4 :: s5 :: s6 :: s7 :: s8 :: s9 :: s10 :: s11 :: s12 :: s13 :: s14 :: s15 :: s16 :: s17 :: some (.d a.data) :: r) ⟨nx, rt, bk, ct⟩) : Sv K E X t (s0 :: s1 :: s2 :: s3 :: s4 :: s5 :: s6 :: s7 :: s8 :: s9 :: s10 :: s11 :: s12 :: s13 :: s14 :: s15 :: s16 :: s17 :: some a :: r) ⟨nx, rt, bk, ct⟩ := sv_frz 18 rfl h
theorem sv_ro18 {s0 s1 s2 s3 s4 s5 s6 s7 s8 s9 s10 s11 s12 s13 s14 s15 s16 s17 : Option AV} {xs : List AV} (q : rt (.av (.own xs))) : Sv K E X (tRet (tVar 18)) (s0 :: s1 :: s2 :: s3 :: s4 :: s5 :: s6 :: s7 :: s8 :: s9 :: s10 :: s11 :: s12 :: s13 :: s14 :: s15 :: s16 :: s17 :: some (.own xs) :: r) ⟨nx, rt, bk, ct⟩ := sv_retO rfl q
theorem sv_rv18 {s0 s1 s2 s3 s4 s5 s6 s7 s8 s9 s10 s11 s12 s13 s14 s15 s16 s17 : Option AV} {xs : List AV} (h : nx (s0 :: s1 :: s2 :: s3 :: s4 :: s5 :: s6 :: s7 :: s8 :: s9 :: s10 :: s11 :: s12 :: s13 :: s14 :: s15 :: s16 :: s17 :: some (.own xs.reverse) :: r)) : Sv K E X (tDrop (tBM0 K "list" rReverse (tVar 18))) (s0 :: s1 :: s2 :: s3 :: s4 :: s5 :: s6 :: s7 :: s8 :: s9 :: s10 :: s11 :: s12 :: s13 :: s14 :: s15 :: s16 :: s17 :: some (.own xs) :: r) ⟨nx, rt, bk, ct⟩ := sv_reverse (n := 18) rfl h
theorem wk_18 {s0 s1 s2 s3 s4 s5 s6 s7 s8 s9 s10 s11 s12 s13 s14 s15 s16 s17 : Option AV} {o : Option AV} : Wk (s0 :: s1 :: s2 :: s3 :: s4 :: s5 :: s6 :: s7 :: s8 :: s9 :: s10 :: s11 :: s12 :: s13 :: s14 :: s15 :: s16 :: s17 :: o :: r) (s0 :: s1 :: s2 :: s3 :: s4 :: s5 :: s6 :: s7 :: s8 :: s9 :: s10 :: s11 :: s12 :: s13 :: s14 :: s15 :: s16 :: s17 :: none :: r) := fun _ _ _ _ _ _ s => s.drop (i := 18)
theorem sv_st18 {s0 s1 s2 s3 s4 s5 s6 s7 s8 s9 s10 s11 s12 s13 s14 s15 s16 s17 : Option AV} {xs : List AV} {ti : TE} (h : Ev K E X te (s0 :: s1 :: s2 :: s3 :: s4 :: s5 :: s6 :: s7 :: s8 :: s9 :: s10 :: s11 :: s12 :: s13 :: s14 :: s15 :: s16 :: s17 :: some (.own xs) :: r) fun a => Ev K E X ti (s0 :: s1 :: s2 :: s3 :: s4 :: s5 :: s6 :: s7 :: s8 :: s9 :: s10 :: s11 :: s12 :: s13 :: s14 :: s15 :: s16 :: s17 :: some (.own xs) :: r) fun b => ∃ a' k j, a.sto = some a' ∧ b = .av (.d (.int k)) ∧ ixN xs.length k = some j ∧ nx (s0 :: s1 :: s2 :: s3 :: s4 :: s5 :: s6 :: s7 :: s8 :: s9 :: s10 :: s11 :: s12 :: s13 :: s14 :: s15 :: s16 :: s17 :: some (.own (xs.set j a')) :: r)) : Sv K E X (tAsg te (gSub (tVar 18) ti rSetL)) (s0 :: s1 :: s2 :: s3 :: s4 :: s5 :: s6 :: s7 :: s8 :: s9 :: s10 :: s11 :: s12 :: s13 :: s14 :: s15 :: s16 :: s17 :: some (.own xs) :: r) ⟨nx, rt, bk, ct⟩ := sv_setitem (n := 18) rfl h
theorem sv_d18 {s0 s1 s2 s3 s4 s5 s6 s7 s8 s9 s10 s11 s12 s13 s14 s15 s16 s17 : Option AV} {t : TS} {o : Option AV} (h : Sv K E X t (s0 :: s1 :: s2 :: s3 :: s4 :: s5 :: s6 :: s7 :: s8 :: s9 :: s10 :: s11 :: s12 :: s13 :: s14 :: s15 :: s16 :: s17 :: none :: r) ⟨nx, rt, bk, ct⟩) : Sv K E X t (s0 :: s1 :: s2 :: s3 :: s4 :: s5 :: s6 :: s7 :: s8 :: s9 :: s10 :: s11 :: s12 :: s13 :: s14 :: s15 :: s16 :: s17 :: o :: r) ⟨nx, rt, bk, ct⟩ := sv_wk (fun _ _ _ _ _ _ s => s.drop (i := 18)) h
theorem ev_v19 {s0 s1 s2 s3 s4 s5 s6 s7 s8 s9 s10 s11 s12 s13 s14 s15 s16 s17 s18 : Option AV} (q : Q (.av (.d x))) : Ev K E X (tVar 19) (s0 :: s1 :: s2 :: s3 :: s4 :: s5 :: s6 :: s7 :: s8 :: s9 :: s10 :: s11 :: s12 :: s13 :: s14 :: s15 :: s16 :: s17 :: s18 :: some (.d x) :: r) Q := ev_var rfl q
theorem ev_o19 {s0 s1 s2 s3 s4 s5 s6 s7 s8 s9 s10 s11 s12 s13 s14 s15 s16 s17 s18 : Option AV} {xs : List AV} (q : Q (.bor (.list (AV.datas xs)))) : Ev K E X (tVar 19) (s0 :: s1 :: s2 :: s3 :: s4 :: s5 :: s6 :: s7 :: s8 :: s9 :: s10 :: s11 :: s12 :: s13 :: s14 :: s15 :: s16 :: s17 :: s18 :: some (.own xs) :: r) Q := ev_varB rfl q
theorem sv_a19 {s0 s1 s2 s3 s4 s5 s6 s7 s8 s9 s10 s11 s12 s13 s14 s15 s16 s17 s18 : Option AV} {o : Option AV} (h : Ev K E X te (s0 :: s1 :: s2 :: s3 :: s4 :: s5 :: s6 :: s7 :: s8 :: s9 :: s10 :: s11 :: s12 :: s13 :: s14 :: s15 :: s16 :: s17 :: s18 :: o :: r) fun a => ∃ a', Sto (s0 :: s1 :: s2 :: s3 :: s4 :: s5 :: s6 :: s7 :: s8 :: s9 :: s10 :: s11 :: s12 :: s13 :: s14 :: s15 :: s16 :: s17 :: s18 :: o :: r) a a' ∧ nx (s0 :: s1 :: s2 :: s3 :: s4 :: s5 :: s6 :: s7 :: s8 :: s9 :: s10 :: s11 :: s12 :: s13 :: s14 :: s15 :: s16 :: s17 :: s18 :: some a' :: r)) : Sv K E X (tAsg te (gName 19)) (s0 :: s1 :: s2 :: s3 :: s4 :: s5 :: s6 :: s7 :: s8 :: s9 :: s10 :: s11 :: s12 :: s13 :: s14 :: s15 :: s16 :: s17 :: s18 :: o :: r) ⟨nx, rt, bk, ct⟩ := sv_asg (n := 19) h (by simp only [List.length_cons]; omega)
theorem gv_19 {s0 s1 s2 s3 s4 s5 s6 s7 s8 s9 s10 s11 s12 s13 s14 s15 s16 s17 s18 : Option AV} {o : Option AV} {P : Sl → Prop} (h : P (s0 :: s1 :: s2 :: s3 :: s4 :: s5 :: s6 :: s7 :: s8 :: s9 :: s10 :: s11 :: s12 :: s13 :: s14 :: s15 :: s16 :: s17 :: s18 :: some (.d x) :: r)) : Gv K (gName 19) x (s0 :: s1 :: s2 :: s3 :: s4 :: s5 :: s6 :: s7 :: s8 :: s9 :: s10 :: s11 :: s12 :: s13 :: s14 :: s15 :: s16 :: s17 :: s18 :: o :: r) P := gv_name (n := 19) h (by simp only [List.length_cons]; omega)
theorem sv_ap19 {s0 s1 s2 s3 s4 s5 s6 s7 s8 s9 s10 s11 s12 s13 s14 s15 s16 s17 s18 : Option AV} {xs : List AV} (h : Ev K E X te (s0 :: s1 :: s2 :: s3 :: s4 :: s5 :: s6 :: s7 :: s8 :: s9 :: s10 :: s11 :: s12 :: s13 :: s14 :: s15 :: s16 :: s17 :: s18 :: some (.own xs) :: r) fun a => ∃ a', a.sto = some a' ∧ xs.length ≤ 1000000 ∧ nx (s0 :: s1 :: s2 :: s3 :: s4 :: s5 :: s6 :: s7 :: s8 :: s9 :: s10 :: s11 :: s12 :: s13 :: s14 :: s15 :: s16 :: s17 :: s18 :: some (.own (xs ++ [a'])) :: r)) : Sv K E X (tDrop (tBM K "list" rAppend (tVar 19) (tCons te tNil))) (s0 :: s1 :: s2 :: s3 :: s4 :: s5 :: s6 :: s7 :: s8 :: s9 :: s10 :: s11 :: s12 :: s13 :: s14 :: s15 :: s16 :: s17 :: s18 :: some (.own xs) :: r) ⟨nx, rt, bk, ct⟩ := sv_append (n := 19) rfl h
theorem sv_f19 {s0 s1 s2 s3 s4 s5 s6 s7 s8 s9 s10 s11 s12 s13 s14 s15 s16 s17 s18 : Option AV} {t : TS} (h : Sv K E X t (s0 :: s1 :: s2 :: s3 :: s4 :: s5 :: s6 :: s7 :: s8 :: s9 :: s10 :: s11 :: s12 :: s13 :: s14 :: s15 :: s16 :: s17 :: s18 :: some (.d a.data) :: r) ⟨nx, rt, bk, ct⟩) : Sv K E X t (s0 :: s1 :: s2 :: s3 :: s4 :: s5 :: s6 :: s7 :: s8 :: s9 :: s10 :: s11 :: s12 :: s13 :: s14 :: s15 :: s16 :: s17 :: s18 :: some a :: r) ⟨nx, rt, bk, ct⟩ := sv_frz 19 rfl h
theorem sv_ro19 {s0 s1 s2 s3 s4 s5 s6 s7 s8 s9 s10 s11 s12 s13 s14 s15 s16 s17 s18 : Option AV} {xs : List AV} (q : rt (.av (.own xs))) : Sv K E X (tRet (tVar 19)) (s0 :: s1 :: s2 :: s3 :: s4 :: s5 :: s6 :: s7 :: s8 :: s9 :: s10 :: s11 :: s12 :: s13 :: s14 :: s15 :: s16 :: s17 :: s18 :: some (.own xs) :: r) ⟨nx, rt, bk, ct⟩ := sv_retO rfl q
theorem sv_rv19 {s0 s1 s2 s3 s4 s5 s6 s7 s8 s9 s10 s11 s12 s13 s14 s15 s16 s17 s18 : Option AV} {xs : List AV} (h : nx (s0 :: s1 :: s2 :: s3 :: s4 :: s5 :: s6 :: s7 :: s8 :: s9 :: s10 :: s11 :: s12 :: s13 :: s14 :: s15 :: s16 :: s17 :: s18 :: some (.own xs.reverse) :: r)) : Sv K E X (tDrop (tBM0 K "list" rReverse (tVar 19))) (s0 :: s1 :: s2 :: s3 :: s4 :: s5 :: s6 :: s7 :: s8 :: s9 :: s10 :: s11 :: s12 :: s13 :: s14 :: s15 :: s16 :: s17 :: s18 :: some (.own xs) :: r) ⟨nx, rt, bk, ct⟩ := sv_reverse (n := 19) rfl h
theorem wk_19 {s0 s1 s2 s3 s4 s5 s6 s7 s8 s9 s10 s11 s12 s13 s14 s15 s16 s17 s18 : Option AV} {o : Option AV} : Wk (s0 :: s1 :: s2 :: s3 :: s4 :: s5 :: s6 :: s7 :: s8 :: s9 :: s10 :: s11 :: s12 :: s13 :: s14 :: s15 :: s16 :: s17 :: s18 :: o :: r) (s0 :: s1 :: s2 :: s3 :: s4 :: s5 :: s6 :: s7 :: s8 :: s9 :: s10 :: s11 :: s12 :: s13 :: s14 :: s15 :: s16 :: s17 :: s18 :: none :: r) := fun _ _ _ _ _ _ s => s.drop (i := 19)
theorem sv_st19 {s0 s1 s2 s3 s4 s5 s6 s7 s8 s9 s10 s11 s12 s13 s14 s15 s16 s17 s18 : Option AV} {xs : List AV} {ti : TE} (h : Ev K E X te (s0 :: s1 :: s2 :: s3 :: s4 :: s5 :: s6 :: s7 :: s8 :: s9 :: s10 :: s11 :: s12 :: s13 :: s14 :: s15 :: s16 :: s17 :: s18 :: some (.own xs) :: r) fun a => Ev K E X ti (s0 :: s1 :: s2 :: s3 :: s4 :: s5 :: s6 :: s7 :: s8 :: s9 :: s10 :: s11 :: s12 :: s13 :: s14 :: s15 :: s16 :: s17 :: s18 :: some (.own xs) :: r) fun b => ∃ a' k j, a.sto = some a' ∧ b = .av (.d (.int k)) ∧ ixN xs.length k = some j ∧ nx (s0 :: s1 :: s2 :: s3 :: s4 :: s5 :: s6 :: s7 :: s8 :: s9 :: s10 :: s11 :: s12 :: s13 :: s14 :: s15 :: s16 :: s17 :: s18 :: some (.own (xs.set j a')) :: r)) : Sv K E X (tAsg te (gSub (tVar 19) ti rSetL)) (s0 :: s1 :: s2 :: s3 :: s4 :: s5 :: s6 :: s7 :: s8 :: s9 :: s10 :: s11 :: s12 :: s13 :: s14 :: s15 :: s16 :: s17 :: s18 :: some (.own xs) :: r) ⟨nx, rt, bk, ct⟩ := sv_setitem (n := 19) rfl h
theorem sv_d19 {s0 s1 s2 s3 s4 s5 s6 s7 s8 s9 s10 s11 s12 s13 s14 s15 s16 s17 s18 : Option AV} {t : TS} {o : Option AV} (h : Sv K E X t (s0 :: s1 :: s2 :: s3 :: s4 :: s5 :: s6 :: s7 :: s8 :: s9 :: s10 :: s11 :: s12 :: s13 :: s14 :: s15 :: s16 :: s17 :: s18 :: none :: r) ⟨nx, rt, bk, ct⟩) : Sv K E X t (s0 :: s1 :: s2 :: s3 :: s4 :: s5 :: s6 :: s7 :: s8 :: s9 :: s10 :: s11 :: s12 :: s13 :: s14 :: s15 :: s16 :: s17 :: s18 :: o :: r) ⟨nx, rt, bk, ct⟩ := sv_wk (fun _ _ _ _ _ _ s => s.drop (i := 19)) h
theorem ev_v20 {s0 s1 s2 s3 s4 s5 s6 s7 s8 s9 s10 s11 s12 s13 s14 s15 s16 s17 s18 s19 : Option AV} (q : Q (.av (.d x))) : Ev K E X (tVar 20) (s0 :: s1 :: s2 :: s3 :: s4 :: s5 :: s6 :: s7 :: s8 :: s9 :: s10 :: s11 :: s12 :: s13 :: s14 :: s15 :: s16 :: s17 :: s18 :: s19 :: some (.d x) :: r) Q := ev_var rfl q
theorem ev_o20 {s0 s1 s2 s3 s4 s5 s6 s7 s8 s9 s10 s11 s12 s13 s14 s15 s16 s17 s18 s19 : Option AV} {xs : List AV} (q : Q (.bor (.list (AV.datas xs)))) : Ev K E X (tVar 20) (s0 :: s1 :: s2 :: s3 :: s4 :: s5 :: s6 :: s7 :: s8 :: s9 :: s10 :: s11 :: s12 :: s13 :: s14 :: s15 :: s16 :: s17 :: s18 :: s19 :: some (.own xs) :: r) Q := ev_varB rfl q
theorem sv_a20 {s0 s1 s2 s3 s4 s5 s6 s7 s8 s9 s10 s11 s12 s13 s14 s15 s16 s17 s18 s19 : Option AV} {o : Option AV} (h : Ev K E X te (s0 :: s1 :: s2 :: s3 :: s4 :: s5 :: s6 :: s7 :: s8 :: s9 :: s10 :: s11 :: s12 :: s13 :: s14 :: s15 :: s16 :: s17 :: s18 :: s19 :: o :: r) fun a => ∃ a', Sto (s0 :: s1 :: s2 :: s3 :: s4 :: s5 :: s6 :: s7 :: s8 :: s9 :: s10 :: s11 :: s12 :: s13 :: s14 :: s15 :: s16 :: s17 :: s18 :: s19 :: o :: r) a a' ∧ nx (s0 :: s1 :: s2 :: s3 :: s4 :: s5 :: s6 :: s7 :: s8 :: s9 :: s10 :: s11 :: s12 :: s13 :: s14 :: s15 :: s16 :: s17 :: s18 :: s19 :: some a' :: r)) : Sv K E X (tAsg te (gName 20)) (s0 :: s1 :: s2 :: s3 :: s4 :: s5 :: s6 :: s7 :: s8 :: s9 :: s10 :: s11 :: s12 :: s13 :: s14 :: s15 :: s16 :: s17 :: s18 :: s19 :: o :: r) ⟨nx, rt, bk, ct⟩ := sv_asg (n := 20) h (by simp only [List.length_cons]; omega)
theorem gv_20 {s0 s1 s2 s3 s4 s5 s6 s7 s8 s9 s10 s11 s12 s13 s14 s15 s16 s17 s18 s19 : Option AV} {o : Option AV} {P : Sl → Prop} (h : P (s0 :: s1 :: s2 :: s3 :: s4 :: s5 :: s6 :: s7 :: s8 :: s9 :: s10 :: s11 :: s12 :: s13 :: s14 :: s15 :: s16 :: s17 :: s18 :: s19 :: some (.d x) :: r)) : Gv K (gName 20) x (s0 :: s1 :: s2 :: s3 :: s4 :: s5 :: s6 :: s7 :: s8 :: s9 :: s10 :: s11 :: s12 :: s13 :: s14 :: s15 :: s16 :: s17 :: s18 :: s19 :: o :: r) P := gv_name (n := 20) h (by simp only [List.length_cons]; omega)
theorem sv_ap20 {s0 s1 s2 s3 s4 s5 s6 s7 s8 s9 s10 s11 s12 s13 s14 s15 s16 s17 s18 s19 : Option AV} {xs : List AV} (h : Ev K E X te (s0 :: s1 :: s2 :: s3 :: s4 :: s5 :: s6 :: s7 :: s8 :: s9 :: s10 :: s11 :: s12 :: s13 :: s14 :: s15 :: s16 :: s17 :: s18 :: s19 :: some (.own xs) :: r) fun a => ∃ a', a.sto = some a' ∧ xs.length ≤ 1000000 ∧ nx (s0 :: s1 :: s2 :: s3 :: s4 :: s5 :: s6 :: s7 :: s8 :: s9 :: s10 :: s11 :: s12 :: s13 :: s14 :: s15 :: s16 :: s17 :: s18 :: s19 :: some (.own (xs ++ [a'])) :: r)) : Sv K E X (tDrop (tBM K "list" rAppend (tVar 20) (tCons te tNil))) (s0 :: s1 :: s2 :: s3 :: s4 :: s5 :: s6 :: s7 :: s8 :: s9 :: s10 :: s11 :: s12 :: s13 :: s14 :: s15 :: s16 :: s17 :: s18 :: s19 :: some (.own xs) :: r) ⟨nx, rt, bk, ct⟩ := sv_append (n := 20) rfl h
theorem sv_f20 {s0 s1 s2 s3 s4 s5 s6 s7 s8 s9 s10 s11 s12 s13 s14 s15 s16 s17 s18 s19 : Option AV} {t : TS} (h : Sv K E X t (s0 :: s1 :: s2 :: s3 :: s4 :: s5 :: s6 :: s7 :: s8 :: s9 :: s10 :: s11 :: s12 :: s13 :: s14 :: s15 :: s16 :: s17 :: s18 :: s19 :: some (.d a.data) :: r) ⟨nx, rt, bk, ct⟩) : Sv K E X t (s0 :: s1 :: s2 :: s3 :: s4 :: s5 :: s6 :: s7 :: s8 :: s9 :: s10 :: s11 :: s12 :: s13 :: s14 :: s15 :: s16 :: s17 :: s18 :: s19 :: some a :: r) ⟨nx, rt, bk, ct⟩ := sv_frz 20 rfl h
theorem sv_ro20 {s0 s1 s2 s3 s4 s5 s6 s7 s8 s9 s10 s11 s12 s13 s14 s15 s16 s17 s18 s19 : Option AV} {xs : List AV} (q : rt (.av (.own xs))) : Sv K E X (tRet (tVar 20)) (s0 :: s1 :: s2 :: s3 :: s4 :: s5 :: s6 :: s7 :: s8 :: s9 :: s10 :: s11 :: s12 :: s13 :: s14 :: s15 :: s16 :: s17 :: s18 :: s19 :: some (.own xs) :: r) ⟨nx, rt, bk, ct⟩ := sv_retO rfl q
theorem sv_rv20 {s0 s1 s2 s3 s4 s5 s6 s7 s8 s9 s10 s11 s12 s13 s14 s15 s16 s17 s18 s19 : Option AV} {xs : List AV} (h : nx (s0 :: s1 :: s2 :: s3 :: s4 :: s5 :: s6 :: s7 :: s8 :: s9 :: s10 :: s11 :: s12 :: s13 :: s14 :: s15 :: s16 :: s17 :: s18 :: s19 :: some (.own xs.reverse) :: r)) : Sv K E X (tDrop (tBM0 K "list" rReverse (tVar 20))) (s0 :: s1 :: s2 :: s3 :: s4 :: s5 :: s6 :: s7 :: s8 :: s9 :: s10 :: s11 :: s12 :: s13 :: s14 :: s15 :: s16 :: s17 :: s18 :: s19 :: some (.own xs) :: r) ⟨nx, rt, bk, ct⟩ := sv_reverse (n := 20) rfl h
theorem wk_20 {s0 s1 s2 s3 s4 s5 s6 s7 s8 s9 s10 s11 s12 s13 s14 s15 s16 s17 s18 s19 : Option AV} {o : Option AV} : Wk (s0 :: s1 :: s2 :: s3 :: s4 :: s5 :: s6 :: s7 :: s8 :: s9 :: s10 :: s11 :: s12 :: s13 :: s14 :: s15 :: s16 :: s17 :: s18 :: s19 :: o :: r) (s0 :: s1 :: s2 :: s3 :: s4 :: s5 :: s6 :: s7 :: s8 :: s9 :: s10 :: s11 :: s12 :: s13 :: s14 :: s15 :: s16 :: s17 :: s18 :: s19 :: none :: r) := fun _ _ _ _ _ _ s => s.drop (i := 20)
theorem sv_st20 {s0 s1 s2 s3 s4 s5 s6 s7 s8 s9 s10 s11 s12 s13 s14 s15 s16 s17 s18 s19 : Option AV} {xs : List AV} {ti : TE} (h : Ev K E X te (s0 :: s1 :: s2 :: s3 :: s4 :: s5 :: s6 :: s7 :: s8 :: s9 :: s10 :: s11 :: s12 :: s13 :: s14 :: s15 :: s16 :: s17 :: s18 :: s19 :: some (.own xs) :: r) fun a => Ev K E X ti (s0 :: s1 :: s2 :: s3 :: s4 :: s5 :: s6 :: s7 :: s8 :: s9 :: s10 :: s11 :: s12 :: s13 :: s14 :: s15 :: s16 :: s17 :: s18 :: s19 :: some (.own xs) :: r) fun b => ∃ a' k j, a.sto = some a' ∧ b = .av (.d (.int k)) ∧ ixN xs.length k = some j ∧ nx (s0 :: s1 :: s2 :: s3 :: s4 :: s5 :: s6 :: s7 :: s8 :: s9 :: s10 :: s11 :: s12 :: s13 :: s14 :: s15 :: s16 :: s17 :: s18 :: s19 :: some (.own (xs.set j a')) :: r)) : Sv K E X (tAsg te (gSub (tVar 20) ti rSetL)) (s0 :: s1 :: s2 :: s3 :: s4 :: s5 :: s6 :: s7 :: s8 :: s9 :: s10 :: s11 :: s12 :: s13 :: s14 :: s15 :: s16 :: s17 :: s18 :: s19 :: some (.own xs) :: r) ⟨nx, rt, bk, ct⟩ := sv_setitem (n := 20) rfl h
theorem sv_d20 {s0 s1 s2 s3 s4 s5 s6 s7 s8 s9 s10 s11 s12 s13 s14 s15 s16 s17 s18 s19 : Option AV} {t : TS} {o : Option AV} (h : Sv K E X t (s0 :: s1 :: s2 :: s3 :: s4 :: s5 :: s6 :: s7 :: s8 :: s9 :: s10 :: s11 :: s12 :: s13 :: s14 :: s15 :: s16 :: s17 :: s18 :: s19 :: none :: r) ⟨nx, rt, bk, ct⟩) : Sv K E X t (s0 :: s1 :: s2 :: s3 :: s4 :: s5 :: s6 :: s7 :: s8 :: s9 :: s10 :: s11 :: s12 :: s13 :: s14 :: s15 :: s16 :: s17 :: s18 :: s19 :: o :: r) ⟨nx, rt, bk, ct⟩ := sv_wk (fun _ _ _ _ _ _ s => s.drop (i := 20)) h
theorem ev_v21 {s0 s1 s2 s3 s4 s5 s6 s7 s8 s9 s10 s11 s12 s13 s14 s15 s16 s17 s18 s19 s20 : Option AV} (q : Q (.av (.d x))) : Ev K E X (tVar 21) (s0 :: s1 :: s2 :: s3 :: s4 :: s5 :: s6 :: s7 :: s8 :: s9 :: s10 :: s11 :: s12 :: s13 :: s14 :: s15 :: s16 :: s17 :: s18 :: s19 :: s20 :: some (.d x) :: r) Q := ev_var rfl q
theorem ev_o21 {s0 s1 s2 s3 s4 s5 s6 s7 s8 s9 s10 s11 s12 s13 s14 s15 s16 s17 s18 s19 s20 : Option AV} {xs : List AV} (q : Q (.bor (.list (AV.datas xs)))) : Ev K E X (tVar 21) (s0 :: s1 :: s2 :: s3 :: s4 :: s5 :: s6 :: s7 :: s8 :: s9 :: s10 :: s11 :: s12 :: s13 :: s14 :: s15 :: s16 :: s17 :: s18 :: s19 :: s20 :: some (.own xs) :: r) Q := ev_varB rfl q
theorem sv_a21 {s0 s1 s2 s3 s4 s5 s6 s7 s8 s9 s10 s11 s12 s13 s14 s15 s16 s17 s18 s19 s20 : Option AV} {o : Option AV} (h : Ev K E X te (s0 :: s1 :: s2 :: s3 :: s4 :: s5 :: s6 :: s7 :: s8 :: s9 :: s10 :: s11 :: s12 :: s13 :: s14 :: s15 :: s16 :: s17 :: s18 :: s19 :: s20 :: o :: r) fun a => ∃ a', Sto (s0 :: s1 :: s2 :: s3 :: s4 :: s5 :: s6 :: s7 :: s8 :: s9 :: s10 :: s11 :: s12 :: s13 :: s14 :: s15 :: s16 :: s17 :: s18 :: s19 :: s20 :: o :: r) a a' ∧ nx (s0 :: s1 :: s2 :: s3 :: s4 :: s5 :: s6 :: s7 :: s8 :: s9 :: s10 :: s11 :: s12 :: s13 :: s14 :: s15 :: s16 :: s17 :: s18 :: s19 :: s20 :: some a' :: r)) : Sv K E X (tAsg te (gName 21)) (s0 :: s1 :: s2 :: s3 :: s4 :: s5 :: s6 :: s7 :: s8 :: s9 :: s10 :: s11 :: s12 :: s13 :: s14 :: s15 :: s16 :: s17 :: s18 :: s19 :: s20 :: o :: r) ⟨nx, rt, bk, ct⟩ := sv_asg (n := 21) h (by simp only [List.length_cons]; omega)
theorem gv_21 {s0 s1 s2 s3 s4 s5 s6 s7 s8 s9 s10 s11 s12 s13 s14 s15 s16 s17 s18 s19 s20 : Option AV} {o : Option AV} {P : Sl → Prop} (h : P (s0 :: s1 :: s2 :: s3 :: s4 :: s5 :: s6 :: s7 :: s8 :: s9 :: s10 :: s11 :: s12 :: s13 :: s14 :: s15 :: s16 :: s17 :: s18 :: s19 :: s20 :: some (.d x) :: r)) : Gv K (gName 21) x (s0 :: s1 :: s2 :: s3 :: s4 :: s5 :: s6 :: s7 :: s8 :: s9 :: s10 :: s11 :: s12 :: s13 :: s14 :: s15 :: s16 :: s17 :: s18 :: s19 :: s20 :: o :: r) P := gv_name (n := 21) h (by simp only [List.length_cons]; omega)
theorem sv_ap21 {s0 s1 s2 s3 s4 s5 s6 s7 s8 s9 s10 s11 s12 s13 s14 s15 s16 s17 s18 s19 s20 : Option AV} {xs : List AV} (h : Ev K E X te (s0 :: s1 :: s2 :: s3 :: s4 :: s5 :: s6 :: s7 :: s8 :: s9 :: s10 :: s11 :: s12 :: s13 :: s14 :: s15 :: s16 :: s17 :: s18 :: s19 :: s20 :: some (.own xs) :: r) fun a => ∃ a', a.sto = some a' ∧ xs.length ≤ 1000000 ∧ nx (s0 :: s1 :: s2 :: s3 :: s4 :: s5 :: s6 :: s7 :: s8 :: s9 :: s10 :: s11 :: s12 :: s13 :: s14 :: s15 :: s16 :: s17 :: s18 :: s19 :: s20 :: some (.own (xs ++ [a'])) :: r)) : Sv K E X (tDrop (tBM K "list" rAppend (tVar 21) (tCons te tNil))) (s0 :: s1 :: s2 :: s3 :: s4 :: s5 :: s6 :: s7 :: s8 :: s9 :: s10 :: s11 :: s12 :: s13 :: s14 :: s15 :: s16 :: s17 :: s18 :: s19 :: s20 :: some (.own xs) :: r) ⟨nx, rt, bk, ct⟩ := sv_append (n := 21) rfl h
theorem sv_f21 {s0 s1 s2 s3 s4 s5 s6 s7 s8 s9 s10 s11 s12 s13 s14 s15 s16 s17 s18 s19 s20 : Option AV} {t : TS} (h : Sv K E X t (s0 :: s1 :: s2 :: s3 :: s4 :: s5 :: s6 :: s7 :: s8 :: s9 :: s10 :: s11 :: s12 :: s13 :: s14 :: s15 :: s16 :: s17 :: s18 :: s19 :: s20 :: some (.d a.data) :: r) ⟨nx, rt, bk, ct⟩) : Sv K E X t (s0 :: s1 :: s2 :: s3 :: s4 :: s5 :: s6 :: s7 :: s8 :: s9 :: s10 :: s11 :: s12 :: s13 :: s14 :: s15 :: s16 :: s17 :: s18 :: s19 :: s20 :: some a :: r) ⟨nx, rt, bk, ct⟩ := sv_frz 21 rfl h
theorem sv_ro21 {s0 s1 s2 s3 s4 s5 s6 s7 s8 s9 s10 s11 s12 s13 s14 s15 s16 s17 s18 s19 s20 : Option AV} {xs : List AV} (q : rt (.av (.own xs))) : Sv K E X (tRet (tVar 21)) (s0 :: s1 :: s2 :: s3 :: s4 :: s5 :: s6 :: s7 :: s8 :: s9 :: s10 :: s11 :: s12 :: s13 :: s14 :: s15 :: s16 :: s17 :: s18 :: s19 :: s20 :: some (.own xs) :: r) ⟨nx, rt, bk, ct⟩ := sv_retO rfl q
theorem sv_rv21 {s0 s1 s2 s3 s4 s5 s6 s7 s8 s9 s10 s11 s12 s13 s14 s15 s16 s17 s18 s19 s20 : Option AV} {xs : List AV} (h : nx (s0 :: s1 :: s2 :: s3 :: s4 :: s5 :: s6 :: s7 :: s8 :: s9 :: s10 :: s11 :: s12 :: s13 :: s14 :: s15 :: s16 :: s17 :: s18 :: s19 :: s20 :: some (.own xs.reverse) :: r)) : Sv K E X (tDrop (tBM0 K "list" rReverse (tVar 21))) (s0 :: s1 :: s2 :: s3 :: s4 :: s5 :: s6 :: s7 :: s8 :: s9 :: s10 :: s11 :: s12 :: s13 :: s14 :: s15 :: s16 :: s17 :: s18 :: s19 :: s20 :: some (.own xs) :: r) ⟨nx, rt, bk, ct⟩ := sv_reverse (n := 21) rfl h
theorem wk_21 {s0 s1 s2 s3 s4 s5 s6 s7 s8 s9 s10 s11 s12 s13 s14 s15 s16 s17 s18 s19 s20 : Option AV} {o : Option AV} : Wk (s0 :: s1 :: s2 :: s3 :: s4 :: s5 :: s6 :: s7 :: s8 :: s9 :: s10 :: s11 :: s12 :: s13 :: s14 :: s15 :: s16 :: s17 :: s18 :: s19 :: s20 :: o :: r) (s0 :: s1 :: s2 :: s3 :: s4 :: s5 :: s6 :: s7 :: s8 :: s9 :: s10 :: s11 :: s12 :: s13 :: s14 :: s15 :: s16 :: s17 :: s18 :: s19 :: s20 :: none :: r) := fun _ _ _ _ _ _ s => s.drop (i := 21)
theorem sv_st21 {s0 s1 s2 s3 s4 s5 s6 s7 s8 s9 s10 s11 s12 s13 s14 s15 s16 s17 s18 s19 s20 : Option AV} {xs : List AV} {ti : TE} (h : Ev K E X te (s0 :: s1 :: s2 :: s3 :: s4 :: s5 :: s6 :: s7 :: s8 :: s9 :: s10 :: s11 :: s12 :: s13 :: s14 :: s15 :: s16 :: s17 :: s18 :: s19 :: s20 :: some (.own xs) :: r) fun a => Ev K E X ti (s0 :: s1 :: s2 :: s3 :: s4 :: s5 :: s6 :: s7 :: s8 :: s9 :: s10 :: s11 :: s12 :: s13 :: s14 :: s15 :: s16 :: s17 :: s18 :: s19 :: s20 :: some (.own xs) :: r) fun b => ∃ a' k j, a.sto = some a' ∧ b = .av (.d (.int k)) ∧ ixN xs.length k = some j ∧ nx (s0 :: s1 :: s2 :: s3 :: s4 :: s5 :: s6 :: s7 :: s8 :: s9 :: s10 :: s11 :: s12 :: s13 :: s14 :: s15 :: s16 :: s17 :: s18 :: s19 :: s20 :: some (.own (xs.set j a')) :: r)) : Sv K E X (tAsg te (gSub (tVar 21) ti rSetL)) (s0 :: s1 :: s2 :: s3 :: s4 :: s5 :: s6 :: s7 :: s8 :: s9 :: s10 :: s11 :: s12 :: s13 :: s14 :: s15 :: s16 :: s17 :: s18 :: s19 :: s20 :: some (.own xs) :: r) ⟨nx, rt, bk, ct⟩ := sv_setitem (n := 21) rfl h
theorem sv_d21 {s0 s1 s2 s3 s4 s5 s6 s7 s8 s9 s10 s11 s12 s13 s14 s15 s16 s17 s18 s19 s20 : Option AV} {t : TS} {o : Option AV} (h : Sv K E X t (s0 :: s1 :: s2 :: s3 :: s4 :: s5 :: s6 :: s7 :: s8 :: s9 :: s10 :: s11 :: s12 :: s13 :: s14 :: s15 :: s16 :: s17 :: s18 :: s19 :: s20 :: none :: r) ⟨nx, rt, bk, ct⟩) : Sv K E X t (s0 :: s1 :: s2 :: s3 :: s4 :: s5 :: s6 :: s7 :: s8 :: s9 :: s10 :: s11 :: s12 :: s13 :: s14 :: s15 :: s16 :: s17 :: s18 :: s19 :: s20 :: o :: r) ⟨nx, rt, bk, ct⟩ := sv_wk (fun _ _ _ _ _ _ s => s.drop (i := 21)) h
theorem ev_v22 {s0 s1 s2 s3 s4 s5 s6 s7 s8 s9 s10 s11 s12 s13 s14 s15 s16 s17 s18 s19 s20 s21 : Option AV} (q : Q (.av (.d x))) : Ev K E X (tVar 22) (s0 :: s1 :: s2 :: s3 :: s4 :: s5 :: s6 :: s7 :: s8 :: s9 :: s10 :: s11 :: s12 :: s13 :: s14 :: s15 :: s16 :: s17 :: s18 :: s19 :: s20 :: s21 :: some (.d x) :: r) Q := ev_var rfl q
theorem ev_o22 {s0 s1 s2 s3 s4 s5 s6 s7 s8 s9 s10 s11 s12 s13 s14 s15 s16 s17 s18 s19 s20 s21 : Option AV} {xs : List AV} (q : Q (.bor (.list (AV.datas xs)))) : Ev K E X (tVar 22) (s0 :: s1 :: s2 :: s3 :: s4 :: s5 :: s6 :: s7 :: s8 :: s9 :: s10 :: s11 :: s12 :: s13 :: s14 :: s15 :: s16 :: s17 :: s18 :: s19 :: s20 :: s21 :: some (.own xs) :: r) Q := ev_varB rfl q
theorem sv_a22 {s0 s1 s2 s3 s4 s5 s6 s7 s8 s9 s10 s11 s12 s13 s14 s15 s16 s17 s18 s19 s20 s21 : Option AV} {o : Option AV} (h : Ev K E X te (s0 :: s1 :: s2 :: s3 :: s4 :: s5 :: s6 :: s7 :: s8 :: s9 :: s10 :: s11 :: s12 :: s13 :: s14 :: s15 :: s16 :: s17 :: s18 :: s19 :: s20 :: s21 :: o :: r) fun a => ∃ a', Sto (s0 :: s1 :: s2 :: s3 :: s4 :: s5 :: s6 :: s7 :: s8 :: s9 :: s10 :: s11 :: s12 :: s13 :: s14 :: s15 :: s16 :: s17 :: s18 :: s19 :: s20 :: s21 :: o :: r) a a' ∧ nx (s0 :: s1 :: s2 :: s3 :: s4 :: s5 :: s6 :: s7 :: s8 :: s9 :: s10 :: s11 :: s12 :: s13 :: s14 :: s15 :: s16 :: s17 :: s18 :: s19 :: s20 :: s21 :: some a' :: r)) : Sv K E X (tAsg te (gName 22)) (s0 :: s1 :: s2 :: s3 :: s4 :: s5 :: s6 :: s7 :: s8 :: s9 :: s10 :: s11 :: s12 :: s13 :: s14 :: s15 :: s16 :: s17 :: s18 :: s19 :: s20 :: s21 :: o :: r) ⟨nx, rt, bk, ct⟩ := sv_asg (n := 22) h (by simp only [List.length_cons]; omega)
theorem gv_22 {s0 s1 s2 s3 s4 s5 s6 s7 s8 s9 s10 s11 s12 s13 s14 s15 s16 s17 s18 s19 s20 s21 : Option AV} {o : Option AV} {P : Sl → Prop} (h : P (s0 :: s1 :: s2 :: s3 :: s4 :: s5 :: s6 :: s7 :: s8 :: s9 :: s10 :: s11 :: s12 :: s13 :: s14 :: s15 :: s16 :: s17 :: s18 :: s19 :: s20 :: s21 :: some (.d x) :: r)) : Gv K (gName 22) x (s0 :: s1 :: s2 :: s3 :: s4 :: s5 :: s6 :: s7 :: s8 :: s9 :: s10 :: s11 :: s12 :: s13 :: s14 :: s15 :: s16 :: s17 :: s18 :: s19 :: s20 :: s21 :: o :: r) P := gv_name (n := 22) h (by simp only [List.length_cons]; omega)
theorem sv_ap22 {s0 s1 s2 s3 s4 s5 s6 s7 s8 s9 s10 s11 s12 s13 s14 s15 s16 s17 s18 s19 s20 s21 : Option AV} {xs : List AV} (h : Ev K E X te (s0 :: s1 :: s2 :: s3 :: s4 :: s5 :: s6 :: s7 :: s8 :: s9 :: s10 :: s11 :: s12 :: s13 :: s14 :: s15 :: s16 :: s17 :: s18 :: s19 :: s20 :: s21 :: some (.own xs) :: r) fun a => ∃ a', a.sto = some a' ∧ xs.length ≤ 1000000 ∧ nx (s0 :: s1 :: s2 :: s3 :: s4 :: s5 :: s6 :: s7 :: s8 :: s9 :: s10 :: s11 :: s12 :: s13 :: s14 :: s15 :: s16 :: s17 :: s18 :: s19 :: s20 :: s21 :: some (.own (xs ++ [a'])) :: r)) : Sv K E X (tDrop (tBM K "list" rAppend (tVar 22) (tCons te tNil))) (s0 :: s1 :: s2 :: s3 :: s4 :: s5 :: s6 :: s7 :: s8 :: s9 :: s10 :: s11 :: s12 :: s13 :: s14 :: s15 :: s16 :: s17 :: s18 :: s19 :: s20 :: s21 :: some (.own xs) :: r) ⟨nx, rt, bk, ct⟩ := sv_append (n := 22) rfl h
theorem sv_f22 {s0 s1 s2 s3 s4 s5 s6 s7 s8 s9 s10 s11 s12 s13 s14 s15 s16 s17 s18 s19 s20 s21 : Option AV} {t : TS} (h : Sv K E X t (s0 :: s1 :: s2 :: s3 :: s4 :: s5 :: s6 :: s7 :: s8 :: s9 :: s10 :: s11 :: s12 :: s13 :: s14 :: s15 :: s16 :: s17 :: s18 :: s19 :: s20 :: s21 :: some (.d a.data) :: r) ⟨nx, rt, bk, ct⟩) : Sv K E X t (s0 :: s1 :: s2 :: s3 :: s4 :: s5 :: s6 :: s7 :: s8 :: s9 :: s10 :: s11 :: s12 :: s13 :: s14 :: s15 :: s16 :: s17 :: s18 :: s19 :: s20 :: s21 :: some a :: r) ⟨nx, rt, bk, ct⟩ := sv_frz 22 rfl h
theorem sv_ro22 {s0 s1 s2 s3 s4 s5 s6 s7 s8 s9 s10 s11 s12 s13 s14 s15 s16 s17 s18 s19 s20 s21 : Option AV} {xs : List AV} (q : rt (.av (.own xs))) : Sv K E X (tRet (tVar 22)) (s0 :: s1 :: s2 :: s3 :: s4 :: s5 :: s6 :: s7 :: s8 :: s9 :: s10 :: s11 :: s12 :: s13 :: s14 :: s15 :: s16 :: s17 :: s18 :: s19 :: s20 :: s21 :: some (.own xs) :: r) ⟨nx, rt, bk, ct⟩ := sv_retO rfl q
theorem sv_rv22 {s0 s1 s2 s3 s4 s5 s6 s7 s8 s9 s10 s11 s12 s13 s14 s15 s16 s17 s18 s19 s20 s21 : Option AV} {xs : List AV} (h : nx (s0 :: s1 :: s2 :: s3 :: s4 :: s5 :: s6 :: s7 :: s8 :: s9 :: s10 :: s11 :: s12 :: s13 :: s14 :: s15 :: s16 :: s17 :: s18 :: s19 :: s20 :: s21 :: some (.own xs.reverse) :: r)) : Sv K E X (tDrop (tBM0 K "list" rReverse (tVar 22))) (s0 :: s1 :: s2 :: s3 :: s4 :: s5 :: s6 :: s7 :: s8 :: s9 :: s10 :: s11 :: s12 :: s13 :: s14 :: s15 :: s16 :: s17 :: s18 :: s19 :: s20 :: s21 :: some (.own xs) :: r) ⟨nx, rt, bk, ct⟩ := sv_reverse (n := 22) rfl h
theorem wk_22 {s0 s1 s2 s3 s4 s5 s6 s7 s8 s9 s10 s11 s12 s13 s14 s15 s16 s17 s18 s19 s20 s21 : Option AV} {o : Option AV} : Wk (s0 :: s1 :: s2 :: s3 :: s4 :: s5 :: s6 :: s7 :: s8 :: s9 :: s10 :: s11 :: s12 :: s13 :: s14 :: s15 :: s16 :: s17 :: s18 :: s19 :: s20 :: s21 :: o :: r) (s0 :: s1 :: s2 :: s3 :: s4 :: s5 :: s6 :: s7 :: s8 :: s9 :: s10 :: s11 :: s12 :: s13 :: s14 :: s15 :: s16 :: s17 :: s18 :: s19 :: s20 :: s21 :: none :: r) := fun _ _ _ _ _ _ s => s.drop (i := 22)
theorem sv_st22 {s0 s1 s2 s3 s4 s5 s6 s7 s8 s9 s10 s11 s12 s13 s14 s15 s16 s17 s18 s19 s20 s21 : Option AV} {xs : List AV} {ti : TE} (h : Ev K E X te (s0 :: s1 :: s2 :: s3 :: s4 :: s5 :: s6 :: s7 :: s8 :: s9 :: s10 :: s11 :: s12 :: s13 :: s14 :: s15 :: s16 :: s17 :: s18 :: s19 :: s20 :: s21 :: some (.own xs) :: r) fun a => Ev K E X ti (s0 :: s1 :: s2 :: s3 :: s4 :: s5 :: s6 :: s7 :: s8 :: s9 :: s10 :: s11 :: s12 :: s13 :: s14 :: s15 :: s16 :: s17 :: s18 :: s19 :: s20 :: s21 :: some (.own xs) :: r) fun b => ∃ a' k j, a.sto = some a' ∧ b = .av (.d (.int k)) ∧ ixN xs.length k = some j ∧ nx (s0 :: s1 :: s2 :: s3 :: s4 :: s5 :: s6 :: s7 :: s8 :: s9 :: s10 :: s11 :: s12 :: s13 :: s14 :: s15 :: s16 :: s17 :: s18 :: s19 :: s20 :: s21 :: some (.own (xs.set j a')) :: r)) : Sv K E X (tAsg te (gSub (tVar 22) ti rSetL)) (s0 :: s1 :: s2 :: s3 :: s4 :: s5 :: s6 :: s7 :: s8 :: s9 :: s10 :: s11 :: s12 :: s13 :: s14 :: s15 :: s16 :: s17 :: s18 :: s19 :: s20 :: s21 :: some (.own xs) :: r) ⟨nx, rt, bk, ct⟩ := sv_setitem (n := 22) rfl h
theorem sv_d22 {s0 s1 s2 s3 s4 s5 s6 s7 s8 s9 s10 s11 s12 s13 s14 s15 s16 s17 s18 s19 s20 s21 : Option AV} {t : TS} {o : Option AV} (h : Sv K E X t (s0 :: s1 :: s2 :: s3 :: s4 :: s5 :: s6 :: s7 :: s8 :: s9 :: s10 :: s11 :: s12 :: s13 :: s14 :: s15 :: s16 :: s17 :: s18 :: s19 :: s20 :: s21 :: none :: r) ⟨nx, rt, bk, ct⟩) : Sv K E X t (s0 :: s1 :: s2 :: s3 :: s4 :: s5 :: s6 :: s7 :: s8 :: s9 :: s10 :: s11 :: s12 :: s13 :: s14 :: s15 :: s16 :: s17 :: s18 :: s19 :: s20 :: s21 :: o :: r) ⟨nx, rt, bk, ct⟩ := sv_wk (fun _ _ _ _ _ _ s => s.drop (i := 22)) h
theorem ev_v23 {s0 s1 s2 s3 s4 s5 s6 s7 s8 s9 s10 s11 s12 s13 s14 s15 s16 s17 s18 s19 s20 s21 s22 : Option AV} (q : Q (.av (.d x))) : Ev K E X (tVar 23) (s0 :: s1 :: s2 :: s3 :: s4 :: s5 :: s6 :: s7 :: s8 :: s9 :: s10 :: s11 :: s12 :: s13 :: s14 :: s15 :: s16 :: s17 :: s18 :: s19 :: s20 :: s21 :: s22 :: some (.d x) :: r) Q := ev_var rfl q
theorem ev_o23 {s0 s1 s2 s3 s4 s5 s6 s7 s8 s9 s10 s11 s12 s13 s14 s15 s16 s17 s18 s19 s20 s21 s22 : Option AV} {xs : List AV} (q : Q (.bor (.list (AV.datas xs)))) : Ev K E X (tVar 23) (s0 :: s1 :: s2 :: s3 :: s4 :: s5 :: s6 :: s7 :: s8 :: s9 :: s10 :: s11 :: s12 :: s13 :: s14 :: s15 :: s16 :: s17 :: s18 :: s19 :: s20 :: s21 :: s22 :: some (.own xs) :: r) Q := ev_varB rfl q
theorem sv_a23 {s0 s1 s2 s3 s4 s5 s6 s7 s8 s9 s10 s11 s12 s13 s14 s15 s16 s17 s18 s19 s20 s21 s22 : Option AV} {o : Option AV} (h : Ev K E X te (s0 :: s1 :: s2 :: s3 :: s4 :: s5 :: s6 :: s7 :: s8 :: s9 :: s10 :: s11 :: s12 :: s13 :: s14 :: s15 :: s16 :: s17 :: s18 :: s19 :: s20 :: s21 :: s22 :: o :: r) fun a => ∃ a', Sto (s0 :: s1 :: s2 :: s3 :: s4 :: s5 :: s6 :: s7 :: s8 :: s9 :: s10 :: s11 :: s12 :: s13 :: s14 :: s15 :: s16 :: s17 :: s18 :: s19 :: s20 :: s21 :: s22 :: o :: r) a a' ∧ nx (s0 :: s1 :: s2 :: s3 :: s4 :: s5 :: s6 :: s7 :: s8 :: s9 :: s10 :: s11 :: s12 :: s13 :: s14 :: s15 :: s16 :: s17 :: s18 :: s19 :: s20 :: s21 :: s22 :: some a' :: r)) : Sv K E X (tAsg te (gName 23)) (s0 :: s1 :: s2 :: s3 :: s4 :: s5 :: s6 :: s7 :: s8 :: s9 :: s10 :: s11 :: s12 :: s13 :: s14 :: s15 :: s16 :: s17 :: s18 :: s19 :: s20 :: s21 :: s22 :: o :: r) ⟨nx, rt, bk, ct⟩ := sv_asg (n := 23) h (by simp only [List.length_cons]; omega)
theorem gv_23 {s0 s1 s2 s3 s4 s5 s6 s7 s8 s9 s10 s11 s12 s13 s14 s15 s16 s17 s18 s19 s20 s21 s22 : Option AV} {o : Option AV} {P : Sl → Prop} (h : P (s0 :: s1 :: s2 :: s3 :: s4 :: s5 :: s6 :: s7 :: s8 :: s9 :: s10 :: s11 :: s12 :: s13 :: s14 :: s15 :: s16 :: s17 :: s18 :: s19 :: s20 :: s21 :: s22 :: some (.d x) :: r)) : Gv K (gName 23) x (s0 :: s1 :: s2 :: s3 :: s4 :: s5 :: s6 :: s7 :: s8 :: s9 :: s10 :: s11 :: s12 :: s13 :: s14 :: s15 :: s16 :: s17 :: s18 :: s19 :: s20 :: s21 :: s22 :: o :: r) P := gv_name (n := 23) h (by simp only [List.length_cons]; omega)
theorem sv_ap23 {s0 s1 s2 s3 s4 s5 s6 s7 s8 s9 s10 s11 s12 s13 s14 s15 s16 s17 s18 s19 s20 s21 s22 : Option AV} {xs : List AV} (h : Ev K E X te (s0 :: s1 :: s2 :: s3 :: s4 :: s5 :: s6 :: s7 :: s8 :: s9 :: s10 :: s11 :: s12 :: s13 :: s14 :: s15 :: s16 :: s17 :: s18 :: s19 :: s20 :: s21 :: s22 :: some (.own xs) :: r) fun a => ∃ a', a.sto = some a' ∧ xs.length ≤ 1000000 ∧ nx (s0 :: s1 :: s2 :: s3 :: s4 :: s5 :: s6 :: s7 :: s8 :: s9 :: s10 :: s11 :: s12 :: s13 :: s14 :: s15 :: s16 :: s17 :: s18 :: s19 :: s20 :: s21 :: s22 :: some (.own (xs ++ [a'])) :: r)) : Sv K E X (tDrop (tBM K "list" rAppend (tVar 23) (tCons te tNil))) (s0 :: s1 :: s2 :: s3 :: s4 :: s5 :: s6 :: s7 :: s8 :: s9 :: s10 :: s11 :: s12 :: s13 :: s14 :: s15 :: s16 :: s17 :: s18 :: s19 :: s20 :: s21 :: s22 :: some (.own xs) :: r) ⟨nx, rt, bk, ct⟩ := sv_append (n := 23) rfl h
theorem sv_f23 {s0 s1 s2 s3 s4 s5 s6 s7 s8 s9 s10 s11 s12 s13 s14 s15 s16 s17 s18 s19 s20 s21 s22 : Option AV} {t : TS} (h : Sv K E X t (s0 :: s1 :: s2 :: s3 :: s4 :: s5 :: s6 :: s7 :: s8 :: s9 :: s10 :: s11 :: s12 :: s13 :: s14 :: s15 :: s16 :: s17 :: s18 :: s19 :: s20 :: s21 :: s22 :: some (.d a.data) :: r) ⟨nx, rt, bk, ct⟩) : Sv K E X t (s0 :: s1 :: s2 :: s3 :: s4 :: s5 :: s6 :: s7 :: s8 :: s9 :: s10 :: s11 :: s12 :: s13 :: s14 :: s15 :: s16 :: s17 :: s18 :: s19 :: s20 :: s21 :: s22 :: some a :: r) ⟨nx, rt, bk, ct⟩ := sv_frz 23 rfl h
theorem sv_ro23 {s0 s1 s2 s3 s4 s5 s6 s7 s8 s9 s10 s11 s12 s13 s14 s15 s16 s17 s18 s19 s20 s21 s22 : Option AV} {xs : List AV} (q : rt (.av (.own xs))) : Sv K E X (tRet (tVar 23)) (s0 :: s1 :: s2 :: s3 :: s4 :: s5 :: s6 :: s7 :: s8 :: s9 :: s10 :: s11 :: s12 :: s13 :: s14 :: s15 :: s16 :: s17 :: s18 :: s19 :: s20 :: s21 :: s22 :: some (.own xs) :: r) ⟨nx, rt, bk, ct⟩ := sv_retO rfl q
theorem sv_rv23 {s0 s1 s2 s3 s4 s5 s6 s7 s8 s9 s10 s11 s12 s13 s14 s15 s16 s17 s18 s19 s20 s21 s22 : Option AV} {xs : List AV} (h : nx (s0 :: s1 :: s2 :: s3 :: s4 :: s5 :: s6 :: s7 :: s8 :: s9 :: s10 :: s11 :: s12 :: s13 :: s14 :: s15 :: s16 :: s17 :: s18 :: s19 :: s20 :: s21 :: s22 :: some (.own xs.reverse) :: r)) : Sv K E X (tDrop (tBM0 K "list" rReverse (tVar 23))) (s0 :: s1 :: s2 :: s3 :: s4 :: s5 :: s6 :: s7 :: s8 :: s9 :: s10 :: s11 :: s12 :: s13 :: s14 :: s15 :: s16 :: s17 :: s18 :: s19 :: s20 :: s21 :: s22 :: some (.own xs) :: r) ⟨nx, rt, bk, ct⟩ := sv_reverse (n := 23) rfl h
theorem wk_23 {s0 s1 s2 s3 s4 s5 s6 s7 s8 s9 s10 s11 s12 s13 s14 s15 s16 s17 s18 s19 s20 s21 s22 : Option AV} {o : Option AV} : Wk (s0 :: s1 :: s2 :: s3 :: s4 :: s5 :: s6 :: s7 :: s8 :: s9 :: s10 :: s11 :: s12 :: s13 :: s14 :: s15 :: s16 :: s17 :: s18 :: s19 :: s20 :: s21 :: s22 :: o :: r) (s0 :: s1 :: s2 :: s3 :: s4 :: s5 :: s6 :: s7 :: s8 :: s9 :: s10 :: s11 :: s12 :: s13 :: s14 :: s15 :: s16 :: s17 :: s18 :: s19 :: s20 :: s21 :: s22 :: none :: r) := fun _ _ _ _ _ _ s => s.drop (i := 23)
theorem sv_st23 {s0 s1 s2 s3 s4 s5 s6 s7 s8 s9 s10 s11 s12 s13 s14 s15 s16 s17 s18 s19 s20 s21 s22 : Option AV} {xs : List AV} {ti : TE} (h : Ev K E X te (s0 :: s1 :: s2 :: s3 :: s4 :: s5 :: s6 :: s7 :: s8 :: s9 :: s10 :: s11 :: s12 :: s13 :: s14 :: s15 :: s16 :: s17 :: s18 :: s19 :: s20 :: s21 :: s22 :: some (.own xs) :: r) fun a => Ev K E X ti (s0 :: s1 :: s2 :: s3 :: s4 :: s5 :: s6 :: s7 :: s8 :: s9 :: s10 :: s11 :: s12 :: s13 :: s14 :: s15 :: s16 :: s17 :: s18 :: s19 :: s20 :: s21 :: s22 :: some (.own xs) :: r) fun b => ∃ a' k j, a.sto = some a' ∧ b = .av (.d (.int k)) ∧ ixN xs.length k = some j ∧ nx (s0 :: s1 :: s2 :: s3 :: s4 :: s5 :: s6 :: s7 :: s8 :: s9 :: s10 :: s11 :: s12 :: s13 :: s14 :: s15 :: s16 :: s17 :: s18 :: s19 :: s20 :: s21 :: s22 :: some (.own (xs.set j a')) :: r)) : Sv K E X (tAsg te (gSub (tVar 23) ti rSetL)) (s0 :: s1 :: s2 :: s3 :: s4 :: s5 :: s6 :: s7 :: s8 :: s9 :: s10 :: s11 :: s12 :: s13 :: s14 :: s15 :: s16 :: s17 :: s18 :: s19 :: s20 :: s21 :: s22 :: some (.own xs) :: r) ⟨nx, rt, bk, ct⟩ := sv_setitem (n := 23) rfl h
theorem sv_d23 {s0 s1 s2 s3 s4 s5 s6 s7 s8 s9 s10 s11 s12 s13 s14 s15 s16 s17 s18 s19 s20 s21 s22 : Option AV} {t : TS} {o : Option AV} (h : Sv K E X t (s0 :: s1 :: s2 :: s3 :: s4 :: s5 :: s6 :: s7 :: s8 :: s9 :: s10 :: s11 :: s12 :: s13 :: s14 :: s15 :: s16 :: s17 :: s18 :: s19 :: s20 :: s21 :: s22 :: none :: r) ⟨nx, rt, bk, ct⟩) : Sv K E X t (s0 :: s1 :: s2 :: s3 :: s4 :: s5 :: s6 :: s7 :: s8 :: s9 :: s10 :: s11 :: s12 :: s13 :: s14 :: s15 :: s16 :: s17 :: s18 :: s19 :: s20 :: s21 :: s22 :: o :: r) ⟨nx, rt, bk, ct⟩ := sv_wk (fun _ _ _ _ _ _ s => s.drop (i := 23)) h
theorem s_seq {t u : TS} {ρ : Sl} (h : Sv K E X t ρ ⟨fun ρ' => Sv K E X u ρ' ⟨nx, rt, bk, ct⟩, rt, bk, ct⟩) : Sv K E X (tSeq t u) ρ ⟨nx, rt, bk, ct⟩ := sv_seq h
theorem s_next {ρ : Sl} (h : nx ρ) : Sv K E X tNext ρ ⟨nx, rt, bk, ct⟩ := sv_next h
theorem s_break {ρ : Sl} (h : bk ρ) : Sv K E X tBreak ρ ⟨nx, rt, bk, ct⟩ := sv_break h
theorem s_cont {ρ : Sl} (h : ct ρ) : Sv K E X tCont ρ ⟨nx, rt, bk, ct⟩ := sv_cont h
theorem s_drop {ρ : Sl} (h : Ev K E X te ρ fun _ => nx ρ) : Sv K E X (tDrop te) ρ ⟨nx, rt, bk, ct⟩ := sv_drop h
theorem s_ret {ρ : Sl} (h : Ev K E X te ρ rt) : Sv K E X (tRet te) ρ ⟨nx, rt, bk, ct⟩ := sv_ret h
theorem s_retN {ρ : Sl} (h : rt (.av (.d .none))) : Sv K E X tRetN ρ ⟨nx, rt, bk, ct⟩ := sv_retN h
theorem s_if {c : TT} {t u : TS} {ρ : Sl} (h : Tv K E X c ρ fun b => if b = true then Sv K E X t ρ ⟨nx, rt, bk, ct⟩ else Sv K E X u ρ ⟨nx, rt, bk, ct⟩) : Sv K E X (tIfS c t u) ρ ⟨nx, rt, bk, ct⟩ := sv_if h
theorem s_while {tc : TT} {tb : TS} {ρ : Sl} (Iv : Nat → Sl → Prop) (m0 : Nat) (i0 : Iv m0 ρ)
    (h : ∀ m ρ', Iv m ρ' → Tv K E X tc ρ' fun b => if b = true then Sv K E X tb ρ' ⟨fun ρ2 => ∃ m', m' < m ∧ Iv m' ρ2, rt, nx, fun ρ2 => ∃ m', m' < m ∧ Iv m' ρ2⟩ else nx ρ') : Sv K E X (tWhile tc tb) ρ ⟨nx, rt, bk, ct⟩ := sv_while Iv m0 i0 h
theorem s_set {xs : List AV} {ti : TE} {n : Nat} {ρ : Sl} (hi : ρ[n]? = some (some (.own xs))) (h : Ev K E X te ρ fun a => Ev K E X ti ρ fun b => ∃ a' k j, a.sto = some a' ∧ b = .av (.d (.int k)) ∧ ixN xs.length k = some j ∧ nx (ρ.set n (some (.own (xs.set j a'))))) : Sv K E X (tAsg te (gSub (tVar n) ti rSetL)) ρ ⟨nx, rt, bk, ct⟩ := sv_setitem hi h
theorem s_move {m n : Nat} {ρ : Sl} {xs ys : List AV} (hm : ρ[m]? = some (some (.own ys))) (hi : ρ[n]? = some (some (.own xs))) (hne : n ≠ m) (hz : xs.length ≤ 1000000) (q : nx ((ρ.set m none).set n (some (.own (xs ++ [.own ys]))))) : Sv K E X (tDrop (tBM K "list" rAppend (tVar n) (tCons (tVar m) tNil))) ρ ⟨nx, rt, bk, ct⟩ := sv_move hm hi hne hz q
end
end VL
end

section
set_option Elab.async false
set_option linter.all false
set_option maxRecDepth 100000
set_option maxHeartbeats 4000000
namespace L2
open PySem PySem.Spec PyProof.Rows
section
variable {X : Cx} {K : PySem.W.Frag}
def rOr (r r' : R2) : R2 := fun x y H Q => r x y H Q ∨ r' x y H Q
def rStr2 : R2 := fun x y H Q => ∃ i j, x = .str i ∧ y = .str j ∧ i.length + j.length ≤ sizeLine ∧ Q (.str (i ++ j)) H
def rAddI : R2 := rI0 fun i j => .int (i + j)
def rMulI : R2 := rI CMul fun i j => .int (i * j)
theorem op_plus (hK : X.K = K) : OpR X (binaryOp .Add) (rOr rAddI (rOr (rCatS K) (rOr (rCatT K) rStr2))) := op_add.or ((op_catS hK).or ((op_catTK hK).or op_add_str))
theorem op_times : OpR X (binaryOp .Mult) (rOr rMulI rRep) := op_mul.or op_rep
theorem op_equ (hK : X.K = K) (hu : X.A.units + 64 < cLine) : OpR X (compareOp .Eq) (rOr rEq (rEqD K)) := op_eq.or (op_eqDK hK hu)
theorem op_neq (hK : X.K = K) (hu : X.A.units + 64 < cLine) : OpR X (compareOp .NotEq) (rOr rNe (rNeD K)) := op_ne.or (op_neDK hK hu)
theorem ix_any (hK : X.K = K) : IxR X (rOr (rIxL K) (rOr (rIxT K) rIxS)) := by subst hK; exact ix_list.or (ix_tup.or ix_str)
def slOr (r r' : V → Option Int → Option Int → Hp → VK → Prop) : V → Option Int → Option Int → Hp → VK → Prop := fun x lo hi H Q => r x lo hi H Q ∨ r' x lo hi H Q
theorem sl_any (hK : X.K = K) : SlR X (slOr (rSlL K) (rSlT K)) := by subst hK; exact sl_list.or sl_tup
def cOr (r r' : List V → Hp → VK → Prop) : List V → Hp → VK → Prop := fun xs H Q => r xs H Q ∨ r' xs H Q
def rLenS : List V → Hp → VK → Prop := fun xs H Q => ∃ z, xs = [.str z] ∧ z.length ≤ sizeLine ∧ Q (.int z.length) H
theorem call_lenAny (hK : X.K = K) : CallR X (.builtin "len") (cOr (rLen K) rLenS) := by subst hK; exact call_lenS.or call_len_str
def iSeq (K : PySem.W.Frag) (tl : TE) : TI := fun σ H R => tl σ H fun x H1 => ∃ a, x = .ref a ∧ (((∃ xs, SqL K H1 a xs) ∧ R (Itl K a) H1) ∨ ((∃ xs, SqT K H1 a xs) ∧ R (Itt K a) H1))
theorem pi_seq {tg l : Expr} {tl : TE} (hK : X.K = K) (hl : PE X l tl) : PI X tg l (iSeq K tl) := by
  subst hK
  intro pins s σ H R I h
  refine thn (hl pins s σ H _ I h) fun v s1 ⟨x, H1, I1, r1, q1⟩ => ?_
  obtain ⟨a, e, q⟩ := q1
  subst e
  cases r1
  have fr : ∀ b ∈ [s1.heap.objs.size], FpOk X pins H1 b := fun b hb => by
    rw [List.mem_singleton.mp hb]
    exact I1.fpOk (Nat.le_refl _) (I1.hok.fresh (Nat.le_refl _))
  rcases q with ⟨⟨xs, hq⟩, q⟩ | ⟨⟨xs, hq⟩, q⟩
  · obtain ⟨its, _, p, _⟩ := I1.list hq
    exact wpAny_pyIter_list p.isList ⟨s1.heap.objs.size, _, _, _, H1, rfl, I1.kept (t' := s1.toks) fun b o e => Heap.get?_push_of_some _ e, turn_list a _, ⟨_, Heap.get?_push_size _ rfl, rfl, rfl⟩, fr, q⟩
  · obtain ⟨its, _, p, _⟩ := I1.tuple hq
    exact wpAny_pyIter_tuple (show s1.heap.IsTuple a its.toArray from p) ⟨s1.heap.objs.size, _, _, _, H1, rfl, I1.kept (t' := s1.toks) fun b o e => Heap.get?_push_of_some _ e, turn_tuple a _, ⟨_, Heap.get?_push_size _ rfl, rfl, rfl⟩, fr, q⟩
end
end L2
namespace VL
open PySem PySem.Spec L2
section
variable {K : PySem.W.Frag} {E : XK} {X : Exc → Prop} {ρ : Sl} {Q : TV → Prop} {DV : VEnds} {ta tb te : TE} {i j : Int} {n : Nat} {r r' : R2} {t u : TS} {a b : TV}
theorem op_l (h : Op K E X r a b Q) : Op K E X (rOr r r') a b Q := fun H0 σ ρ ts as H x y QV s x' k => .inl (h H0 σ ρ ts as H x y QV s x' k)
theorem op_r (h : Op K E X r' a b Q) : Op K E X (rOr r r') a b Q := fun H0 σ ρ ts as H x y QV s x' k => .inr (h H0 σ ρ ts as H x y QV s x' k)
abbrev rPlus (K : PySem.W.Frag) : R2 := rOr rAddI (rOr (rCatS K) (rOr (rCatT K) rStr2))
theorem add_i (q : Q (.av (.d (.int (i + j))))) : Op K E X (rOr rAddI r') (.av (.d (.int i))) (.av (.d (.int j))) Q := op_l (op_i0 q)
theorem mul_i (c : CMul i j) (q : Q (.av (.d (.int (i * j))))) : Op K E X (rOr rMulI r') (.av (.d (.int i))) (.av (.d (.int j))) Q := op_l (op_i c q)
theorem eq_i (q : Q (.av (.d (.bool (decide (i = j)))))) : Op K E X (rOr rEq r') (.av (.d (.int i))) (.av (.d (.int j))) Q := op_l (op_eqI q)
theorem ne_i (q : Q (.av (.d (.bool (!decide (i = j)))))) : Op K E X (rOr rNe r') (.av (.d (.int i))) (.av (.d (.int j))) Q := op_l (op_neI q)
theorem eq_b {c d : Bool} (q : Q (.av (.d (.bool (decide (c = d)))))) : Op K E X (rOr rEq r') (.av (.d (.bool c))) (.av (.d (.bool d))) Q := op_l (op_eqB q)
theorem eq_d {α : Type} [DecidableEq α] {f : α → PyData} {m : Nat} {c d : α} (F : Enc f m) (ha : a.data = f c) (hb : b.data = f d) (q : Q (.av (.d (.bool (decide (c = d)))))) (na : NR a := by first | exact NR.av | exact NR.bor) (nb : NR b := by first | exact NR.av | exact NR.bor) (hm : m ≤ 32 := by decide) : Op K E X (rOr rEq (rEqD K)) a b Q := op_r (op_eqd F ha hb q na nb hm)
theorem ne_d {α : Type} [DecidableEq α] {f : α → PyData} {m : Nat} {c d : α} (F : Enc f m) (ha : a.data = f c) (hb : b.data = f d) (q : Q (.av (.d (.bool (!decide (c = d)))))) (na : NR a := by first | exact NR.av | exact NR.bor) (nb : NR b := by first | exact NR.av | exact NR.bor) (hm : m ≤ 32 := by decide) : Op K E X (rOr rNe (rNeD K)) a b Q := op_r (op_ned F ha hb q na nb hm)
abbrev rIdx (K : PySem.W.Frag) : R2 := rOr (rIxL K) (rOr (rIxT K) rIxS)
theorem ix_L {ds : List PyData} {y : PyData} {c : TV} {k : Int} (ha : a.data = .list ds) (e : atI ds k = some y) (it : Item a y c) (q : Q c) (na : NR a := by first | exact NR.av | exact NR.bor) : Op K E X (rIdx K) a (.av (.d (.int k))) Q := op_l (op_ixL ha e it q na)
theorem ix_T {ds : List PyData} {y : PyData} {c : TV} {k : Int} (ha : a.data = .tuple ds) (e : atI ds k = some y) (it : Item a y c) (q : Q c) (na : NR a := by first | exact NR.av | exact NR.bor) : Op K E X (rIdx K) a (.av (.d (.int k))) Q := op_r (op_l (op_ixT ha e it q na))
theorem cat_L {ds es : List PyData} (ha : a.data = .list ds) (hb : b.data = .list es) (ka : Kp a.frz ds) (kb : Kp b.frz es) (hz : ds.length + es.length ≤ 1000000) (q : Q (.av (.own ((ds ++ es).map AV.d)))) (na : NR a := by first | exact NR.av | exact NR.bor) (nb : NR b := by first | exact NR.av | exact NR.bor) : Op K E X (rPlus K) a b Q := op_r (op_l (op_catL ha hb ka kb hz q na nb))
theorem rep_L {ds : List PyData} {k : Int} (hn : noLsts ds = true) (hk : -(2 ^ 63) ≤ k ∧ k < 2 ^ 63) (hz : ds.length * k.toNat ≤ 1000000) (q : Q (.av (.own ((List.replicate k.toNat ds).flatten.map AV.d)))) : Op K E X (rOr rMulI rRep) (.av (.own (ds.map AV.d))) (.av (.d (.int k))) Q := op_r (op_repL hn hk hz q)
theorem bi_l {c c' : List V → Hp → VK → Prop} {bs : List TV} (h : Bi K E X c bs Q) : Bi K E X (cOr c c') bs Q := fun H0 σ ρ ts as H vs QV s hl x k => .inl (h H0 σ ρ ts as H vs QV s hl x k)
theorem len_L {ds : List PyData} (ha : a.data = .list ds) (q : Q (.av (.d (.int ds.length)))) (na : NR a := by first | exact NR.av | exact NR.bor) : Bi K E X (cOr (rLen K) rLenS) [a] Q := bi_l (bi_lenL ha q na)
theorem len_T {ds : List PyData} (ha : a.data = .tuple ds) (q : Q (.av (.d (.int ds.length)))) (na : NR a := by first | exact NR.av | exact NR.bor) : Bi K E X (cOr (rLen K) rLenS) [a] Q := bi_l (bi_lenT ha q na)
theorem sl_L {tl th : TO} (h : Ev K E X te ρ fun a => To tl ρ K E X fun lo => To th ρ K E X fun hi => ∃ ds, a.data = .list ds ∧ NR a ∧ Kp a.frz (cutD ds lo hi) ∧ Q (.av (.own ((cutD ds lo hi).map AV.d)))) : Ev K E X (tSl (slOr (rSlL K) (rSlT K)) te tl th) ρ Q := fun H0 σ ts as H QV s x k => by
  refine h H0 σ ts as H _ s x fun a qa v H1 s1 => qa H0 σ _ _ H1 _ s1 x fun lo ql H2 s2 => ql H0 σ _ _ H2 _ s2 x fun hi ⟨ds, ha, na, kp, q⟩ H3 s3 => .inl ?_
  obtain ⟨xs, ⟨l, ys, e, h1, ex⟩, h2, s'⟩ := s3.frzV.items kp (fun xs => ∃ l ys, v = .ref l ∧ SqL K H3 l ys ∧ xs = cutV ys lo hi) (fun G rp sm => by
    rw [TV.frz_data, ha] at rp
    obtain ⟨l, xs, e, h3, h4⟩ := rp.list_inv
    exact ⟨_, ⟨l, xs, e, sm.seq h3, rfl⟩, Reps.cut lo hi h4⟩) (TV.frz_nr na)
  subst ex
  exact ⟨l, ys, e, h1, fun p hp => k _ q _ _ (SR.new s' (by rw [List.length_map, h2]) hp)⟩
theorem it_list {l : Addr} {ds : List PyData} : ItOk K (Itl K l) (.ref l) (.list ds) ds.length fun i => ds.getD i .none := by
  intro G H sm rp
  obtain ⟨l', ys, e', h3, h4⟩ := rp.list_inv
  cases e'
  have h5 := sm.seq h3
  refine ⟨fun i hi => ?_, fun i hi => ⟨ys, h5, by rw [h4.length]; exact hi⟩⟩
  obtain ⟨w, h6, h7⟩ := h4.get (i := i) (d := ds.getD i .none) (by rw [List.getD_eq_getElem?_getD, List.getElem?_eq_getElem hi]; rfl)
  refine ⟨⟨ys, w, h5, h6⟩, fun x H' ⟨e1, e2⟩ => ?_⟩
  subst e1
  have := e2 ys h5
  rw [h6] at this
  cases this
  exact ⟨.refl _, fun G' m _ => h7.same m⟩
theorem it_tuple {l : Addr} {ds : List PyData} : ItOk K (Itt K l) (.ref l) (.tuple ds) ds.length fun i => ds.getD i .none := by
  intro G H sm rp
  obtain ⟨l', ys, e', h3, h4⟩ := rp.tuple_inv
  cases e'
  have h5 := sm.tupS h3
  refine ⟨fun i hi => ?_, fun i hi => ⟨ys, h5, by rw [h4.length]; exact hi⟩⟩
  obtain ⟨w, h6, h7⟩ := h4.get (i := i) (d := ds.getD i .none) (by rw [List.getD_eq_getElem?_getD, List.getElem?_eq_getElem hi]; rfl)
  refine ⟨⟨ys, w, h5, h6⟩, fun x H' ⟨e1, e2⟩ => ?_⟩
  subst e1
  have := e2 ys h5
  rw [h6] at this
  cases this
  exact ⟨.refl _, fun G' m _ => h7.same m⟩
theorem iv_seq {P : Nat → (Nat → PyData) → TV → Prop} (h : Ev K E X te ρ fun a => ∃ ds, (a.data = .list ds ∨ a.data = .tuple ds) ∧ NR a ∧ P ds.length (fun i => ds.getD i .none) a.frz) : Iv K E X (iSeq K te) ρ P := fun H0 σ ts as H R s x k =>
  h H0 σ ts as H _ s x fun a ⟨ds, e, na, q⟩ v H' s' => by
    have rp := s'.top na
    rcases e with e | e
    · rw [e] at rp
      obtain ⟨l, xs, rfl, h1, h2⟩ := rp.list_inv
      refine ⟨l, rfl, .inl ⟨⟨xs, h1⟩, k _ _ _ q (.ref l) _ H' (TV.frz_nr na) s'.frzV ?_⟩⟩
      rw [TV.frz_data, e]
      exact it_list
    · rw [e] at rp
      obtain ⟨l, xs, rfl, h1, h2⟩ := rp.tuple_inv
      refine ⟨l, rfl, .inr ⟨⟨xs, h1⟩, k _ _ _ q (.ref l) _ H' (TV.frz_nr na) s'.frzV ?_⟩⟩
      rw [TV.frz_data, e]
      exact it_tuple
theorem getD_map {α : Type} {xs : List α} {e : α → PyData} {i : Nat} (hi : i < xs.length) : (xs.map e).getD i .none = e xs[i] := by
  rw [List.getD_eq_getElem?_getD, List.getElem?_map, List.getElem?_eq_getElem hi]; rfl
/-! ### the forms one uses -/
/-- for x in xs -/
theorem for_L {α : Type} {nx bk ct : Sl → Prop} {rt : TV → Prop} {g : TG} {tb : TS} (h : Ev K E X te ρ fun a => ∃ (xs : List α) (e : α → PyData), (a.data = .list (xs.map e) ∨ a.data = .tuple (xs.map e)) ∧ (∃ c, a = .av c) ∧ ∃ Iw : Nat → Sl → Prop, Iw 0 ρ ∧ (∀ i ρ' (hi : i < xs.length), Iw i ρ' → Gv K g (e xs[i]) ρ' fun ρ'' => Sv K E X tb ρ'' ⟨Iw (i + 1), rt, nx, Iw (i + 1)⟩) ∧ ∀ ρ', Iw xs.length ρ' → nx ρ') : Sv K E X (tFor (iSeq K te) g tb) ρ ⟨nx, rt, bk, ct⟩ :=
  sv_for (iv_seq (ev_imp h fun a ⟨xs, e, ha, ⟨c, hc⟩, Iw, i0, turn, fin⟩ => ⟨xs.map e, ha, by subst hc; exact NR.av, ⟨c.data, by rw [hc]; rfl⟩, Iw, i0, fun i ρ' hi w => by
    rw [List.length_map] at hi
    show Gv K g ((xs.map e).getD i .none) ρ' _
    rw [getD_map hi]
    exact turn i ρ' hi w, fun ρ' w => fin ρ' (by rw [List.length_map] at w; exact w)⟩))
/-- for i in range(n) -/
theorem for_R {nx bk ct : Sl → Prop} {rt : TV → Prop} {A : TA} {g : TG} {tb : TS} (h : Ea K E X A ρ fun bs => ∃ j, bs = [.av (.d (.int j))] ∧ (-(2 ^ 62) ≤ j ∧ j < 2 ^ 62) ∧ ∃ Iw : Nat → Sl → Prop, Iw 0 ρ ∧ (∀ (i : Nat) ρ', i < j.toNat → Iw i ρ' → Gv K g (.int i) ρ' fun ρ'' => Sv K E X tb ρ'' ⟨Iw (i + 1), rt, nx, Iw (i + 1)⟩) ∧ ∀ ρ', Iw j.toNat ρ' → nx ρ') : Sv K E X (tFor (iRng1 A) g tb) ρ ⟨nx, rt, bk, ct⟩ :=
  sv_for (iv_rng1 fun H0 σ ts as H QV s x k => h H0 σ ts as H QV s x fun bs ⟨j, e, hj, Iw, i0, turn, fin⟩ => k bs ⟨j, e, hj, ⟨_, rfl⟩, Iw, i0, fun i ρ' hi w => by
    show Gv K g (.int (0 + (i : Int))) ρ' _
    rw [Int.zero_add]
    exact turn i ρ' hi w, fin⟩)
theorem for_R2 {nx bk ct : Sl → Prop} {rt : TV → Prop} {A : TA} {g : TG} {tb : TS} (h : Ea K E X A ρ fun bs => ∃ l j, bs = [.av (.d (.int l)), .av (.d (.int j))] ∧ (-(2 ^ 62) ≤ l ∧ l < 2 ^ 62 ∧ -(2 ^ 62) ≤ j ∧ j < 2 ^ 62) ∧ ∃ Iw : Nat → Sl → Prop, Iw 0 ρ ∧ (∀ (i : Nat) ρ', i < (j - l).toNat → Iw i ρ' → Gv K g (.int (l + i)) ρ' fun ρ'' => Sv K E X tb ρ'' ⟨Iw (i + 1), rt, nx, Iw (i + 1)⟩) ∧ ∀ ρ', Iw (j - l).toNat ρ' → nx ρ') : Sv K E X (tFor (iRng2 A) g tb) ρ ⟨nx, rt, bk, ct⟩ :=
  sv_for (iv_rng2 fun H0 σ ts as H QV s x k => h H0 σ ts as H QV s x fun bs ⟨l, j, e, hj, Iw, i0, turn, fin⟩ => k bs ⟨l, j, e, hj, ⟨_, rfl⟩, Iw, i0, fun i ρ' hi w => turn i ρ' hi w, fin⟩)
theorem range_filterMap {α : Type} (xs : List α) (f : α → Option AV) : (List.range xs.length).filterMap (fun i => (xs[i]?).bind f) = xs.filterMap f := by
  induction xs with
  | nil => rfl
  | cons x xs ih =>
    rw [List.length_cons, List.range_succ_eq_map, List.filterMap_cons, List.filterMap_map]
    have : (fun i => ((x :: xs)[i]?).bind f) ∘ Nat.succ = fun i => (xs[i]?).bind f := by funext i; simp
    rw [this, ih]
    simp [List.filterMap_cons]
/-- [e for x in xs]: y x what the element of x is -/
theorem comp_L {α : Type} {cap : List (Option Nat)} {g : TG} {tt : TT} {ti : TE} (h : Ev K E X ti ρ fun a => ∃ (xs : List α) (e : α → PyData) (y : α → Option AV), (a.data = .list (xs.map e) ∨ a.data = .tuple (xs.map e)) ∧ NR a ∧ xs.length ≤ 1000000 ∧
    (∀ i (hi : i < xs.length), Gv K g (e xs[i]) (capV cap ρ) fun ρ' => Wk ρ' (capV cap ρ) ∧ Tv K E (fun _ => False) tt ρ' fun b => if b = true then Ev K E (fun _ => False) te ρ' fun a => ∃ c, y xs[i] = some c ∧ a.sto = some c else y xs[i] = none) ∧
    ∃ a, Got (.own (xs.filterMap y)) a ∧ Q a) : Ev K E X (tComp cap (iSeq K ti) g tt te) ρ Q :=
  ev_comp (iv_seq (ev_imp h fun a ⟨xs, e, y, ha, na, hl, turn, c, hg, q⟩ => ⟨xs.map e, ha, na, by rw [List.length_map]; exact hl, fun i => (xs[i]?).bind y, fun i hi => by
    rw [List.length_map] at hi
    show Gv K g ((xs.map e).getD i .none) _ fun ρ' => _ ∧ Tv K E _ tt ρ' fun b => if b = true then Ev K E _ te ρ' fun a => ∃ c, (xs[i]?).bind y = some c ∧ _ else (xs[i]?).bind y = none
    rw [getD_map hi, List.getElem?_eq_getElem hi]
    exact turn i hi, c, by rw [List.length_map, range_filterMap]; exact hg, q⟩))
/-- the same, all of them -/
theorem comp_M {α : Type} {cap : List (Option Nat)} {g : TG} {ti : TE} (h : Ev K E X ti ρ fun a => ∃ (xs : List α) (e : α → PyData) (y : α → AV), (a.data = .list (xs.map e) ∨ a.data = .tuple (xs.map e)) ∧ NR a ∧ xs.length ≤ 1000000 ∧
    (∀ i (hi : i < xs.length), Gv K g (e xs[i]) (capV cap ρ) fun ρ' => Wk ρ' (capV cap ρ) ∧ Ev K E (fun _ => False) te ρ' fun a => a.sto = some (y xs[i])) ∧
    ∃ a, Got (.own (xs.map y)) a ∧ Q a) : Ev K E X (tComp cap (iSeq K ti) g tAll te) ρ Q :=
  comp_L (α := α) (ev_imp h fun a ⟨xs, e, y, ha, na, hl, turn, c, hg, q⟩ => ⟨xs, e, fun x => some (y x), ha, na, hl, fun i hi H0 σ ts as H v Qg s k => turn i hi H0 σ ts as H v Qg s fun ρ' ⟨w, ev⟩ => k ρ' ⟨w, tv_all (by
    rw [if_pos rfl]
    exact ev_imp ev fun a z => ⟨_, rfl, z⟩)⟩, c, by rw [List.filterMap_eq_map']; exact hg, q⟩)
/-- [e for i in range(n)] -/
theorem comp_R {cap : List (Option Nat)} {A : TA} {g : TG} (h : Ea K E X A ρ fun bs => ∃ (j : Int) (y : Nat → AV), bs = [.av (.d (.int j))] ∧ (-(2 ^ 62) ≤ j ∧ j ≤ 1000000) ∧
    (∀ i : Nat, i < j.toNat → Gv K g (.int i) (capV cap ρ) fun ρ' => Wk ρ' (capV cap ρ) ∧ Ev K E (fun _ => False) te ρ' fun a => a.sto = some (y i)) ∧
    ∃ a, Got (.own ((List.range j.toNat).map y)) a ∧ Q a) : Ev K E X (tComp cap (iRng1 A) g tAll te) ρ Q :=
  ev_comp (iv_rng1 fun H0 σ ts as H QV s x k => h H0 σ ts as H QV s x fun bs ⟨j, y, e, hj, turn, c, hg, q⟩ => k bs ⟨j, e, ⟨hj.1, by omega⟩, by omega, fun i => some (y i), fun i hi H0 σ ts as H v Qg s k => by
    have s : SR K H0 σ (capV cap ρ) (v :: ts) (.av (.d (.int (0 + (i : Int)))) :: as) H := s
    rw [Int.zero_add] at s
    exact turn i hi H0 σ ts as H v Qg s fun ρ' ⟨w, ev⟩ => k ρ' ⟨w, tv_all (by
      rw [if_pos rfl]
      exact ev_imp ev fun a z => ⟨_, rfl, z⟩)⟩, c, by rw [List.filterMap_eq_map']; exact hg, q⟩)
theorem own_data {α : Type} (xs : List α) (y : α → AV) : (AV.own (xs.map y)).data = .list (xs.map fun x => (y x).data) := by
  rw [AV.data, AV.datas_map, List.map_map]; rfl
theorem datas_mapd {α : Type} (xs : List α) (y : α → PyData) : AV.datas (xs.map fun x => .d (y x)) = xs.map y := by
  rw [AV.datas_map, List.map_map]; rfl
theorem cleans_of {xs : List AV} (h : ∀ x ∈ xs, x.clean = true) : AV.cleans xs = true := by
  induction xs with
  | nil => rfl
  | cons x xs ih => simp only [AV.cleans, Bool.and_eq_true]; exact ⟨h x (.head _), ih fun y hy => h y (.tail _ hy)⟩
theorem clean_map {α : Type} {xs : List α} {y : α → AV} (h : ∀ x, (y x).clean = true) : (AV.own (xs.map y)).clean = true := by
  rw [AV.clean]
  exact cleans_of fun z hz => by obtain ⟨x, _, rfl⟩ := List.mem_map.mp hz; exact h x
theorem clean_int {k : Int} : (AV.d (.int k)).clean = true := rfl
theorem clean_bool {k : Bool} : (AV.d (.bool k)).clean = true := rfl
end
end VL
end

section
set_option Elab.async false
set_option linter.all false
set_option maxRecDepth 100000
set_option maxHeartbeats 4000000
namespace L2
open PySem PySem.Spec PyProof.Rows
/-- an if behind which both ways go on -/
def tIfJ (c : TT) (t u : TS) : TS := tIfS c t u
theorem ps_ifJ {X : Cx} {pos : Pos} {c : Expr} {a b : List Stmt} {tc : TT} {t u : TS} (hc : PT X c tc) (ha : PSs X a t) (hb : PSs X b u) : PS X (.If c a b pos) (tIfJ tc t u) := ps_if hc ha hb
end L2
namespace VL
open PySem PySem.Spec PyProof.Rows L2
/-- no exception -/
def NX : List PyData → Exc → Prop := fun _ _ => False
def NE : Exc → Prop := fun _ => False
def ini (N : List Str) (ds : List PyData) : Sl := ds.map (fun d => some (.d d)) ++ List.replicate (N.length - ds.length) none
abbrev fin (c : AV) : VEnds := ⟨fun _ => c = .d .none, fun a => Res a c, fun _ => False, fun _ => False⟩
section
variable {P : Program} {w : World} {K : PySem.W.Frag} {mg : Str → Option Value} {base : Heap} {CX : CXT} {x qual : Str} {st : Stmt} {N ps : List Str} {dvss : List (List V)} {k : Nat} {S : List PyData → AV → Prop}
theorem val_body {t : TS} {vs : List V} {H : Hp} {Qv : VK} {E : XK} (sp : spV K S NX vs H Qv E) (h : ∀ ds c, S ds c → Sv K E NE t (ini N ds) (fin c)) : t { nx := fun _ H' => Qv .non H', rt := Qv } (L2.start N vs) H :=
  body_ok (N := N) sp fun ds => ⟨fun c hc => h ds c hc, fun e he => he.elim⟩
theorem spV_len {vs : List V} {H : Hp} {Q : VK} {E : XK} {n : Nat} (h : spV K S NX vs H Q E) (hS : ∀ ds c, S ds c → ds.length = n) : vs.length = n := by
  obtain ⟨ds, r, ⟨c, hc, _⟩ | ⟨e, he, _⟩⟩ := h
  · rw [r.length]; exact hS ds c hc
  · exact he.elim
theorem val (T : Tx K mg x st ps dvss) (Sc : FnScope N ps (defScope st)) (hS : ∀ ds c, S ds c → ds.length = ps.length)
    (hbody : ∀ (f : Addr) (cdv : Value) (A : Around) (outer : List Env) (s : Shared) (H : Hp) (E : XK), Room k (A.deeper (envOfC x (defScope st) s.heap.objs.size f cdv)) →
      ∃ t, PSs (cxOf CX P w K mg base N x (defScope st) f cdv A outer s H E).nox (defBody st) t ∧ ∀ ds c, S ds c → Sv K E NE t (ini N ds) (fin c)) :
    ∀ dvs ∈ dvss, Cal P w K mg base CX (k + 1) x ps dvs (spV K S NX) :=
  T.cal (k := k) Sc (fun vs H Q E h => spV_len h hS) fun f cdv A outer s H vs Q E hr h =>
    let ⟨t, h1, h2⟩ := hbody f cdv A outer s H E hr
    ⟨t, h1, val_body h h2⟩
def sp_law (K : PySem.W.Frag) : Sp := fun vs H Q _ => ∃ (a : Addr) (ns : List Int), vs = [.ref a] ∧ SqL K H a (ns.map V.int) ∧ ns.length ≤ 63 ∧ ∀ H', Q (.bl true) H'
theorem val_law {f : Addr} {fd : FuncData} {dV : Value} (F : FunD K x qual st dV f fd) (Sc : FnScope N ps (defScope st)) (hps : ps.length = 1)
    (hbody : ∀ (cdv : Value) (A : Around) (outer : List Env) (s : Shared) (H : Hp) (E : XK), Room k (A.deeper (envOfC qual (defScope st) s.heap.objs.size f cdv)) →
      ∃ t, PSs (cxOf CX P w K mg base N qual (defScope st) f cdv A outer s H E).nox (defBody st) t ∧ ∀ ns : List Int, ns.length ≤ 63 → Sv K E NE t (ini N [dI ns]) (fin (.d (.bool true)))) :
    FnOk P w K mg base CX (k + 1) f fd ps (sp_law K) := by
  refine F.ok (k := k) Sc (fun vs H Q E h => ?_) fun cdv A outer s H vs Q E hr h => ?_
  · obtain ⟨a, ns, rfl, _⟩ := h
    exact hps.symm
  · obtain ⟨a, ns, rfl, hS, hl, q⟩ := h
    obtain ⟨t, h1, h2⟩ := hbody cdv A outer s H E hr
    refine ⟨t, h1, val_body (E := E) (S := fun ds c => ∃ ns : List Int, ds = [dI ns] ∧ ns.length ≤ 63 ∧ c = .d (.bool true)) ⟨[dI ns], .cons (.ints hS) .nil, .inl ⟨_, ⟨ns, rfl, hl, rfl⟩, fun v H' r => ?_⟩⟩ fun ds c hc => ?_⟩
    · obtain ⟨_, p, _, _, ra⟩ := r
      cases ra with
      | d rp _ => rw [Rep.bl_inv rp]; exact q _
    · obtain ⟨ns, rfl, hl, rfl⟩ := hc
      exact h2 ns hl
end
section
variable {K : PySem.W.Frag} {E : XK} {X : Exc → Prop} {ρ : Sl} {Q : TV → Prop} {DV : VEnds} {ta tb te : TE} {i j : Int} {n : Nat} {r r' : R2} {t u : TS} {a b : TV}
theorem v_b {c : Bool} {P : Bool → Prop} (h : P c) : ∃ c', TV.av (.d (.bool c)) = .av (.d (.bool c')) ∧ P c' := ⟨c, rfl, h⟩
theorem v_i {P : Int → Prop} (h : P i) : ∃ c', TV.av (.d (.int i)) = .av (.d (.int c')) ∧ P c' := ⟨i, rfl, h⟩
theorem v_s {c : AV} {P : AV → Prop} (h : P c) : ∃ a', Sto ρ (.av c) a' ∧ P a' := ⟨c, .inl rfl, h⟩
theorem v_sF {x : PyData} {P : AV → Prop} (hx : noLst x = true) (h : P (.d x)) : ∃ a', Sto ρ (.bor x) a' ∧ P a' := ⟨.d x, .inl (if_pos hx), h⟩
theorem v_sB {x : PyData} {P : AV → Prop} (hn : NoOwn ρ) (h : P (.d x)) : ∃ a', Sto ρ (.bor x) a' ∧ P a' := ⟨.d x, .inr (.inr ⟨hn, ⟨x, rfl⟩, rfl⟩), h⟩
theorem v_sZ {c : AV} {P : AV → Prop} (h : P (.d c.data)) : ∃ a', Sto ρ (.av c) a' ∧ P a' := ⟨.d c.data, .inr (.inl ⟨c, rfl, rfl⟩), h⟩
theorem v_sD {c : AV} {x : PyData} {P : AV → Prop} (e : c.data = x) (h : P (.d x)) : ∃ a', Sto ρ (.av c) a' ∧ P a' := ⟨.d x, .inr (.inl ⟨c, rfl, by rw [e]⟩), h⟩
theorem v_ap {c : AV} {xs : List AV} {P : AV → Prop} (hz : xs.length ≤ 1000000) (h : P c) : ∃ a', (TV.av c).sto = some a' ∧ xs.length ≤ 1000000 ∧ P a' := ⟨c, rfl, hz, h⟩
/-- a call that hands back -/
def Cl (S : List PyData → AV → Prop) (dds : List PyData) (Q : TV → Prop) (bs : List TV) : Prop := NRs bs ∧ ∃ c a, S (bs.map TV.data ++ dds) c ∧ Got c a ∧ Q a
theorem call_of {S : List PyData → AV → Prop} {bs : List TV} {dds : List PyData} {c : AV} (nr : NRs bs) (hS : S (bs.map TV.data ++ dds) c) (g : Got c a) (q : Q a) : Cl S dds Q bs := ⟨nr, c, a, hS, g, q⟩
theorem ev_cN {S : List PyData → AV → Prop} {SX : List PyData → Exc → Prop} {dvs : List V} {dds : List PyData} {A : TA} {E' : XK} (hd : DvDs dvs dds) (h : Ea K E X A ρ (Cl S dds Q)) : Ev K E X (tCall (spV K S SX) dvs E' A) ρ Q := fun H0 σ ts as H QV s x k =>
  h H0 σ ts as H _ s x fun bs ⟨nr, c, a, h1, h2, h3⟩ vs H' s' hl => by
    obtain ⟨rp, s2⟩ := SR.reps nr.all hl s'
    exact ⟨bs.map TV.data ++ dds, rp.append hd.reps, .inl ⟨c, h1, fun v H2 r => k a h3 v H2 (s2.gotG r h2)⟩⟩
theorem ev_c0 {S : List PyData → AV → Prop} {SX : List PyData → Exc → Prop} {A : TA} {E' : XK} (h : Ea K E X A ρ (Cl S [] Q)) : Ev K E X (tCall (spV K S SX) [] E' A) ρ Q := ev_cN .nil h
theorem ev_c1 {S : List PyData → AV → Prop} {SX : List PyData → Exc → Prop} {A : TA} {E' : XK} {k : Int} (h : Ea K E X A ρ (Cl S [.int k] Q)) : Ev K E X (tCall (spV K S SX) [.int k] E' A) ρ Q := ev_cN (.cons rfl .nil) h
theorem res_d {x : PyData} {c : AV} (h : c = .d x) : Res (.av (.d x)) c := .inl (by rw [h])
theorem res_o {xs : List AV} {c : AV} (h : c = .own xs) : Res (.av (.own xs)) c := .inl (by rw [h])
theorem res_f {a : TV} {c : AV} (nr : NR a) (h : c = .d a.data) : Res a c := .inr ⟨nr, h⟩
theorem sv_imp {nx nx' bk ct : Sl → Prop} {rt : TV → Prop} (h : Sv K E X t ρ ⟨nx', rt, bk, ct⟩) (m : ∀ ρ', nx' ρ' → nx ρ') : Sv K E X t ρ ⟨nx, rt, bk, ct⟩ := fun H0 σ ts as H D st s x f => h H0 σ ts as H D st s x ⟨fun ρ' q => f.nx ρ' (m ρ' q), f.bk, f.ct, f.rt⟩
theorem s_ifJ {nx bk ct : Sl → Prop} {rt : TV → Prop} {c : TT} (J : Sl → Prop) (hJ : ∀ ρ', J ρ' → nx ρ') (h : Tv K E X c ρ fun b => if b = true then Sv K E X t ρ ⟨J, rt, bk, ct⟩ else Sv K E X u ρ ⟨J, rt, bk, ct⟩) : Sv K E X (tIfJ c t u) ρ ⟨nx, rt, bk, ct⟩ := sv_imp (sv_if h) hJ
theorem iteNT {A B : Prop} (h : B) : if (!true) = true then A else B := h
theorem iteNF {A B : Prop} (h : A) : if (!false) = true then A else B := h
theorem stos_nil : Stos [] [] := .nil
theorem ev_l0 (q : Q (.av (.own []))) : Ev K E X (tLst tNil) ρ Q := ev_lst (ea_nil ⟨[], .nil, Nat.zero_le _, q⟩)
end
end VL
end

section
set_option Elab.async false
set_option linter.all false
set_option maxRecDepth 100000
set_option maxHeartbeats 4000000
set_option exponentiation.threshold 2000
namespace K02
open PySem L2 VL
def top (i : Nat) : Stmt := PySem.Challenge.pw_figurewheel_k02_columns_of_places.main.body.getD i (.Pass ⟨0, 0, 0, 0⟩)
abbrev s_want_base : Stmt := top 6
theorem sc_want_base : FnScope ["base"] ["base"] (defScope s_want_base) := ⟨rfl, rfl, rfl, by decide +kernel, rfl, by decide +kernel, by decide +kernel⟩
abbrev s_figures_of : Stmt := top 7
theorem sc_figures_of : FnScope ["place", "base", "figures", "rest"] ["place", "base"] (defScope s_figures_of) := ⟨rfl, rfl, rfl, by decide +kernel, rfl, by decide +kernel, by decide +kernel⟩
abbrev s_number_of : Stmt := top 8
theorem sc_number_of : FnScope ["figures", "base", "number", "figure"] ["figures", "base"] (defScope s_number_of) := ⟨rfl, rfl, rfl, by decide +kernel, rfl, by decide +kernel, by decide +kernel⟩
abbrev s_filled : Stmt := top 9
theorem sc_filled : FnScope ["figures", "length"] ["figures", "length"] (defScope s_filled) := ⟨rfl, rfl, rfl, by decide +kernel, rfl, by decide +kernel, by decide +kernel⟩
abbrev s_at_each : Stmt := top 10
theorem sc_at_each : FnScope ["lists", "index"] ["lists", "index"] (defScope s_at_each) := ⟨rfl, rfl, rfl, by decide +kernel, rfl, by decide +kernel, by decide +kernel⟩
abbrev s_columns_of : Stmt := top 11
theorem sc_columns_of : FnScope ["places", "base", "written", "length", "lines"] ["places", "base"] (defScope s_columns_of) := ⟨rfl, rfl, rfl, by decide +kernel, rfl, by decide +kernel, by decide +kernel⟩
abbrev s_numbers_of : Stmt := top 12
theorem sc_numbers_of : FnScope ["columns", "many", "base"] ["columns", "many", "base"] (defScope s_numbers_of) := ⟨rfl, rfl, rfl, by decide +kernel, rfl, by decide +kernel, by decide +kernel⟩
abbrev s_law_cell_at : Stmt := top 14
theorem sc_law_cell_at : FnScope ["_law_script", "_law_k"] ["_law_script", "_law_k"] (defScope s_law_cell_at) := ⟨rfl, rfl, rfl, by decide +kernel, rfl, by decide +kernel, by decide +kernel⟩
abbrev s_law_spread : Stmt := top 15
theorem sc_law_spread : FnScope ["_law_script", "_law_k", "_law_cell"] ["_law_script", "_law_k"] (defScope s_law_spread) := ⟨rfl, rfl, rfl, by decide +kernel, rfl, by decide +kernel, by decide +kernel⟩
abbrev s_law_whole : Stmt := top 16
theorem sc_law_whole : FnScope ["_law_found"] ["_law_found"] (defScope s_law_whole) := ⟨rfl, rfl, rfl, by decide +kernel, rfl, by decide +kernel, by decide +kernel⟩
abbrev s_law_figures : Stmt := top 17
theorem sc_law_figures : FnScope ["_law_place", "_law_base", "_law_found"] ["_law_place", "_law_base"] (defScope s_law_figures) := ⟨rfl, rfl, rfl, by decide +kernel, rfl, by decide +kernel, by decide +kernel⟩
abbrev s_law_places : Stmt := top 18
theorem sc_law_places : FnScope ["_law_script", "_law_places_here", "_law_k", "_law_cell"] ["_law_script"] (defScope s_law_places) := ⟨rfl, rfl, rfl, by decide +kernel, rfl, by decide +kernel, by decide +kernel⟩
abbrev s_law_columns : Stmt := top 19
theorem sc_law_columns : FnScope ["_law_places_here", "_law_base", "_law_rows", "_law_many"] ["_law_places_here", "_law_base"] (defScope s_law_columns) := ⟨rfl, rfl, rfl, by decide +kernel, rfl, by decide +kernel, by decide +kernel⟩
abbrev s_law_are_columns : Stmt := top 20
theorem sc_law_are_columns : FnScope ["_law_found", "_law_due", "_law_k", "_law_figure"] ["_law_found", "_law_due"] (defScope s_law_are_columns) := ⟨rfl, rfl, rfl, by decide +kernel, rfl, by decide +kernel, by decide +kernel⟩
abbrev s_law : Stmt := top 21
theorem sc_law : FnScope ["_law_script", "_law_cell", "_law_base", "_law_places_here", "_law_due", "_law_handed", "_law_found", "_law_ahead", "_law_read"] ["_law_script"] (defScope s_law) := ⟨rfl, rfl, rfl, by decide +kernel, rfl, by decide +kernel, by decide +kernel⟩
/-! ### what the top has made -/
structure Txt (K : PySem.W.Frag) (mg : Str → Option Value) : Prop where
  g_LEAST_BASE : ∃ t, mg "LEAST_BASE" = some (.int 2 t)
  g_GREATEST_BASE : ∃ t, mg "GREATEST_BASE" = some (.int 5 t)
  n_all : mg "all" = none
  n_bool : mg "bool" = none
  n_int : mg "int" = none
  n_isinstance : mg "isinstance" = none
  n_len : mg "len" = none
  n_list : mg "list" = none
  n_max : mg "max" = none
  n_range : mg "range" = none
  n_tuple : mg "tuple" = none
  x_want_base : Tx K mg "want_base" s_want_base ["base"] [[]]
  x_figures_of : Tx K mg "figures_of" s_figures_of ["place", "base"] [[], [.int 2]]
  x_number_of : Tx K mg "number_of" s_number_of ["figures", "base"] [[], [.int 2]]
  x_filled : Tx K mg "filled" s_filled ["figures", "length"] [[]]
  x_at_each : Tx K mg "at_each" s_at_each ["lists", "index"] [[]]
  x_columns_of : Tx K mg "columns_of" s_columns_of ["places", "base"] [[], [.int 2]]
  x_numbers_of : Tx K mg "numbers_of" s_numbers_of ["columns", "many", "base"] [[], [.int 2]]
  x_law_cell_at : Tx K mg "_law_cell_at" s_law_cell_at ["_law_script", "_law_k"] [[]]
  x_law_spread : Tx K mg "_law_spread" s_law_spread ["_law_script", "_law_k"] [[]]
  x_law_whole : Tx K mg "_law_whole" s_law_whole ["_law_found"] [[]]
  x_law_figures : Tx K mg "_law_figures" s_law_figures ["_law_place", "_law_base"] [[]]
  x_law_places : Tx K mg "_law_places" s_law_places ["_law_script"] [[]]
  x_law_columns : Tx K mg "_law_columns" s_law_columns ["_law_places_here", "_law_base"] [[]]
  x_law_are_columns : Tx K mg "_law_are_columns" s_law_are_columns ["_law_found", "_law_due"] [[]]
local macro_rules | `(tactic| walk_at "sd") => `(tactic| first
  | (show (0 : Int) < _; omega)
  | (refine ⟨?_, ?_⟩ <;> omega)
  | exact Or.inl ⟨by omega, by omega⟩
  | exact Or.inr ⟨by omega, by omega⟩
  | exact ⟨by decide, by decide, by decide⟩)
local macro_rules | `(tactic| walk_at "nrs") => `(tactic| (repeat (first | exact NRs.nil | refine NRs.cons (by first | exact NR.av | exact NR.bor) ?_)))
local macro_rules | `(tactic| walk_at "v0") => `(tactic| with_reducible first
  | refine s_seq ?_ | refine ev_op ?_ | refine ev_cb ?_ | refine ea_cons ?_ | refine ea_nil ?_ | refine s_if ?_ | refine s_retN ?_ | refine s_next ?_ | refine s_break ?_ | refine s_cont ?_
  | refine ev_int ?_ | refine ev_bl ?_ | refine ev_str ?_ | refine ev_non ?_ | refine ev_ty ?_ | refine ev_un ?_ | refine un_i ?_ | refine add_i ?_ | refine op_i0 ?_ | refine op_b0 ?_ | refine eq_i ?_ | refine ne_i ?_ | refine eq_b ?_
  | refine ev_and ?_ | refine ev_or ?_ | refine ev_not ?_ | refine ev_if ?_ | refine tv_test ?_ | refine tv_b ?_ | refine tv_and ?_ | refine tv_or ?_ | refine tv_not ?_ | refine tv_all ?_
  | refine v_b ?_ | refine v_i ?_ | refine v_s ?_ | refine ev_c0 ?_ | refine ev_c1 ?_ | refine ev_l0 ?_ | refine to_no ?_ | refine to_part ?_ | refine iteT ?_ | refine iteF ?_ | refine iteNT ?_ | refine iteNF ?_)
local macro_rules | `(tactic| walk_at "v1") => `(tactic| with_reducible first
  | refine ev_v0 ?_ | refine ev_v1 ?_ | refine ev_v2 ?_ | refine ev_v3 ?_ | refine ev_v4 ?_ | refine ev_v5 ?_ | refine ev_v6 ?_ | refine ev_v7 ?_ | refine ev_v8 ?_ | refine ev_v9 ?_ | refine ev_v10 ?_ | refine ev_v11 ?_ | refine ev_v12 ?_ | refine ev_v13 ?_ | refine ev_v14 ?_ | refine ev_v15 ?_ | refine ev_v16 ?_ | refine ev_v17 ?_ | refine ev_v18 ?_ | refine ev_v19 ?_ | refine ev_v20 ?_ | refine ev_v21 ?_ | refine ev_v22 ?_ | refine ev_v23 ?_
  | refine ev_o0 ?_ | refine ev_o1 ?_ | refine ev_o2 ?_ | refine ev_o3 ?_ | refine ev_o4 ?_ | refine ev_o5 ?_ | refine ev_o6 ?_ | refine ev_o7 ?_ | refine ev_o8 ?_ | refine ev_o9 ?_ | refine ev_o10 ?_ | refine ev_o11 ?_ | refine ev_o12 ?_ | refine ev_o13 ?_ | refine ev_o14 ?_ | refine ev_o15 ?_ | refine ev_o16 ?_ | refine ev_o17 ?_ | refine ev_o18 ?_ | refine ev_o19 ?_ | refine ev_o20 ?_ | refine ev_o21 ?_ | refine ev_o22 ?_ | refine ev_o23 ?_
  | refine sv_a0 ?_ | refine sv_a1 ?_ | refine sv_a2 ?_ | refine sv_a3 ?_ | refine sv_a4 ?_ | refine sv_a5 ?_ | refine sv_a6 ?_ | refine sv_a7 ?_ | refine sv_a8 ?_ | refine sv_a9 ?_ | refine sv_a10 ?_ | refine sv_a11 ?_ | refine sv_a12 ?_ | refine sv_a13 ?_ | refine sv_a14 ?_ | refine sv_a15 ?_ | refine sv_a16 ?_ | refine sv_a17 ?_ | refine sv_a18 ?_ | refine sv_a19 ?_ | refine sv_a20 ?_ | refine sv_a21 ?_ | refine sv_a22 ?_ | refine sv_a23 ?_
  | refine gv_0 ?_ | refine gv_1 ?_ | refine gv_2 ?_ | refine gv_3 ?_ | refine gv_4 ?_ | refine gv_5 ?_ | refine gv_6 ?_ | refine gv_7 ?_ | refine gv_8 ?_ | refine gv_9 ?_ | refine gv_10 ?_ | refine gv_11 ?_ | refine gv_12 ?_ | refine gv_13 ?_ | refine gv_14 ?_ | refine gv_15 ?_ | refine gv_16 ?_ | refine gv_17 ?_ | refine gv_18 ?_ | refine gv_19 ?_ | refine gv_20 ?_ | refine gv_21 ?_ | refine gv_22 ?_ | refine gv_23 ?_
  | refine sv_ap0 ?_ | refine sv_ap1 ?_ | refine sv_ap2 ?_ | refine sv_ap3 ?_ | refine sv_ap4 ?_ | refine sv_ap5 ?_ | refine sv_ap6 ?_ | refine sv_ap7 ?_ | refine sv_ap8 ?_ | refine sv_ap9 ?_ | refine sv_ap10 ?_ | refine sv_ap11 ?_ | refine sv_ap12 ?_ | refine sv_ap13 ?_ | refine sv_ap14 ?_ | refine sv_ap15 ?_ | refine sv_ap16 ?_ | refine sv_ap17 ?_ | refine sv_ap18 ?_ | refine sv_ap19 ?_ | refine sv_ap20 ?_ | refine sv_ap21 ?_ | refine sv_ap22 ?_ | refine sv_ap23 ?_
  | refine sv_rv0 ?_ | refine sv_rv1 ?_ | refine sv_rv2 ?_ | refine sv_rv3 ?_ | refine sv_rv4 ?_ | refine sv_rv5 ?_ | refine sv_rv6 ?_ | refine sv_rv7 ?_ | refine sv_rv8 ?_ | refine sv_rv9 ?_ | refine sv_rv10 ?_ | refine sv_rv11 ?_ | refine sv_rv12 ?_ | refine sv_rv13 ?_ | refine sv_rv14 ?_ | refine sv_rv15 ?_ | refine sv_rv16 ?_ | refine sv_rv17 ?_ | refine sv_rv18 ?_ | refine sv_rv19 ?_ | refine sv_rv20 ?_ | refine sv_rv21 ?_ | refine sv_rv22 ?_ | refine sv_rv23 ?_
  | refine sv_ro0 ?_ | refine sv_ro1 ?_ | refine sv_ro2 ?_ | refine sv_ro3 ?_ | refine sv_ro4 ?_ | refine sv_ro5 ?_ | refine sv_ro6 ?_ | refine sv_ro7 ?_ | refine sv_ro8 ?_ | refine sv_ro9 ?_ | refine sv_ro10 ?_ | refine sv_ro11 ?_ | refine sv_ro12 ?_ | refine sv_ro13 ?_ | refine sv_ro14 ?_ | refine sv_ro15 ?_ | refine sv_ro16 ?_ | refine sv_ro17 ?_ | refine sv_ro18 ?_ | refine sv_ro19 ?_ | refine sv_ro20 ?_ | refine sv_ro21 ?_ | refine sv_ro22 ?_ | refine sv_ro23 ?_
  | refine sv_st0 ?_ | refine sv_st1 ?_ | refine sv_st2 ?_ | refine sv_st3 ?_ | refine sv_st4 ?_ | refine sv_st5 ?_ | refine sv_st6 ?_ | refine sv_st7 ?_ | refine sv_st8 ?_ | refine sv_st9 ?_ | refine sv_st10 ?_ | refine sv_st11 ?_ | refine sv_st12 ?_ | refine sv_st13 ?_ | refine sv_st14 ?_ | refine sv_st15 ?_ | refine sv_st16 ?_ | refine sv_st17 ?_ | refine sv_st18 ?_ | refine sv_st19 ?_ | refine sv_st20 ?_ | refine sv_st21 ?_ | refine sv_st22 ?_ | refine sv_st23 ?_
  )
local macro_rules | `(tactic| walk_at "v") => `(tactic| first | walk_at "v0" | walk_at "v1" | (with_reducible refine s_drop ?_) | (with_reducible refine s_ret ?_) | (refine op_i ?c ?_; (case c => walk_at "sd")) | (refine mul_i ?c ?_; (case c => walk_at "sd")))
local macro_rules | `(tactic| walk_at "vs") => `(tactic| repeat walk_at "v")
section
variable {P : Program} {w : World} {K : PySem.W.Frag} {mg : Str → Option Value} {base : Heap}
abbrev oI (ns : List Int) : AV := .own (ns.map fun k => .d (.int k))
theorem oI_data (ns : List Int) : (oI ns).data = dI ns := by rw [AV.data, datas_mapd]; rfl
theorem datas_ints (ns : List Int) : AV.datas (ns.map fun k => .d (.int k)) = ns.map PyData.int := datas_mapd ns PyData.int
theorem oI_clean (ns : List Int) : (oI ns).clean = true := clean_map fun _ => rfl
def S_cell_at (ds : List PyData) (c : AV) : Prop := ∃ (ns : List Int) (k : Int), ds = [dI ns, .int k] ∧ 0 ≤ k ∧ c = .d (.int (cat ns k))
theorem ok_cell_at (T : Txt K mg) : Cal P w K mg base CX0 1 "_law_cell_at" ["_law_script", "_law_k"] [] (spV K S_cell_at NX) := by
  refine val T.x_law_cell_at sc_law_cell_at (fun ds c ⟨ns, k, e, _⟩ => by rw [e]; rfl) (fun f cdv A outer s H E hr => ?_) [] (by simp)
  refine ⟨_, (pss_cons (ps_if (pt_cmpR op_lt (pv 1) (pe_callB (call_lenAny (K := K) rfl) rfl T.n_len PySem.boot_len (pa_cons (pv 0) pa_nil)) (nomark _))
        (pss_one (ps_ret (pe_ix (ix_any (K := K) rfl) (pv 0) (pv 1) (fun _ _ => rfl))))
        pss_nil)
      (pss_one (ps_ret pe_int))), ?_⟩
  rintro ds c ⟨ns, k, rfl, h0, rfl⟩
  show Sv K E _ _ [some (.d (dI ns)), some (.d (.int k))] _
  walk_at "vs"
  refine len_L rfl ?_
  walk_at "vs"
  rw [List.length_map]
  unfold cat
  refine ite2 (fun h => ?_) fun h => ?_
  · have hk := of_decide_eq_true h
    walk_at "vs"
    refine ix_L rfl (show atI (ns.map PyData.int) k = some (.int (ns.getD k.toNat 0)) from ?_) Item.d (res_d (by rw [if_pos hk]))
    have e : k.toNat < ns.length := by omega
    exact atI_of h0 (by rw [List.getElem?_map, List.getElem?_eq_getElem e, List.getD_eq_getElem?_getD, List.getElem?_eq_getElem e]; rfl)
  · have hk : ¬ k < ns.length := fun z => h (decide_eq_true z)
    walk_at "vs"
    exact res_d (by rw [if_neg hk])
theorem use_cell_at {Q : TV → Prop} {ns : List Int} {k : Int} (h0 : 0 ≤ k) (q : Q (.av (.d (.int (cat ns k))))) : Cl S_cell_at [] Q [.av (.d (dI ns)), .av (.d (.int k))] :=
  call_of (by walk_at "nrs") ⟨ns, k, rfl, h0, rfl⟩ (Got.own rfl) q
def S_whole (ds : List PyData) (c : AV) : Prop := ∃ k : Int, ds = [.int k] ∧ c = .d (.bool true)
theorem ok_whole (T : Txt K mg) : Cal P w K mg base CX0 1 "_law_whole" ["_law_found"] [] (spV K S_whole NX) := by
  refine val T.x_law_whole sc_law_whole (fun ds c ⟨k, e, _⟩ => by rw [e]; rfl) (fun f cdv A outer s H E hr => ?_) [] (by simp)
  refine ⟨_, (pss_one (ps_ret (pe_and (pe_callB (call_isi2K (K := K) rfl) rfl T.n_isinstance PyProof.Rows.boot_isinstance (pa_cons (pv 0) (pa_cons (pe_bltn (v := .ty "int") rfl T.n_int PyProof.Rows.boot_int rfl) pa_nil))) (pe_one (pe_not (pe_callB (call_isi2K (K := K) rfl) rfl T.n_isinstance PyProof.Rows.boot_isinstance (pa_cons (pv 0) (pa_cons (pe_bltn (v := .ty "bool") rfl T.n_bool PyProof.Rows.boot_bool rfl) pa_nil)))))))), ?_⟩
  rintro ds c ⟨k, rfl, rfl⟩
  show Sv K E _ _ [some (.d (.int k))] _
  walk_at "vs"
  refine isi_int_int ?_
  walk_at "vs"
  refine isi_int_bool ?_
  walk_at "vs"
  exact res_d rfl
theorem use_whole {Q : TV → Prop} {k : Int} (q : Q (.av (.d (.bool true)))) : Cl S_whole [] Q [.av (.d (.int k))] := call_of (by walk_at "nrs") ⟨k, rfl, rfl⟩ (Got.own rfl) q

def S_spread (ds : List PyData) (c : AV) : Prop := ∃ (ns : List Int) (k : Int), ds = [dI ns, .int k] ∧ (0 ≤ k ∧ k < 1000) ∧ c = .d (.int (sprd ns k))
theorem ok_spread (T : Txt K mg) : Cal P w K mg base CX0 2 "_law_spread" ["_law_script", "_law_k"] [] (spV K S_spread NX) := by
  have c_law_cell_at : Cal P w K mg base CX0 1 "_law_cell_at" ["_law_script", "_law_k"] [] (spV K S_cell_at NX) := ok_cell_at T
  refine val T.x_law_spread sc_law_spread (fun ds c ⟨ns, k, e, _⟩ => by rw [e]; rfl) (fun f cdv A outer s H E hr => ?_) [] (by simp)
  refine ⟨_, (pss_cons (ps_set (i := 2) sc_law_spread.nd rfl (Or.inl rfl) (pe_op op_mod (pe_cal (c_law_cell_at.mono (by decide)) hr rfl pass0 (pa_cons (pv 0) (pa_cons (pv 1) pa_nil))) pe_int))
      (pss_one (ps_ret (pe_op op_mod (pe_op op_times (pe_op op_mod (pe_op (op_plus (K := K) rfl) (pe_op op_times (pv 2) pe_int) (pe_op op_times (pe_op op_times (pe_op (op_plus (K := K) rfl) (pv 1) pe_int) (pe_op (op_plus (K := K) rfl) (pv 1) pe_int)) pe_int)) pe_int) pe_int) pe_int)))), ?_⟩
  rintro ds c ⟨ns, k, rfl, h0, rfl⟩
  show Sv K E _ _ [some (.d (dI ns)), some (.d (.int k)), none] _
  walk_at "vs"
  refine use_cell_at h0.1 ?_
  walk_at "vs"
  exact res_d rfl
theorem use_spread {Q : TV → Prop} {ns : List Int} {k : Int} (h0 : 0 ≤ k ∧ k < 1000) (q : Q (.av (.d (.int (sprd ns k))))) : Cl S_spread [] Q [.av (.d (dI ns)), .av (.d (.int k))] :=
  call_of (by walk_at "nrs") ⟨ns, k, rfl, h0, rfl⟩ (Got.own rfl) q

def S_want_base (ds : List PyData) (c : AV) : Prop := ∃ b : Int, ds = [.int b] ∧ (2 ≤ b ∧ b ≤ 5) ∧ c = .d .none
theorem ok_want_base (T : Txt K mg) : Cal P w K mg base CX0 1 "want_base" ["base"] [] (spV K S_want_base NX) := by
  refine val T.x_want_base sc_want_base (fun ds c ⟨k, e, _⟩ => by rw [e]; rfl) (fun f cdv A outer s H E hr => ?_) [] (by simp)
  refine ⟨_, (pss_one (ps_if (PW.pt (pw_or (pt_cmpR op_lt (pv 0) (pe_cst T.g_LEAST_BASE rfl) (nomark _)) (pw_or1 (pt_cmpR op_gt (pv 0) (pe_cst T.g_GREATEST_BASE rfl) (nomark _)))))
        (pss_one ps_never)
        pss_nil)), ?_⟩
  rintro ds c ⟨b, rfl, hb, rfl⟩
  show Sv K E _ _ [some (.d (.int b))] _
  walk_at "vs"
  refine iteN (by omega) ?_
  walk_at "vs"
  refine iteN (by omega) ?_
  walk_at "vs"
  rfl
theorem use_want_base {Q : TV → Prop} {b : Int} (hb : 2 ≤ b ∧ b ≤ 5) (q : Q (.av (.d .none))) : Cl S_want_base [] Q [.av (.d (.int b))] := call_of (by walk_at "nrs") ⟨b, rfl, hb, rfl⟩ (Got.own rfl) q
def S_figures_of (ds : List PyData) (c : AV) : Prop := ∃ n b : Int, ds = [.int n, .int b] ∧ (2 ≤ b ∧ b ≤ 5) ∧ 0 ≤ n ∧ n.toNat < 2 ^ 900 ∧ c = oI (figs b n)
theorem ok_figures_of (T : Txt K mg) : ∀ dvs ∈ [[], [V.int 2]], Cal P w K mg base CX0 2 "figures_of" ["place", "base"] dvs (spV K S_figures_of NX) := by
  have c_want_base : Cal P w K mg base CX0 1 "want_base" ["base"] [] (spV K S_want_base NX) := ok_want_base T
  refine val T.x_figures_of sc_figures_of (fun ds c ⟨n, b, e, _⟩ => by rw [e]; rfl) (fun f cdv A outer s H E hr => ?_)
  refine ⟨_, (pss_cons (ps_expr (pe_cal (c_want_base.mono (by decide)) hr rfl pass0 (pa_cons (pv 1) pa_nil)))
      (pss_cons (ps_set (i := 2) sc_figures_of.nd rfl (Or.inl rfl) (pe_lst pa_nil))
      (pss_cons (ps_set (i := 3) sc_figures_of.nd rfl (Or.inl rfl) (pv 0))
      (pss_cons (ps_while PassesOwn.never (pt_cmpR op_gt (pv 3) pe_int (nomark _))
        (pss_cons (ps_expr (pe_bmK (K := K) rfl PySem.F.plainAttrs_list PySem.F.slot_list_append PySem.F.type_list_append mt_append (pv 2) (pa_cons (pe_op op_mod (pv 3) (pv 1)) pa_nil)))
        (pss_one (ps_set (i := 3) sc_figures_of.nd rfl (Or.inl rfl) (pe_op op_fdiv (pv 3) (pv 1))))))
      (pss_cons (ps_expr (pe_bm0K (K := K) rfl PySem.F.plainAttrs_list PySem.F.slot_list_reverse PySem.F.type_list_reverse mt_reverse (pv 2)))
      (pss_one (ps_ret (pv 2)))))))), ?_⟩
  rintro ds c ⟨n, b, rfl, hb, h0, h1, rfl⟩
  show Sv K E _ _ [some (.d (.int n)), some (.d (.int b)), none, none] _
  walk_at "vs"
  refine use_want_base hb ?_
  walk_at "vs"
  refine s_while (fun m ρ => ∃ (ds : List Int) (r : Int), ρ = [some (.d (.int n)), some (.d (.int b)), some (oI ds), some (.d (.int r))] ∧ Lig b n ds r ∧ m = r.toNat) n.toNat ⟨[], n, rfl, .start h0 h1, rfl⟩ ?_
  rintro m ρ ⟨ds, r, rfl, L, rfl⟩
  walk_at "vs"
  refine ite2 (fun h => ?_) fun h => ?_
  · have hr0 : 0 < r := of_decide_eq_true h
    obtain ⟨L', hl, hm⟩ := L.step hb.1 hb.2 hr0
    walk_at "vs"
    refine v_ap ?hz ?_
    case hz => rw [List.length_map]; omega
    walk_at "vs"
    exact ⟨(r / b).toNat, hm, ds ++ [r % b], r / b, by rw [oI, List.map_append]; rfl, L', rfl⟩
  · have hr0 : ¬ 0 < r := fun z => h (decide_eq_true z)
    obtain ⟨e, hl⟩ := L.done hr0
    subst e
    walk_at "vs"
    refine res_o ?_
    rw [oI, figs, List.map_reverse]
theorem use_figures_of {Q : TV → Prop} {n b : Int} (hb : 2 ≤ b ∧ b ≤ 5) (h0 : 0 ≤ n) (h1 : n.toNat < 2 ^ 900) (q : Q (.av (oI (figs b n)))) : Cl S_figures_of [] Q [.av (.d (.int n)), .av (.d (.int b))] :=
  call_of (by walk_at "nrs") ⟨n, b, rfl, hb, h0, h1, rfl⟩ (Got.own (oI_clean _)) q
def S_number_of (ds : List PyData) (c : AV) : Prop := ∃ (xs : List Int) (b : Int), (ds = [dI xs, .int b] ∨ ds = [tI xs, .int b]) ∧ (2 ≤ b ∧ b ≤ 5) ∧ c = .d (.int (num b xs))
theorem ok_number_of (T : Txt K mg) : ∀ dvs ∈ [[], [V.int 2]], Cal P w K mg base CX0 2 "number_of" ["figures", "base"] dvs (spV K S_number_of NX) := by
  have c_want_base : Cal P w K mg base CX0 1 "want_base" ["base"] [] (spV K S_want_base NX) := ok_want_base T
  refine val T.x_number_of sc_number_of (fun ds c ⟨n, b, e, _⟩ => by rcases e with e | e <;> rw [e] <;> rfl) (fun f cdv A outer s H E hr => ?_)
  refine ⟨_, (pss_cons (ps_expr (pe_cal (c_want_base.mono (by decide)) hr rfl pass0 (pa_cons (pv 1) pa_nil)))
      (pss_cons (ps_set (i := 2) sc_number_of.nd rfl (Or.inl rfl) pe_int)
      (pss_cons (ps_for PassesOwn.never rfl (pi_seq (K := K) rfl (pv 0)) (pg_name (i := 3) sc_number_of.nd rfl (Or.inl rfl))
        (pss_one (ps_set (i := 2) sc_number_of.nd rfl (Or.inl rfl) (pe_op (op_plus (K := K) rfl) (pe_op op_times (pv 2) (pv 1)) (pv 3)))))
      (pss_one (ps_ret (pv 2)))))), ?_⟩
  rintro ds c ⟨xs, b, e, hb, rfl⟩
  obtain ⟨x, rfl, hx⟩ : ∃ x, ds = [x, .int b] ∧ (x = .list (xs.map .int) ∨ x = .tuple (xs.map .int)) := by
    rcases e with e | e
    · exact ⟨_, e, .inl rfl⟩
    · exact ⟨_, e, .inr rfl⟩
  show Sv K E _ _ [some (.d x), some (.d (.int b)), none, none] _
  walk_at "vs"
  refine use_want_base hb ?_
  walk_at "vs"
  refine for_L (α := Int) ?_
  walk_at "vs"
  refine ⟨xs, PyData.int, hx, ⟨_, rfl⟩, fun i ρ => ∃ o, ρ = [some (.d x), some (.d (.int b)), some (.d (.int (num b (xs.take i)))), o], ⟨none, rfl⟩, ?_, ?_⟩
  · rintro i ρ hi ⟨o, rfl⟩
    walk_at "vs"
    refine ⟨some (.d (.int xs[i])), ?_⟩
    rw [List.take_add_one, List.getElem?_eq_getElem hi]
    show _ = [_, _, some (AV.d (.int (num b (xs.take i ++ [xs[i]])))), _]
    rw [num_snoc]
  · rintro ρ ⟨o, rfl⟩
    rw [List.take_length]
    walk_at "vs"
    exact res_d rfl

/-! ### columns -/
def pad (L : Nat) (xs : List Int) : List Int := List.replicate (L - xs.length) 0 ++ xs
def mxl (ls : List Nat) : Nat := ls.foldl max 0
theorem foldl_max_ge : ∀ (ls : List Nat) (a : Nat), a ≤ ls.foldl max a ∧ ∀ x ∈ ls, x ≤ ls.foldl max a
  | [], a => ⟨Nat.le_refl _, fun _ z => nomatch z⟩
  | y :: ls, a => by
    obtain ⟨h1, h2⟩ := foldl_max_ge ls (max a y)
    rw [List.foldl_cons]
    refine ⟨by omega, fun x hx => ?_⟩
    rcases List.mem_cons.mp hx with e | e
    · subst e; omega
    · exact h2 x e
theorem foldl_max_mem : ∀ (ls : List Nat) (a : Nat), ls.foldl max a = a ∨ ls.foldl max a ∈ ls
  | [], a => .inl rfl
  | y :: ls, a => by
    rw [List.foldl_cons]
    rcases foldl_max_mem ls (max a y) with h | h
    · rw [h]
      rcases Nat.le_total a y with z | z
      · rw [Nat.max_eq_right z]; exact .inr (.head _)
      · rw [Nat.max_eq_left z]; exact .inl rfl
    · exact .inr (.tail _ h)
theorem mxl_is {ls : List Nat} {M : Int} (h : (ls.map (fun (n : Nat) => (n : Int)) = [] ∧ M = 0) ∨ (M ∈ ls.map (fun (n : Nat) => (n : Int)) ∧ ∀ c ∈ ls.map (fun (n : Nat) => (n : Int)), c ≤ M)) : M = (mxl ls : Nat) := by
  obtain ⟨h1, h2⟩ := foldl_max_ge ls 0
  rcases h with ⟨e, rfl⟩ | ⟨hm, hle⟩
  · cases ls with
    | nil => rfl
    | cons _ _ => simp at e
  · obtain ⟨n, hn, rfl⟩ := List.mem_map.mp hm
    have := h2 n hn
    rcases foldl_max_mem ls 0 with e | e
    · unfold mxl; omega
    · have := hle _ (List.mem_map.mpr ⟨_, e, rfl⟩)
      unfold mxl; omega
def mxf (b : Int) (ps : List Int) : Nat := mxl (ps.map fun p => (figs b p).length)
def cols (b : Int) (ps : List Int) : List (List Int) := (List.range (mxf b ps)).map fun k => ps.map fun p => (pad (mxf b ps) (figs b p)).getD k 0
theorem pad_len {L : Nat} {xs : List Int} (h : xs.length ≤ L) : (pad L xs).length = L := by unfold pad; rw [List.length_append, List.length_replicate]; omega
theorem figs_len {b n : Int} (hb : 2 ≤ b ∧ b ≤ 5) (h0 : 0 ≤ n) (h1 : n.toNat < 2 ^ 900) : (figs b n).length ≤ 900 := by
  unfold figs; rw [List.length_reverse]; exact dig_len (n := n) hb.1 hb.2 900 n h1
theorem figs_mxf {b p : Int} {ps : List Int} (h : p ∈ ps) : (figs b p).length ≤ mxf b ps := (foldl_max_ge _ 0).2 _ (List.mem_map.mpr ⟨p, h, rfl⟩)
theorem mxf_le {b : Int} {ps : List Int} {n : Nat} (h : ∀ p ∈ ps, (figs b p).length ≤ n) : mxf b ps ≤ n := by
  unfold mxf mxl
  rcases foldl_max_mem (ps.map fun p => (figs b p).length) 0 with e | e
  · rw [e]; omega
  · obtain ⟨p, hp, e2⟩ := List.mem_map.mp e
    rw [← e2]; exact h p hp
theorem getD_range (xs : List Int) : (List.range xs.length).map (fun k => xs.getD k 0) = xs := by
  refine List.ext_getElem (by simp) fun i h1 h2 => ?_
  simp only [List.getElem_map, List.getElem_range]
  rw [List.getD_eq_getElem?_getD, List.getElem?_eq_getElem h2]; rfl
theorem cols_col {b : Int} {ps : List Int} {k : Nat} (hk : k < ps.length) : (cols b ps).map (fun c => c.getD k 0) = pad (mxf b ps) (figs b ps[k]) := by
  unfold cols
  rw [List.map_map]
  have e := getD_range (pad (mxf b ps) (figs b ps[k]))
  rw [pad_len (figs_mxf (List.getElem_mem hk))] at e
  rw [← e]
  refine List.map_congr_left fun j _ => ?_
  show (ps.map fun p => (pad (mxf b ps) (figs b p)).getD j 0).getD k 0 = _
  rw [List.getD_eq_getElem?_getD, List.getElem?_map, List.getElem?_eq_getElem hk]
  rfl
theorem cols_num {b : Int} {ps : List Int} {k z : Nat} (hb : 2 ≤ b ∧ b ≤ 5) (hk : k < ps.length) (h0 : 0 ≤ ps[k]) : num b (((List.replicate z (List.replicate ps.length (0 : Int))) ++ cols b ps).map fun c => c.getD k 0) = ps[k] := by
  rw [List.map_append, cols_col hk]
  have : (List.replicate z (List.replicate ps.length (0 : Int))).map (fun c => c.getD k 0) = List.replicate z 0 := by
    rw [List.map_replicate]
    congr 1
    rw [List.getD_eq_getElem?_getD, List.getElem?_replicate]
    simp [hk]
  rw [this, num_zeros, pad, num_zeros, num_figs hb.1 hb.2 h0]
theorem nums_cols {b : Int} {ps : List Int} {z : Nat} (hb : 2 ≤ b ∧ b ≤ 5) (h0 : ∀ p ∈ ps, 0 ≤ p) : (List.range ps.length).map (fun k => num b (((List.replicate z (List.replicate ps.length (0 : Int))) ++ cols b ps).map fun c => c.getD k 0)) = ps := by
  refine List.ext_getElem (by simp) fun i h1 h2 => ?_
  rw [List.getElem_map, List.getElem_range]
  exact cols_num hb h2 (h0 _ (List.getElem_mem h2))
/-! ### the program -/
theorem rep_zeros (k : Nat) : (List.replicate k [PyData.int 0]).flatten = (List.replicate k (0 : Int)).map PyData.int := by
  induction k with
  | zero => rfl
  | succ k ih => rw [List.replicate_succ, List.flatten_cons, ih, List.replicate_succ]; rfl
theorem map_d_int (ns : List Int) : (ns.map PyData.int).map AV.d = ns.map fun k => .d (.int k) := by rw [List.map_map]; rfl
def S_filled (ds : List PyData) (c : AV) : Prop := ∃ (xs : List Int) (L : Nat), ds = [dI xs, .int L] ∧ L ≤ 1000 ∧ xs.length ≤ 1000 ∧ c = oI (pad L xs)
theorem ok_filled (T : Txt K mg) : Cal P w K mg base CX0 1 "filled" ["figures", "length"] [] (spV K S_filled NX) := by
  refine val T.x_filled sc_filled (fun ds c ⟨ns, k, e, _⟩ => by rw [e]; rfl) (fun f cdv A outer s H E hr => ?_) [] (by simp)
  refine ⟨_, (pss_one (ps_ret (pe_op (op_plus (K := K) rfl) (pe_op op_times (pe_lst (pa_cons pe_int pa_nil)) (pe_op op_sub (pv 1) (pe_callB (call_lenAny (K := K) rfl) rfl T.n_len PySem.boot_len (pa_cons (pv 0) pa_nil)))) (pv 0)))), ?_⟩
  rintro ds c ⟨xs, L, rfl, hL, hx, rfl⟩
  show Sv K E _ _ [some (.d (dI xs)), some (.d (.int L))] _
  walk_at "vs"
  refine ev_lst ?_
  walk_at "vs"
  refine ⟨[.d (.int 0)], .cons rfl .nil, by decide, ?_⟩
  walk_at "vs"
  refine len_L rfl ?_
  walk_at "vs"
  rw [List.length_map]
  have e : ((L : Int) - (xs.length : Int)).toNat = L - xs.length := by omega
  refine rep_L (ds := [.int 0]) rfl ⟨by omega, by omega⟩ (by rw [e]; show 1 * _ ≤ _; omega) ?_
  rw [e, rep_zeros, map_d_int]
  walk_at "vs"
  refine cat_L (ds := (List.replicate (L - xs.length) (0 : Int)).map .int) (es := xs.map .int) (by rw [TV.data, AV.data, datas_mapd]) rfl (Kp.flat (noLsts_ints _)) (Kp.flat (noLsts_ints _)) (by rw [List.length_map, List.length_map, List.length_replicate]; omega) ?_
  refine res_o ?_
  rw [← List.map_append, map_d_int]
  rfl
theorem use_filled {Q : TV → Prop} {xs : List Int} {L : Nat} (hL : L ≤ 1000) (hx : xs.length ≤ 1000) (q : Q (.av (oI (pad L xs)))) : Cl S_filled [] Q [.av (.d (dI xs)), .av (.d (.int L))] :=
  call_of (by walk_at "nrs") ⟨xs, L, rfl, hL, hx, rfl⟩ (Got.own (oI_clean _)) q
def S_at_each (ds : List PyData) (c : AV) : Prop := ∃ (rows : List (List Int)) (k : Nat), (ds = [dRows rows, .int k] ∨ ds = [.list (rows.map tI), .int k]) ∧ rows.length ≤ 100000 ∧ (∀ r ∈ rows, k < r.length) ∧ c = oI (rows.map fun r => r.getD k 0)
theorem atI_int {ns : List Int} {k : Nat} (h : k < ns.length) : atI (ns.map PyData.int) (k : Int) = some (.int (ns.getD k 0)) := atI_nat (by rw [List.getElem?_map, List.getElem?_eq_getElem h, List.getD_eq_getElem?_getD, List.getElem?_eq_getElem h]; rfl)
theorem ok_at_each (T : Txt K mg) : Cal P w K mg base CX0 1 "at_each" ["lists", "index"] [] (spV K S_at_each NX) := by
  refine val T.x_at_each sc_at_each (fun ds c ⟨ns, k, e, _⟩ => by rcases e with e | e <;> rw [e] <;> rfl) (fun f cdv A outer s H E hr => ?_) [] (by simp)
  refine ⟨_, (pss_one (ps_ret (pe_comp (N := ["one", "index"]) (cap := [none, some 1]) rfl rfl rfl (by kernel_rfl) (pi_seq (K := K) rfl (pv 0)) (fun _ _ _ _ => (pg_name (i := 0) (show (["one", "index"] : List Str).Nodup from by decide +kernel) rfl (Or.inl rfl))) (fun _ _ _ _ => pifs_nil) (fun _ _ _ _ => (pe_ix (ix_any (K := K) rfl) (pv 0) (pv 1) (fun _ _ => rfl)))))), ?_⟩
  rintro ds c ⟨rows, k, e, hn, hk, rfl⟩
  obtain ⟨en, rfl, he⟩ : ∃ en : List Int → PyData, ds = [.list (rows.map en), .int k] ∧ ∀ r, en r = .list (r.map .int) ∨ en r = .tuple (r.map .int) := by
    rcases e with e | e
    · exact ⟨dI, e, fun _ => .inl rfl⟩
    · exact ⟨tI, e, fun _ => .inr rfl⟩
  show Sv K E _ _ [some (.d (.list (rows.map en))), some (.d (.int k))] _
  walk_at "vs"
  refine comp_M (α := List Int) ?_
  walk_at "vs"
  refine ⟨rows, en, fun r => .d (.int (r.getD k 0)), .inl rfl, NR.av, by omega, fun i hi => ?_, _, Got.own (clean_map fun _ => rfl), res_o ?_⟩
  · show Gv K _ _ [none, some (.d (.int k))] _
    walk_at "vs"
    refine ⟨wk_0, ?_⟩
    walk_at "vs"
    rcases he rows[i] with e | e
    · exact ix_L e (atI_int (hk _ (List.getElem_mem hi))) Item.d rfl
    · exact ix_T e (atI_int (hk _ (List.getElem_mem hi))) Item.d rfl
  · rw [oI, List.map_map]; rfl
theorem use_at_eachD {Q : TV → Prop} {rows : List (List Int)} {k : Nat} {a : TV} (na : NR a) (ha : a.data = dRows rows ∨ a.data = .list (rows.map tI)) (hn : rows.length ≤ 100000) (hk : ∀ r ∈ rows, k < r.length) (q : Q (.av (oI (rows.map fun r => r.getD k 0)))) : Cl S_at_each [] Q [a, .av (.d (.int k))] :=
  call_of (.cons na (by walk_at "nrs")) ⟨rows, k, by rcases ha with e | e <;> simp [List.map, e, show (TV.av (AV.d (PyData.int (k : Int)))).data = .int k from rfl], hn, hk, rfl⟩ (Got.own (oI_clean _)) q
abbrev oL (rows : List (List Int)) : AV := .own (rows.map oI)
theorem oL_data (rows : List (List Int)) : (oL rows).data = dRows rows := by
  rw [own_data]
  unfold dRows
  congr 1
  exact List.map_congr_left fun r _ => oI_data r
theorem oL_clean (rows : List (List Int)) : (oL rows).clean = true := clean_map fun r => oI_clean r
/-- columns: tuples, new or shared -/
abbrev oT (cs : List (List Int)) : AV := .own (cs.map fun c => .d (tI c))
theorem oT_data (cs : List (List Int)) : (oT cs).data = .list (cs.map tI) := by rw [AV.data, datas_mapd]
theorem tI_flat (c : List Int) : noLst (tI c) = true := by simp [tI, noLst, noLsts_ints]
theorem oT_clean (cs : List (List Int)) : (oT cs).clean = true := clean_map fun c => tI_flat c
def S_columns_of (ds : List PyData) (c : AV) : Prop := ∃ (ps : List Int) (b : Int), ds = [dI ps, .int b] ∧ (2 ≤ b ∧ b ≤ 5) ∧ ps.length ≤ 100 ∧ (∀ p ∈ ps, 0 ≤ p ∧ p.toNat < 2 ^ 900) ∧ c = oT (cols b ps)
theorem ok_columns_of (T : Txt K mg) : ∀ dvs ∈ [[], [V.int 2]], Cal P w K mg base CX0 3 "columns_of" ["places", "base"] dvs (spV K S_columns_of NX) := by
  have c_want_base : Cal P w K mg base CX0 1 "want_base" ["base"] [] (spV K S_want_base NX) := ok_want_base T
  have c_figures_of : Cal P w K mg base CX0 2 "figures_of" ["place", "base"] [] (spV K S_figures_of NX) := ok_figures_of T [] (by simp)
  have c_filled : Cal P w K mg base CX0 1 "filled" ["figures", "length"] [] (spV K S_filled NX) := ok_filled T
  have c_at_each : Cal P w K mg base CX0 1 "at_each" ["lists", "index"] [] (spV K S_at_each NX) := ok_at_each T
  refine val T.x_columns_of sc_columns_of (fun ds c ⟨n, b, e, _⟩ => by rw [e]; rfl) (fun f cdv A outer s H E hr => ?_)
  refine ⟨_, (pss_cons (ps_expr (pe_cal (c_want_base.mono (by decide)) hr rfl pass0 (pa_cons (pv 1) pa_nil)))
      (pss_cons (ps_setC (i := 2) sc_columns_of.nd rfl rfl (N := ["place", "base"]) (cap := [none, some 1]) rfl rfl rfl (by kernel_rfl) (pi_seq (K := K) rfl (pv 0)) (fun _ _ _ _ => (pg_name (i := 0) (show (["place", "base"] : List Str).Nodup from by decide +kernel) rfl (Or.inl rfl))) (fun _ _ _ _ => pifs_nil) (fun _ _ _ _ => (pe_cal (c_figures_of.mono (by decide)) hr rfl pass0 (pa_cons (pv 0) (pa_cons (pv 1) pa_nil)))))
      (pss_cons (ps_set (i := 3) sc_columns_of.nd rfl (Or.inr rfl) (pe_maxD (K := K) rfl rfl rfl T.n_max (pa_cons (pe_comp (N := ["figures"]) (cap := [none]) rfl rfl rfl (by kernel_rfl) (pi_seq (K := K) rfl (pv 2)) (fun _ _ _ _ => (pg_name (i := 0) (show (["figures"] : List Str).Nodup from by decide +kernel) rfl (Or.inl rfl))) (fun _ _ _ _ => pifs_nil) (fun _ _ _ _ => (pe_callB (call_lenAny (K := K) rfl) rfl T.n_len PySem.boot_len (pa_cons (pv 0) pa_nil)))) pa_nil) (pk_cons pe_int pk_nil)))
      (pss_cons (ps_set (i := 4) sc_columns_of.nd rfl (Or.inr rfl) (pe_comp (N := ["figures", "length"]) (cap := [none, some 3]) rfl rfl rfl (by kernel_rfl) (pi_seq (K := K) rfl (pv 2)) (fun _ _ _ _ => (pg_name (i := 0) (show (["figures", "length"] : List Str).Nodup from by decide +kernel) rfl (Or.inl rfl))) (fun _ _ _ _ => pifs_nil) (fun _ _ _ _ => (pe_cal (c_filled.mono (by decide)) hr rfl pass0 (pa_cons (pv 0) (pa_cons (pv 1) pa_nil))))))
      (pss_one (ps_ret (pe_comp (N := ["index", "lines"]) (cap := [none, some 4]) rfl rfl rfl (by kernel_rfl) (pi_range1 rfl T.n_range (pa_cons (pv 3) pa_nil)) (fun _ _ _ _ => (pg_name (i := 0) (show (["index", "lines"] : List Str).Nodup from by decide +kernel) rfl (Or.inl rfl))) (fun _ _ _ _ => pifs_nil) (fun _ _ _ _ => (pe_callTy (call_tupK (K := K) rfl) rfl T.n_tuple PyProof.Rows.boot_tuple (pa_cons (pe_cal (c_at_each.mono (by decide)) hr rfl pass0 (pa_cons (pv 1) (pa_cons (pv 0) pa_nil))) pa_nil)))))))))), ?_⟩
  rintro ds c ⟨ps, b, rfl, hb, hl, hp, rfl⟩
  show Sv K E _ _ [some (.d (dI ps)), some (.d (.int b)), none, none, none] _
  walk_at "vs"
  refine use_want_base hb ?_
  walk_at "vs"
  refine comp_M (α := Int) ?_
  walk_at "vs"
  refine ⟨ps, PyData.int, fun p => oI (figs b p), .inl rfl, NR.av, by omega, fun i hi => ?_, _, Got.own (clean_map fun _ => oI_clean _), ?_⟩
  · show Gv K _ _ [none, some (.d (.int b))] _
    walk_at "vs"
    refine ⟨wk_0, ?_⟩
    walk_at "vs"
    exact use_figures_of hb (hp _ (List.getElem_mem hi)).1 (hp _ (List.getElem_mem hi)).2 rfl
  have ed : (AV.own (ps.map fun p => oI (figs b p))).data = .list ((ps.map (figs b)).map dI) := by
    rw [own_data, List.map_map]
    congr 1
    exact List.map_congr_left fun p _ => oI_data _
  have hlen : ∀ p ∈ ps, (figs b p).length ≤ 900 := fun p h => figs_len hb (hp p h).1 (hp p h).2
  have hmx : mxf b ps ≤ 900 := mxf_le hlen
  refine v_sD ed ?_
  walk_at "vs"
  refine ev_maxD ?_
  walk_at "vs"
  refine comp_M (α := List Int) ?_
  walk_at "vs"
  refine ⟨ps.map (figs b), dI, fun r => .d (.int r.length), .inl rfl, NR.av, by rw [List.length_map]; omega, fun i hi => ?_, _, Got.own (clean_map fun _ => rfl), ?_⟩
  · show Gv K _ _ [none] _
    walk_at "vs"
    refine ⟨wk_0, ?_⟩
    walk_at "vs"
    refine len_L rfl ?_
    rw [List.length_map]
    rfl
  walk_at "vs"
  refine ⟨_, ((ps.map fun p => (figs b p).length).map fun (n : Nat) => (n : Int)), 0, rfl, NR.av, rfl, ?_, fun M hM => ?_⟩
  · rw [TV.data, AV.data, datas_mapd, dI, List.map_map, List.map_map, List.map_map]; rfl
  have eM : M = (mxf b ps : Nat) := mxl_is hM
  subst eM
  walk_at "vs"
  refine comp_M (α := List Int) ?_
  walk_at "vs"
  refine ⟨ps.map (figs b), dI, fun r => oI (pad (mxf b ps) r), .inl rfl, NR.av, by rw [List.length_map]; omega, fun i hi => ?_, _, Got.own (clean_map fun _ => oI_clean _), ?_⟩
  · show Gv K _ _ [none, some (.d (.int (mxf b ps : Nat)))] _
    walk_at "vs"
    refine ⟨wk_0, ?_⟩
    walk_at "vs"
    refine use_filled (by omega) ?_ rfl
    obtain ⟨p, h1, h2⟩ := List.mem_map.mp (List.getElem_mem hi)
    rw [← h2]
    have := hlen p h1
    omega
  have ed2 : (AV.own ((ps.map (figs b)).map fun r => oI (pad (mxf b ps) r))).data = dRows (ps.map fun p => pad (mxf b ps) (figs b p)) := by
    rw [own_data, List.map_map, dRows, List.map_map]
    congr 1
    exact List.map_congr_left fun p _ => oI_data _
  refine v_sD ed2 ?_
  walk_at "vs"
  refine comp_R ?_
  walk_at "vs"
  refine ⟨_, fun k => .d (tI (ps.map fun p => (pad (mxf b ps) (figs b p)).getD k 0)), rfl, ⟨by omega, by omega⟩, fun i hi => ?_, _, Got.own (clean_map fun _ => tI_flat _), res_o ?_⟩
  · show Gv K _ _ [none, some (.d (dRows (ps.map fun p => pad (mxf b ps) (figs b p))))] _
    walk_at "vs"
    refine ⟨wk_0, ?_⟩
    walk_at "vs"
    refine use_at_eachD NR.av (.inl rfl) (by rw [List.length_map]; omega) (fun r hr => ?_) ?_
    · obtain ⟨p, h1, rfl⟩ := List.mem_map.mp hr
      rw [pad_len (figs_mxf h1)]
      omega
    walk_at "vs"
    refine bi_tupL (ds := (ps.map fun p => (pad (mxf b ps) (figs b p)).getD i 0).map .int) ?_ (.inl rfl) rfl
    rw [TV.data, AV.data, datas_mapd]
    simp only [List.map_map]
    rfl
  · rw [oT, cols, List.map_map]
    rfl
theorem use_columns_of {Q : TV → Prop} {ps : List Int} {b : Int} {a : TV} (na : NR a) (ha : a.data = dI ps) (hb : 2 ≤ b ∧ b ≤ 5) (hl : ps.length ≤ 100) (hp : ∀ p ∈ ps, 0 ≤ p ∧ p.toNat < 2 ^ 900) (q : Q (.av (oT (cols b ps)))) : Cl S_columns_of [] Q [a, .av (.d (.int b))] :=
  call_of (.cons na (by walk_at "nrs")) ⟨ps, b, by simp [ha, show (TV.av (AV.d (PyData.int b))).data = .int b from rfl], hb, hl, hp, rfl⟩ (Got.own (oT_clean _)) q
theorem use_columns_of2 {Q : TV → Prop} {ps : List Int} {a : TV} (na : NR a) (ha : a.data = dI ps) (hl : ps.length ≤ 100) (hp : ∀ p ∈ ps, 0 ≤ p ∧ p.toNat < 2 ^ 900) (q : Q (.av (oT (cols 2 ps)))) : Cl S_columns_of [.int 2] Q [a] :=
  call_of (.cons na (by walk_at "nrs")) ⟨ps, 2, by simp [ha], by decide, hl, hp, rfl⟩ (Got.own (oT_clean _)) q
def S_numbers_of (ds : List PyData) (c : AV) : Prop := ∃ (cs : List (List Int)) (m : Nat) (b : Int), ds = [.list (cs.map tI), .int m, .int b] ∧ (2 ≤ b ∧ b ≤ 5) ∧ m ≤ 100 ∧ cs.length ≤ 100000 ∧ (∀ c ∈ cs, m ≤ c.length) ∧ c = oI ((List.range m).map fun k => num b (cs.map fun c => c.getD k 0))
theorem ok_numbers_of (T : Txt K mg) : ∀ dvs ∈ [[], [V.int 2]], Cal P w K mg base CX0 3 "numbers_of" ["columns", "many", "base"] dvs (spV K S_numbers_of NX) := by
  have c_want_base : Cal P w K mg base CX0 1 "want_base" ["base"] [] (spV K S_want_base NX) := ok_want_base T
  have c_number_of : Cal P w K mg base CX0 2 "number_of" ["figures", "base"] [] (spV K S_number_of NX) := ok_number_of T [] (by simp)
  have c_at_each : Cal P w K mg base CX0 1 "at_each" ["lists", "index"] [] (spV K S_at_each NX) := ok_at_each T
  refine val T.x_numbers_of sc_numbers_of (fun ds c ⟨n, b, b', e, _⟩ => by rw [e]; rfl) (fun f cdv A outer s H E hr => ?_)
  refine ⟨_, (pss_cons (ps_expr (pe_cal (c_want_base.mono (by decide)) hr rfl pass0 (pa_cons (pv 2) pa_nil)))
      (pss_one (ps_ret (pe_comp (N := ["index", "columns", "base"]) (cap := [none, some 0, some 2]) rfl rfl rfl (by kernel_rfl) (pi_range1 rfl T.n_range (pa_cons (pv 1) pa_nil)) (fun _ _ _ _ => (pg_name (i := 0) (show (["index", "columns", "base"] : List Str).Nodup from by decide +kernel) rfl (Or.inl rfl))) (fun _ _ _ _ => pifs_nil) (fun _ _ _ _ => (pe_cal (c_number_of.mono (by decide)) hr rfl pass0 (pa_cons (pe_cal (c_at_each.mono (by decide)) hr rfl pass0 (pa_cons (pv 1) (pa_cons (pv 0) pa_nil))) (pa_cons (pv 2) pa_nil)))))))), ?_⟩
  rintro ds c ⟨cs, m, b, rfl, hb, hm, hc, hl, rfl⟩
  show Sv K E _ _ [some (.d (.list (cs.map tI))), some (.d (.int m)), some (.d (.int b))] _
  walk_at "vs"
  refine use_want_base hb ?_
  walk_at "vs"
  refine comp_R ?_
  walk_at "vs"
  refine ⟨_, fun k => .d (.int (num b (cs.map fun c => c.getD k 0))), rfl, ⟨by omega, by omega⟩, fun i hi => ?_, _, Got.own (clean_map fun _ => rfl), res_o ?_⟩
  · show Gv K _ _ [none, some (.d (.list (cs.map tI))), some (.d (.int b))] _
    walk_at "vs"
    refine ⟨wk_0, ?_⟩
    walk_at "vs"
    refine use_at_eachD NR.av (.inr rfl) hc (fun r hr => ?_) ?_
    · have := hl r hr; omega
    walk_at "vs"
    refine call_of (by walk_at "nrs") ⟨cs.map (fun c => c.getD i 0), b, .inl ?_, hb, rfl⟩ (Got.own rfl) rfl
    show [(oI _).data, _] = _
    rw [oI_data]; rfl
  · rw [oI, List.map_map]; rfl

/-! ### the law -/
def S_lfig (ds : List PyData) (c : AV) : Prop := ∃ n b : Int, ds = [.int n, .int b] ∧ (2 ≤ b ∧ b ≤ 5) ∧ 0 ≤ n ∧ n.toNat < 2 ^ 900 ∧ c = oI (figs b n)
theorem ok_lfig (T : Txt K mg) : Cal P w K mg base CX0 1 "_law_figures" ["_law_place", "_law_base"] [] (spV K S_lfig NX) := by
  refine val T.x_law_figures sc_law_figures (fun ds c ⟨n, b, e, _⟩ => by rw [e]; rfl) (fun f cdv A outer s H E hr => ?_) [] (by simp)
  refine ⟨_, (pss_cons (ps_set (i := 2) sc_law_figures.nd rfl (Or.inl rfl) (pe_lst pa_nil))
      (pss_cons (ps_while PassesOwn.never (pt_cmpR op_gt (pv 0) pe_int (nomark _))
        (pss_cons (ps_expr (pe_bmK (K := K) rfl PySem.F.plainAttrs_list PySem.F.slot_list_append PySem.F.type_list_append mt_append (pv 2) (pa_cons (pe_op op_mod (pv 0) (pv 1)) pa_nil)))
        (pss_one (ps_set (i := 0) sc_law_figures.nd rfl (Or.inl rfl) (pe_op op_fdiv (pv 0) (pv 1))))))
      (pss_one (ps_ret (pe_revK (K := K) rfl (pv 2)))))), ?_⟩
  rintro ds c ⟨n, b, rfl, hb, h0, h1, rfl⟩
  show Sv K E _ _ [some (.d (.int n)), some (.d (.int b)), none] _
  walk_at "vs"
  refine s_while (fun m ρ => ∃ (ds : List Int) (r : Int), ρ = [some (.d (.int r)), some (.d (.int b)), some (oI ds)] ∧ Lig b n ds r ∧ m = r.toNat) n.toNat ⟨[], n, rfl, .start h0 h1, rfl⟩ ?_
  rintro m ρ ⟨ds, r, rfl, L, rfl⟩
  walk_at "vs"
  refine ite2 (fun h => ?_) fun h => ?_
  · have hr0 : 0 < r := of_decide_eq_true h
    obtain ⟨L', hl, hm⟩ := L.step hb.1 hb.2 hr0
    walk_at "vs"
    refine v_ap ?hz ?_
    case hz => rw [List.length_map]; omega
    walk_at "vs"
    exact ⟨(r / b).toNat, hm, ds ++ [r % b], r / b, by rw [oI, List.map_append]; rfl, L', rfl⟩
  · have hr0 : ¬ 0 < r := fun z => h (decide_eq_true z)
    obtain ⟨e, hl⟩ := L.done hr0
    subst e
    walk_at "vs"
    refine ev_rev ?_
    walk_at "vs"
    rw [datas_ints]
    refine ⟨_, rfl, NR.bor, Kp.flat (by rw [← List.map_reverse]; exact noLsts_ints _), res_o ?_⟩
    rw [oI, figs, ← List.map_reverse, map_d_int]
theorem use_lfig {Q : TV → Prop} {n b : Int} (hb : 2 ≤ b ∧ b ≤ 5) (h0 : 0 ≤ n) (h1 : n.toNat < 2 ^ 900) (q : Q (.av (oI (figs b n)))) : Cl S_lfig [] Q [.av (.d (.int n)), .av (.d (.int b))] :=
  call_of (by walk_at "nrs") ⟨n, b, rfl, hb, h0, h1, rfl⟩ (Got.own (oI_clean _)) q
def plc (c : Int) : Int := c / 3 % (if c % 3 = 0 then 9 else if c % 3 = 1 then 1000 else 10 ^ 40)
def plc0 (ns : List Int) (n : Nat) : List Int := (List.range n).map fun (k : Nat) => plc (cat ns (1 + (k : Int)))
def plc1 (c : Int) (ps : List Int) : List Int := if 1 < ps.length ∧ c / 40 % 3 = 1 then ps.set 1 (ps.getD 0 0) else ps
def plcs (ns : List Int) : List Int := plc1 (sprd ns 0) (plc0 ns (sprd ns 0 / 8 % 5).toNat)
theorem plc_range (c : Int) : 0 ≤ plc c ∧ plc c < 10 ^ 40 := by
  unfold plc
  have h : ∀ m : Int, 0 < m → m ≤ 10 ^ 40 → 0 ≤ c / 3 % m ∧ c / 3 % m < 10 ^ 40 := fun m h1 h2 => ⟨Int.emod_nonneg _ (by omega), Int.lt_of_lt_of_le (Int.emod_lt_of_pos _ h1) h2⟩
  split
  · exact h 9 (by decide) (by decide)
  · split
    · exact h 1000 (by decide) (by decide)
    · exact h (10 ^ 40) (by decide) (by decide)
theorem plcs_ok (ns : List Int) : (plcs ns).length ≤ 4 ∧ ∀ p ∈ plcs ns, 0 ≤ p ∧ p < 10 ^ 40 := by
  have hs := sprd_range ns 0
  have h1 : ∀ p ∈ plc0 ns (sprd ns 0 / 8 % 5).toNat, 0 ≤ p ∧ p < 10 ^ 40 := fun p hp => by
    obtain ⟨k, _, rfl⟩ := List.mem_map.mp hp
    exact plc_range _
  have h2 : (plc0 ns (sprd ns 0 / 8 % 5).toNat).length ≤ 4 := by rw [plc0, List.length_map, List.length_range]; omega
  unfold plcs
  generalize plc0 ns (sprd ns 0 / 8 % 5).toNat = ps at h1 h2
  unfold plc1
  split
  · rename_i hc
    refine ⟨by rw [List.length_set]; exact h2, fun p hp => ?_⟩
    rcases List.mem_or_eq_of_mem_set hp with z | z
    · exact h1 p z
    · rw [z]
      have h0 : 0 < ps.length := by omega
      rw [List.getD_eq_getElem?_getD, List.getElem?_eq_getElem h0]
      exact h1 _ (List.getElem_mem h0)
  · exact ⟨h2, h1⟩
def S_places (ds : List PyData) (c : AV) : Prop := ∃ ns : List Int, ds = [dI ns] ∧ c = oI (plcs ns)
theorem ok_places (T : Txt K mg) : Cal P w K mg base CX0 3 "_law_places" ["_law_script"] [] (spV K S_places NX) := by
  have c_law_cell_at : Cal P w K mg base CX0 1 "_law_cell_at" ["_law_script", "_law_k"] [] (spV K S_cell_at NX) := ok_cell_at T
  have c_law_spread : Cal P w K mg base CX0 2 "_law_spread" ["_law_script", "_law_k"] [] (spV K S_spread NX) := ok_spread T
  refine val T.x_law_places sc_law_places (fun ds c ⟨n, e, _⟩ => by rw [e]; rfl) (fun f cdv A outer s H E hr => ?_) [] (by simp)
  refine ⟨_, (pss_cons (ps_set (i := 1) sc_law_places.nd rfl (Or.inl rfl) (pe_lst pa_nil))
      (pss_cons (ps_for PassesOwn.never rfl (pi_range1 rfl T.n_range (pa_cons (pe_op op_mod (pe_op op_fdiv (pe_cal (c_law_spread.mono (by decide)) hr rfl pass0 (pa_cons (pv 0) (pa_cons pe_int pa_nil))) pe_int) pe_int) pa_nil)) (pg_name (i := 2) sc_law_places.nd rfl (Or.inl rfl))
        (pss_cons (ps_set (i := 3) sc_law_places.nd rfl (Or.inl rfl) (pe_cal (c_law_cell_at.mono (by decide)) hr rfl pass0 (pa_cons (pv 0) (pa_cons (pe_op (op_plus (K := K) rfl) pe_int (pv 2)) pa_nil))))
        (pss_one (ps_expr (pe_bmK (K := K) rfl PySem.F.plainAttrs_list PySem.F.slot_list_append PySem.F.type_list_append mt_append (pv 1) (pa_cons (pe_op op_mod (pe_op op_fdiv (pv 3) pe_int) (pe_ix (ix_any (K := K) rfl) (pe_lst (pa_cons pe_int (pa_cons pe_int (pa_cons (pe_op op_pow pe_int pe_int) pa_nil)))) (pe_op op_mod (pv 3) pe_int) (fun _ _ => rfl))) pa_nil))))))
      (pss_cons (ps_ifJ (PW.pt (pw_and (pt_cmpR op_gt (pe_callB (call_lenAny (K := K) rfl) rfl T.n_len PySem.boot_len (pa_cons (pv 1) pa_nil)) pe_int (nomark _)) (pw_and1 (pt_cmpR (op_equ (K := K) rfl hr.units) (pe_op op_mod (pe_op op_fdiv (pe_cal (c_law_spread.mono (by decide)) hr rfl pass0 (pa_cons (pv 0) (pa_cons pe_int pa_nil))) pe_int) pe_int) pe_int (nomark _)))))
        (pss_one (ps_asg (pe_ix (ix_any (K := K) rfl) (pv 1) pe_int (fun _ _ => rfl)) (pg_sub (pv 1) pe_int set_list)))
        pss_nil)
      (pss_one (ps_ret (pv 1)))))), ?_⟩
  rintro ds c ⟨ns, rfl, rfl⟩
  show Sv K E _ _ [some (.d (dI ns)), none, none, none] _
  have hs := sprd_range ns 0
  walk_at "vs"
  refine for_R ?_
  walk_at "vs"
  refine use_spread (by decide) ?_
  walk_at "vs"
  refine ⟨_, rfl, ⟨by omega, by omega⟩, fun i ρ => ∃ o1 o2, ρ = [some (.d (dI ns)), some (oI (plc0 ns i)), o1, o2], ⟨none, none, rfl⟩, ?_, ?_⟩
  · rintro i ρ hi ⟨o1, o2, rfl⟩
    walk_at "vs"
    refine use_cell_at (by omega) ?_
    walk_at "vs"
    generalize hc : cat ns (1 + (i : Int)) = c
    refine ev_lst ?_
    walk_at "vs"
    refine ⟨[.d (.int 9), .d (.int 1000), .d (.int (10 ^ 40))], .cons rfl (.cons rfl (.cons rfl .nil)), by show 3 ≤ 1000; decide, ?_⟩
    walk_at "vs"
    refine ix_L (ds := [.int 9, .int 1000, .int (10 ^ 40)]) (y := .int (if c % 3 = 0 then 9 else if c % 3 = 1 then 1000 else 10 ^ 40)) rfl ?_ Item.int ?_
    · rcases (show c % 3 = 0 ∨ c % 3 = 1 ∨ c % 3 = 2 by omega) with e | e | e <;> rw [e] <;> rfl
    refine op_i (show 0 < _ from ?_) ?_
    · rcases (show c % 3 = 0 ∨ c % 3 = 1 ∨ c % 3 = 2 by omega) with e | e | e <;> rw [e] <;> decide
    refine v_ap ?hz ?_
    case hz => rw [List.length_map, plc0, List.length_map, List.length_range]; omega
    walk_at "vs"
    refine ⟨some (.d (.int i)), some (.d (.int c)), ?_⟩
    have e : plc0 ns (i + 1) = plc0 ns i ++ [plc c] := by rw [plc0, List.range_succ, List.map_append, ← hc]; rfl
    rw [e, oI, List.map_append]
    rfl
  · rintro ρ ⟨o1, o2, rfl⟩
    unfold plcs
    generalize plc0 ns (sprd ns 0 / 8 % 5).toNat = ps
    unfold plc1
    walk_at "vs"
    refine s_ifJ (fun ρ => ρ = [some (.d (dI ns)), some (oI (if 1 < ps.length ∧ sprd ns 0 / 40 % 3 = 1 then ps.set 1 (ps.getD 0 0) else ps)), o1, o2]) ?_ ?_
    · rintro ρ rfl
      walk_at "vs"
      exact res_o rfl
    walk_at "vs"
    refine len_L rfl ?_
    rw [datas_ints, List.length_map]
    walk_at "vs"
    refine ite2 (fun h => ?_) fun h => ?_
    · have h1 : 1 < ps.length := by have := of_decide_eq_true h; omega
      walk_at "vs"
      refine use_spread (by decide) ?_
      walk_at "vs"
      refine ite2 (fun h => ?_) fun h => ?_
      · have h2 : sprd ns 0 / 40 % 3 = 1 := of_decide_eq_true h
        rw [if_pos ⟨h1, h2⟩]
        walk_at "vs"
        rw [datas_ints]
        refine ix_L rfl (atI_int (k := 0) (by omega)) Item.int ?_
        walk_at "vs"
        refine ⟨_, _, 1, rfl, rfl, ?_, ?_⟩
        · rw [List.length_map]; unfold ixN; rw [if_pos (by decide), if_pos (by omega)]; rfl
        rw [oI, List.map_set]
      · have h2 : ¬ sprd ns 0 / 40 % 3 = 1 := fun z => h (decide_eq_true z)
        rw [if_neg fun z => h2 z.2]
        walk_at "vs"
        rfl
    · have h1 : ¬ 1 < ps.length := fun z => h (decide_eq_true (by omega))
      walk_at "vs"
      rw [if_neg fun z => h1 z.1]
def S_lcols (ds : List PyData) (c : AV) : Prop := ∃ (ps : List Int) (b : Int), ds = [dI ps, .int b] ∧ (2 ≤ b ∧ b ≤ 5) ∧ ps.length ≤ 100 ∧ (∀ p ∈ ps, 0 ≤ p ∧ p.toNat < 2 ^ 900) ∧ c = oT (cols b ps)
theorem ok_lcols (T : Txt K mg) : Cal P w K mg base CX0 2 "_law_columns" ["_law_places_here", "_law_base"] [] (spV K S_lcols NX) := by
  have c_law_figures : Cal P w K mg base CX0 1 "_law_figures" ["_law_place", "_law_base"] [] (spV K S_lfig NX) := ok_lfig T
  refine val T.x_law_columns sc_law_columns (fun ds c ⟨n, b, e, _⟩ => by rw [e]; rfl) (fun f cdv A outer s H E hr => ?_) [] (by simp)
  refine ⟨_, (pss_cons (ps_set (i := 2) sc_law_columns.nd rfl (Or.inr rfl) (pe_comp (N := ["_law_place", "_law_base"]) (cap := [none, some 1]) rfl rfl rfl (by kernel_rfl) (pi_seq (K := K) rfl (pv 0)) (fun _ _ _ _ => (pg_name (i := 0) (show (["_law_place", "_law_base"] : List Str).Nodup from by decide +kernel) rfl (Or.inl rfl))) (fun _ _ _ _ => pifs_nil) (fun _ _ _ _ => (pe_cal (c_law_figures.mono (by decide)) hr rfl pass0 (pa_cons (pv 0) (pa_cons (pv 1) pa_nil))))))
      (pss_cons (ps_set (i := 3) sc_law_columns.nd rfl (Or.inr rfl) (pe_maxD (K := K) rfl rfl rfl T.n_max (pa_cons (pe_comp (N := ["_law_row"]) (cap := [none]) rfl rfl rfl (by kernel_rfl) (pi_seq (K := K) rfl (pv 2)) (fun _ _ _ _ => (pg_name (i := 0) (show (["_law_row"] : List Str).Nodup from by decide +kernel) rfl (Or.inl rfl))) (fun _ _ _ _ => pifs_nil) (fun _ _ _ _ => (pe_callB (call_lenAny (K := K) rfl) rfl T.n_len PySem.boot_len (pa_cons (pv 0) pa_nil)))) pa_nil) (pk_cons pe_int pk_nil)))
      (pss_cons (ps_set (i := 2) sc_law_columns.nd rfl (Or.inr rfl) (pe_comp (N := ["_law_row", "_law_many"]) (cap := [none, some 3]) rfl rfl rfl (by kernel_rfl) (pi_seq (K := K) rfl (pv 2)) (fun _ _ _ _ => (pg_name (i := 0) (show (["_law_row", "_law_many"] : List Str).Nodup from by decide +kernel) rfl (Or.inl rfl))) (fun _ _ _ _ => pifs_nil) (fun _ _ _ _ => (pe_op (op_plus (K := K) rfl) (pe_op op_times (pe_lst (pa_cons pe_int pa_nil)) (pe_op op_sub (pv 1) (pe_callB (call_lenAny (K := K) rfl) rfl T.n_len PySem.boot_len (pa_cons (pv 0) pa_nil)))) (pv 0)))))
      (pss_one (ps_ret (pe_comp (N := ["_law_k", "_law_rows"]) (cap := [none, some 2]) rfl rfl rfl (by kernel_rfl) (pi_range1 rfl T.n_range (pa_cons (pv 3) pa_nil)) (fun _ _ _ _ => (pg_name (i := 0) (show (["_law_k", "_law_rows"] : List Str).Nodup from by decide +kernel) rfl (Or.inr rfl))) (fun _ _ _ _ => pifs_nil) (fun _ _ _ _ => (pe_callTy (call_tupK (K := K) rfl) rfl T.n_tuple PyProof.Rows.boot_tuple (pa_cons (pe_comp (N := ["_law_row", "_law_k"]) (cap := [none, some 0]) rfl rfl rfl (by kernel_rfl) (pi_seq (K := K) rfl (pv 1)) (fun _ _ _ _ => (pg_name (i := 0) (show (["_law_row", "_law_k"] : List Str).Nodup from by decide +kernel) rfl (Or.inl rfl))) (fun _ _ _ _ => pifs_nil) (fun _ _ _ _ => (pe_ix (ix_any (K := K) rfl) (pv 0) (pv 1) (fun _ _ => rfl)))) pa_nil))))))))), ?_⟩
  rintro ds c ⟨ps, b, rfl, hb, hl, hp, rfl⟩
  show Sv K E _ _ [some (.d (dI ps)), some (.d (.int b)), none, none] _
  walk_at "vs"
  refine comp_M (α := Int) ?_
  walk_at "vs"
  refine ⟨ps, PyData.int, fun p => oI (figs b p), .inl rfl, NR.av, by omega, fun i hi => ?_, _, Got.own (clean_map fun _ => oI_clean _), ?_⟩
  · show Gv K _ _ [none, some (.d (.int b))] _
    walk_at "vs"
    refine ⟨wk_0, ?_⟩
    walk_at "vs"
    exact use_lfig hb (hp _ (List.getElem_mem hi)).1 (hp _ (List.getElem_mem hi)).2 rfl
  have ed : (AV.own (ps.map fun p => oI (figs b p))).data = .list ((ps.map (figs b)).map dI) := by
    rw [own_data, List.map_map]
    congr 1
    exact List.map_congr_left fun p _ => oI_data _
  have hlen : ∀ p ∈ ps, (figs b p).length ≤ 900 := fun p h => figs_len hb (hp p h).1 (hp p h).2
  have hmx : mxf b ps ≤ 900 := mxf_le hlen
  refine v_sD ed ?_
  walk_at "vs"
  refine ev_maxD ?_
  walk_at "vs"
  refine comp_M (α := List Int) ?_
  walk_at "vs"
  refine ⟨ps.map (figs b), dI, fun r => .d (.int r.length), .inl rfl, NR.av, by rw [List.length_map]; omega, fun i hi => ?_, _, Got.own (clean_map fun _ => rfl), ?_⟩
  · show Gv K _ _ [none] _
    walk_at "vs"
    refine ⟨wk_0, ?_⟩
    walk_at "vs"
    refine len_L rfl ?_
    rw [List.length_map]
    rfl
  walk_at "vs"
  refine ⟨_, ((ps.map fun p => (figs b p).length).map fun (n : Nat) => (n : Int)), 0, rfl, NR.av, rfl, ?_, fun M hM => ?_⟩
  · rw [TV.data, AV.data, datas_mapd, dI, List.map_map, List.map_map, List.map_map]; rfl
  have eM : M = (mxf b ps : Nat) := mxl_is hM
  subst eM
  walk_at "vs"
  refine comp_M (α := List Int) ?_
  walk_at "vs"
  refine ⟨ps.map (figs b), dI, fun r => oI (pad (mxf b ps) r), .inl rfl, NR.av, by rw [List.length_map]; omega, fun i hi => ?_, _, Got.own (clean_map fun _ => oI_clean _), ?_⟩
  · show Gv K _ _ [none, some (.d (.int (mxf b ps : Nat)))] _
    have hri : ((ps.map (figs b))[i]).length ≤ 900 := by
      obtain ⟨p, h1, h2⟩ := List.mem_map.mp (List.getElem_mem hi)
      rw [← h2]
      exact hlen p h1
    generalize (ps.map (figs b))[i] = row at hri
    walk_at "vs"
    refine ⟨wk_0, ?_⟩
    walk_at "vs"
    refine ev_lst ?_
    walk_at "vs"
    refine ⟨[.d (.int 0)], .cons rfl .nil, by decide, ?_⟩
    walk_at "vs"
    refine len_L rfl ?_
    walk_at "vs"
    rw [List.length_map]
    have e : ((mxf b ps : Int) - (row.length : Int)).toNat = mxf b ps - row.length := by omega
    refine rep_L (ds := [.int 0]) rfl ⟨by omega, by omega⟩ (by rw [e]; show 1 * _ ≤ _; omega) ?_
    rw [e, rep_zeros, map_d_int]
    walk_at "vs"
    refine cat_L (ds := (List.replicate (mxf b ps - row.length) (0 : Int)).map .int) (es := row.map .int) (by rw [TV.data, AV.data, datas_mapd]) rfl (Kp.flat (noLsts_ints _)) (Kp.flat (noLsts_ints _)) (by rw [List.length_map, List.length_map, List.length_replicate]; omega) ?_
    rw [← List.map_append, map_d_int]
    rfl
  have ed2 : (AV.own ((ps.map (figs b)).map fun r => oI (pad (mxf b ps) r))).data = dRows (ps.map fun p => pad (mxf b ps) (figs b p)) := by
    rw [own_data, List.map_map, dRows, List.map_map]
    congr 1
    exact List.map_congr_left fun p _ => oI_data _
  refine v_sD ed2 ?_
  walk_at "vs"
  refine comp_R ?_
  walk_at "vs"
  refine ⟨_, fun k => .d (tI (ps.map fun p => (pad (mxf b ps) (figs b p)).getD k 0)), rfl, ⟨by omega, by omega⟩, fun i hi => ?_, _, Got.own (clean_map fun _ => tI_flat _), res_o ?_⟩
  · show Gv K _ _ [none, some (.d (dRows (ps.map fun p => pad (mxf b ps) (figs b p))))] _
    walk_at "vs"
    refine ⟨wk_0, ?_⟩
    walk_at "vs"
    refine comp_M (α := List Int) ?_
    walk_at "vs"
    refine ⟨ps.map fun p => pad (mxf b ps) (figs b p), dI, fun r => .d (.int (r.getD i 0)), .inl rfl, NR.av, by rw [List.length_map]; omega, fun j hj => ?_, _, Got.own (clean_map fun _ => rfl), ?_⟩
    · show Gv K _ _ [none, some (.d (.int i))] _
      walk_at "vs"
      refine ⟨wk_0, ?_⟩
      walk_at "vs"
      refine ix_L rfl (atI_int ?_) Item.d rfl
      obtain ⟨p, h1, h2⟩ := List.mem_map.mp (List.getElem_mem hj)
      rw [← h2, pad_len (figs_mxf h1)]
      omega
    walk_at "vs"
    refine bi_tupL (ds := (ps.map fun p => (pad (mxf b ps) (figs b p)).getD i 0).map .int) ?_ (.inl rfl) rfl
    rw [TV.data, AV.data, datas_mapd]
    simp only [List.map_map]
    rfl
  · rw [oT, cols, List.map_map]
    rfl
theorem use_lcols {Q : TV → Prop} {ps : List Int} {b : Int} {a : TV} (na : NR a) (ha : a.data = dI ps) (hb : 2 ≤ b ∧ b ≤ 5) (hl : ps.length ≤ 100) (hp : ∀ p ∈ ps, 0 ≤ p ∧ p.toNat < 2 ^ 900) (q : Q (.av (oT (cols b ps)))) : Cl S_lcols [] Q [a, .av (.d (.int b))] :=
  call_of (.cons na (by walk_at "nrs")) ⟨ps, b, by simp [ha, show (TV.av (AV.d (PyData.int b))).data = .int b from rfl], hb, hl, hp, rfl⟩ (Got.own (oT_clean _)) q
def S_are (ds : List PyData) (c : AV) : Prop := ∃ cs : List (List Int), ds = [.list (cs.map tI), .list (cs.map tI)] ∧ cs.length ≤ 1000 ∧ c = .d (.bool true)
theorem ok_are (T : Txt K mg) : Cal P w K mg base CX0 2 "_law_are_columns" ["_law_found", "_law_due"] [] (spV K S_are NX) := by
  have c_law_whole : Cal P w K mg base CX0 1 "_law_whole" ["_law_found"] [] (spV K S_whole NX) := ok_whole T
  refine val T.x_law_are_columns sc_law_are_columns (fun ds c ⟨n, e, _⟩ => by rw [e]; rfl) (fun f cdv A outer s H E hr => ?_) [] (by simp)
  refine ⟨_, (pss_cons (ps_if (PW.pt (pw_or (pt_not (pt_val (pe_callB (call_isi2K (K := K) rfl) rfl T.n_isinstance PyProof.Rows.boot_isinstance (pa_cons (pv 0) (pa_cons (pe_bltn (v := .ty "list") rfl T.n_list PyProof.Rows.boot_list rfl) pa_nil))))) (pw_or1 (pt_cmpR (op_neq (K := K) rfl hr.units) (pe_callB (call_lenAny (K := K) rfl) rfl T.n_len PySem.boot_len (pa_cons (pv 0) pa_nil)) (pe_callB (call_lenAny (K := K) rfl) rfl T.n_len PySem.boot_len (pa_cons (pv 1) pa_nil)) (nomark _)))))
        (pss_one (ps_ret pe_bl))
        pss_nil)
      (pss_cons (ps_for PassesOwn.never rfl (pi_range1 rfl T.n_range (pa_cons (pe_callB (call_lenAny (K := K) rfl) rfl T.n_len PySem.boot_len (pa_cons (pv 1) pa_nil)) pa_nil)) (pg_name (i := 2) sc_law_are_columns.nd rfl (Or.inl rfl))
        (pss_cons (ps_if (PW.pt (pw_or (pt_not (pt_val (pe_callB (call_isi2K (K := K) rfl) rfl T.n_isinstance PyProof.Rows.boot_isinstance (pa_cons (pe_ix (ix_any (K := K) rfl) (pv 0) (pv 2) (fun _ _ => rfl)) (pa_cons (pe_bltn (v := .ty "tuple") rfl T.n_tuple PyProof.Rows.boot_tuple rfl) pa_nil))))) (pw_or1 (pt_cmpR (op_neq (K := K) rfl hr.units) (pe_ix (ix_any (K := K) rfl) (pv 0) (pv 2) (fun _ _ => rfl)) (pe_ix (ix_any (K := K) rfl) (pv 1) (pv 2) (fun _ _ => rfl)) (nomark _)))))
          (pss_one (ps_ret pe_bl))
          pss_nil)
        (pss_one (ps_for PassesOwn.never rfl (pi_seq (K := K) rfl (pe_ix (ix_any (K := K) rfl) (pv 0) (pv 2) (fun _ _ => rfl))) (pg_name (i := 3) sc_law_are_columns.nd rfl (Or.inl rfl))
          (pss_one (ps_if (pt_not (pt_val (pe_cal (c_law_whole.mono (by decide)) hr rfl pass0 (pa_cons (pv 3) pa_nil))))
            (pss_one (ps_ret pe_bl))
            pss_nil))))))
      (pss_one (ps_ret pe_bl)))), ?_⟩
  rintro ds c ⟨cs, rfl, hl, rfl⟩
  show Sv K E _ _ [some (.d (.list (cs.map tI))), some (.d (.list (cs.map tI))), none, none] _
  walk_at "vs"
  refine isi_list rfl ?_
  walk_at "vs"
  refine len_L rfl ?_
  walk_at "vs"
  refine len_L rfl ?_
  walk_at "vs"
  refine iteNS rfl ?_
  walk_at "vs"
  refine for_R ?_
  walk_at "vs"
  refine len_L rfl ?_
  walk_at "vs"
  rw [List.length_map]
  refine ⟨_, rfl, ⟨by omega, by omega⟩, fun i ρ => ∃ o1 o2, ρ = [some (.d (.list (cs.map tI))), some (.d (.list (cs.map tI))), o1, o2], ⟨none, none, rfl⟩, ?_, ?_⟩
  · rintro i ρ hi ⟨o1, o2, rfl⟩
    have hi' : i < cs.length := by omega
    have ea : atI (cs.map tI) (i : Int) = some (tI cs[i]) := atI_nat (by rw [List.getElem?_map, List.getElem?_eq_getElem hi']; rfl)
    walk_at "vs"
    refine ix_L rfl ea Item.d ?_
    walk_at "vs"
    refine isi_tuple rfl ?_
    walk_at "vs"
    refine ix_L rfl ea Item.d ?_
    walk_at "vs"
    refine ix_L rfl ea Item.d ?_
    walk_at "vs"
    refine ne_d (f := tI) (c := cs[i]) (d := cs[i]) Enc.int.tuple rfl rfl ?_
    walk_at "vs"
    refine iteNS rfl ?_
    walk_at "vs"
    refine for_L (α := Int) ?_
    walk_at "vs"
    refine ix_L rfl ea Item.d ?_
    refine ⟨cs[i], PyData.int, .inr rfl, ⟨_, rfl⟩, fun j ρ => ∃ o1 o2, ρ = [some (.d (.list (cs.map tI))), some (.d (.list (cs.map tI))), o1, o2], ⟨_, _, rfl⟩, ?_, ?_⟩
    · rintro j ρ hj ⟨o1, o2, rfl⟩
      walk_at "vs"
      refine use_whole ?_
      walk_at "vs"
      exact ⟨_, _, rfl⟩
    · rintro ρ ⟨o1, o2, rfl⟩
      exact ⟨_, _, rfl⟩
  · rintro ρ ⟨o1, o2, rfl⟩
    walk_at "vs"
    exact res_d rfl
theorem use_are {Q : TV → Prop} {cs : List (List Int)} {a b : TV} (na : NR a) (nb : NR b) (ha : a.data = .list (cs.map tI)) (hb : b.data = .list (cs.map tI)) (hl : cs.length ≤ 1000) (q : Q (.av (.d (.bool true)))) : Cl S_are [] Q [a, b] :=
  call_of (.cons na (.cons nb .nil)) ⟨cs, by simp [ha, hb], hl, rfl⟩ (Got.own rfl) q


theorem ok_law (T : Txt K mg) {f : Addr} {fd : FuncData} (F : FunD K "law" "law" s_law .none f fd) : FnOk P w K mg base CX0 6 f fd ["_law_script"] (sp_law K) := by
  have c_law_spread : Cal P w K mg base CX0 2 "_law_spread" ["_law_script", "_law_k"] [] (spV K S_spread NX) := ok_spread T
  have c_law_whole : Cal P w K mg base CX0 1 "_law_whole" ["_law_found"] [] (spV K S_whole NX) := ok_whole T
  have c_law_places : Cal P w K mg base CX0 3 "_law_places" ["_law_script"] [] (spV K S_places NX) := ok_places T
  have c_law_columns : Cal P w K mg base CX0 2 "_law_columns" ["_law_places_here", "_law_base"] [] (spV K S_lcols NX) := ok_lcols T
  have c_law_are_columns : Cal P w K mg base CX0 2 "_law_are_columns" ["_law_found", "_law_due"] [] (spV K S_are NX) := ok_are T
  have c_columns_of : Cal P w K mg base CX0 3 "columns_of" ["places", "base"] [] (spV K S_columns_of NX) := ok_columns_of T [] (by simp)
  have c_columns_of_d : Cal P w K mg base CX0 3 "columns_of" ["places", "base"] [.int 2] (spV K S_columns_of NX) := ok_columns_of T [.int 2] (by simp)
  have c_numbers_of : Cal P w K mg base CX0 3 "numbers_of" ["columns", "many", "base"] [] (spV K S_numbers_of NX) := ok_numbers_of T [] (by simp)
  have c_numbers_of_d : Cal P w K mg base CX0 3 "numbers_of" ["columns", "many", "base"] [.int 2] (spV K S_numbers_of NX) := ok_numbers_of T [.int 2] (by simp)
  refine val_law (k := 5) F sc_law rfl fun cdv A outer s H E hr => ?_
  refine ⟨_, (pss_cons (ps_set (i := 1) sc_law.nd rfl (Or.inl rfl) (pe_cal (c_law_spread.mono (by decide)) hr rfl pass0 (pa_cons (pv 0) (pa_cons pe_int pa_nil))))
      (pss_cons (ps_set (i := 2) sc_law.nd rfl (Or.inl rfl) (pe_op (op_plus (K := K) rfl) pe_int (pe_op op_mod (pv 1) pe_int)))
      (pss_cons (ps_set (i := 3) sc_law.nd rfl (Or.inl rfl) (pe_cal (c_law_places.mono (by decide)) hr rfl pass0 (pa_cons (pv 0) pa_nil)))
      (pss_cons (ps_set (i := 4) sc_law.nd rfl (Or.inl rfl) (pe_cal (c_law_columns.mono (by decide)) hr rfl pass0 (pa_cons (pv 3) (pa_cons (pv 2) pa_nil))))
      (pss_cons (ps_set (i := 5) sc_law.nd rfl (Or.inl rfl) (pe_callTy (call_listK (K := K) rfl) rfl T.n_list PyProof.Rows.boot_list (pa_cons (pv 3) pa_nil)))
      (pss_cons (ps_ifJ (PW.pt (pw_and (pt_cmpR (op_equ (K := K) rfl hr.units) (pe_op op_mod (pe_op op_fdiv (pv 1) pe_int) pe_int) pe_int (nomark _)) (pw_and1 (pt_cmpR (op_equ (K := K) rfl hr.units) (pv 2) pe_int (nomark _)))))
        (pss_one (ps_set (i := 6) sc_law.nd rfl (Or.inl rfl) (pe_cal (c_columns_of_d.mono (by decide)) hr rfl pass0 (pa_cons (pv 5) pa_nil))))
        (pss_one (ps_set (i := 6) sc_law.nd rfl (Or.inl rfl) (pe_cal (c_columns_of.mono (by decide)) hr rfl pass0 (pa_cons (pv 5) (pa_cons (pv 2) pa_nil))))))
      (pss_cons (ps_if (PW.pt (pw_or (pt_not (pt_val (pe_cal (c_law_are_columns.mono (by decide)) hr rfl pass0 (pa_cons (pv 6) (pa_cons (pv 4) pa_nil))))) (pw_or1 (pt_cmpR (op_neq (K := K) rfl hr.units) (pv 5) (pv 3) (nomark _)))))
        (pss_one (ps_ret pe_bl))
        pss_nil)
      (pss_cons (ps_set (i := 7) sc_law.nd rfl (Or.inl rfl) (pe_op op_times (pe_lst (pa_cons (pe_callTy (call_tupK (K := K) rfl) rfl T.n_tuple PyProof.Rows.boot_tuple (pa_cons (pe_op op_times (pe_lst (pa_cons pe_int pa_nil)) (pe_callB (call_lenAny (K := K) rfl) rfl T.n_len PySem.boot_len (pa_cons (pv 3) pa_nil))) pa_nil)) pa_nil)) (pe_op op_mod (pe_cal (c_law_spread.mono (by decide)) hr rfl pass0 (pa_cons (pv 0) (pa_cons pe_int pa_nil))) pe_int)))
      (pss_cons (ps_ifJ (PW.pt (pw_and (pt_cmpR (op_equ (K := K) rfl hr.units) (pe_op op_mod (pe_op op_fdiv (pv 1) pe_int) pe_int) pe_int (nomark _)) (pw_and1 (pt_cmpR (op_equ (K := K) rfl hr.units) (pv 2) pe_int (nomark _)))))
        (pss_one (ps_set (i := 8) sc_law.nd rfl (Or.inl rfl) (pe_cal (c_numbers_of_d.mono (by decide)) hr rfl pass0 (pa_cons (pe_op (op_plus (K := K) rfl) (pv 7) (pv 4)) (pa_cons (pe_callB (call_lenAny (K := K) rfl) rfl T.n_len PySem.boot_len (pa_cons (pv 3) pa_nil)) pa_nil)))))
        (pss_one (ps_set (i := 8) sc_law.nd rfl (Or.inl rfl) (pe_cal (c_numbers_of.mono (by decide)) hr rfl pass0 (pa_cons (pe_op (op_plus (K := K) rfl) (pv 7) (pv 4)) (pa_cons (pe_callB (call_lenAny (K := K) rfl) rfl T.n_len PySem.boot_len (pa_cons (pv 3) pa_nil)) (pa_cons (pv 2) pa_nil)))))))
      (pss_cons (ps_if (PW.pt (pw_or (pt_not (pt_val (pe_callB (call_isi2K (K := K) rfl) rfl T.n_isinstance PyProof.Rows.boot_isinstance (pa_cons (pv 8) (pa_cons (pe_bltn (v := .ty "list") rfl T.n_list PyProof.Rows.boot_list rfl) pa_nil))))) (pw_or (pt_cmpR (op_neq (K := K) rfl hr.units) (pv 8) (pv 3) (nomark _)) (pw_or1 (pt_not (pt_val (pe_callB (call_allB (K := K) rfl rfl) rfl T.n_all PyProof.Rows.boot_all (pa_cons (pe_comp (N := ["_law_one"]) (cap := [none]) rfl rfl rfl (by kernel_rfl) (pi_seq (K := K) rfl (pv 8)) (fun _ _ _ _ => (pg_name (i := 0) (show (["_law_one"] : List Str).Nodup from by decide +kernel) rfl (Or.inl rfl))) (fun _ _ _ _ => pifs_nil) (fun _ _ _ _ => (pe_cal (c_law_whole.mono (by decide)) hr rfl pass0 (pa_cons (pv 0) pa_nil)))) pa_nil))))))))
        (pss_one (ps_ret pe_bl))
        pss_nil)
      (pss_cons (ps_expr (pe_bmK (K := K) rfl PySem.F.plainAttrs_list PySem.F.slot_list_append PySem.F.type_list_append mt_append (pv 6) (pa_cons (pe_tup pa_nil) pa_nil)))
      (pss_cons (ps_expr (pe_bmK (K := K) rfl PySem.F.plainAttrs_list PySem.F.slot_list_append PySem.F.type_list_append mt_append (pv 8) (pa_cons pe_int pa_nil)))
      (pss_one (ps_ret (pe_and (pe_cmpR (op_equ (K := K) rfl hr.units) (pe_cal (c_numbers_of.mono (by decide)) hr rfl pass0 (pa_cons (pe_callTy (call_listK (K := K) rfl) rfl T.n_list PyProof.Rows.boot_list (pa_cons (pv 4) pa_nil)) (pa_cons (pe_callB (call_lenAny (K := K) rfl) rfl T.n_len PySem.boot_len (pa_cons (pv 3) pa_nil)) (pa_cons (pv 2) pa_nil)))) (pv 3) (nomark _)) (pe_one (pe_cmpR (op_equ (K := K) rfl hr.units) (pe_cal (c_columns_of.mono (by decide)) hr rfl pass0 (pa_cons (pv 3) (pa_cons (pv 2) pa_nil))) (pv 4) (nomark _)))))))))))))))))), ?_⟩
  intro ns hn
  show Sv K E _ _ [some (.d (dI ns)), none, none, none, none, none, none, none, none] _
  walk_at "vs"
  refine use_spread (by decide) ?_
  have hs := sprd_range ns 0
  generalize hc : sprd ns 0 = c at hs
  walk_at "vs"
  refine call_of (by walk_at "nrs") ⟨ns, rfl, rfl⟩ (Got.own (oI_clean _)) ?_
  obtain ⟨hl, hp⟩ := plcs_ok ns
  have hp' : ∀ p ∈ plcs ns, 0 ≤ p ∧ p.toNat < 2 ^ 900 := fun p h => by
    have := hp p h
    refine ⟨this.1, ?_⟩
    have e : (2 : Nat) ^ 900 = 2 ^ 133 * 2 ^ 767 := by rw [← Nat.pow_add]
    have h1 : p.toNat < 2 ^ 133 := by
      have : (10 : Int) ^ 40 ≤ 2 ^ 133 := by decide
      omega
    exact Nat.lt_of_lt_of_le h1 (by rw [e]; exact Nat.le_mul_of_pos_right _ (Nat.two_pow_pos _))
  generalize plcs ns = ps at hl hp hp'
  refine v_sD (oI_data _) ?_
  have hb : 2 ≤ 2 + c % 4 ∧ 2 + c % 4 ≤ 5 := by omega
  generalize hbb : 2 + c % 4 = b at hb
  have hcl : (cols b ps).length ≤ 900 := by
    unfold cols
    rw [List.length_map, List.length_range]
    exact mxf_le fun p h => figs_len hb (hp' p h).1 (hp' p h).2
  have hce : ∀ c ∈ cols b ps, ps.length ≤ c.length := fun c h => by
    obtain ⟨k, _, rfl⟩ := List.mem_map.mp h
    rw [List.length_map]; omega
  walk_at "vs"
  refine use_lcols NR.av rfl hb (by omega) hp' ?_
  refine v_sD (oT_data _) ?_
  walk_at "vs"
  refine bi_listL rfl Kp.d ?_
  rw [map_d_int]
  walk_at "vs"
  -- columns_of
  refine s_ifJ (fun ρ => ρ = [some (.d (dI ns)), some (.d (.int c)), some (.d (.int b)), some (.d (dI ps)), some (.d (.list ((cols b ps).map tI))), some (oI ps), some (oT (cols b ps)), none, none]) ?_ ?_
  case refine_2 =>
    walk_at "vs"
    refine ite2 (fun h => ?_) fun h => ?_
    · walk_at "vs"
      refine ite2 (fun h => ?_) fun h => ?_
      · have e : b = 2 := of_decide_eq_true h
        walk_at "vs"
        refine use_columns_of2 NR.bor (by rw [TV.data, datas_ints]; rfl) (by omega) hp' ?_
        walk_at "vs"
        rw [e]
      · walk_at "vs"
        refine use_columns_of NR.bor (by rw [TV.data, datas_ints]; rfl) hb (by omega) hp' ?_
        walk_at "vs"
        rfl
    · walk_at "vs"
      refine use_columns_of NR.bor (by rw [TV.data, datas_ints]; rfl) hb (by omega) hp' ?_
      walk_at "vs"
      rfl
  rintro ρ rfl
  walk_at "vs"
  refine use_are NR.bor NR.av (by rw [TV.data, datas_mapd]) rfl (by omega) ?_
  walk_at "vs"
  refine ne_d (f := dI) (c := ps) (d := ps) Enc.int.list (by rw [TV.data, datas_ints]; rfl) rfl ?_
  walk_at "vs"
  refine iteNS rfl ?_
  walk_at "vs"
  -- columns of noughts
  refine ev_lst ?_
  walk_at "vs"
  refine ev_lst ?_
  walk_at "vs"
  refine ⟨[.d (.int 0)], .cons rfl .nil, by decide, ?_⟩
  walk_at "vs"
  refine len_L rfl ?_
  rw [List.length_map]
  walk_at "vs"
  refine rep_L (ds := [.int 0]) rfl ⟨by omega, by omega⟩ (by show 1 * _ ≤ _; omega) ?_
  rw [Int.toNat_natCast, rep_zeros, map_d_int]
  walk_at "vs"
  refine bi_tupL (ds := (List.replicate ps.length (0 : Int)).map .int) (by rw [TV.data, AV.data, datas_mapd]) (.inl rfl) ?_
  walk_at "vs"
  refine ⟨[.d (tI (List.replicate ps.length 0))], .cons rfl .nil, by show 1 ≤ 1000; decide, ?_⟩
  walk_at "vs"
  refine use_spread (by decide) ?_
  have hz := sprd_range ns 5
  generalize sprd ns 5 = z at hz
  obtain ⟨m, em, hm⟩ : ∃ m : Nat, z % 6 = m ∧ m < 6 := ⟨(z % 6).toNat, by omega, by omega⟩
  walk_at "vs"
  rw [em]
  refine rep_L (ds := [tI (List.replicate ps.length 0)]) (by simp [noLsts, tI_flat]) ⟨by omega, by omega⟩ (by show 1 * _ ≤ _; omega) ?_
  have er : ∀ m : Nat, (List.replicate m [tI (List.replicate ps.length 0)]).flatten = (List.replicate m (List.replicate ps.length (0 : Int))).map tI := fun m => by
    induction m with
    | zero => rfl
    | succ m ih => rw [List.replicate_succ, List.flatten_cons, ih, List.replicate_succ]; rfl
  rw [Int.toNat_natCast, er]
  have map_d_tI : ∀ cs : List (List Int), (cs.map tI).map AV.d = cs.map fun c => .d (tI c) := fun cs => by rw [List.map_map]; rfl
  have flat_tI : ∀ cs : List (List Int), noLsts (cs.map tI) = true := fun cs => noLsts_map tI_flat cs
  rw [map_d_tI]
  walk_at "vs"
  -- numbers_of
  have hnum : ∀ z : Nat, (List.range ps.length).map (fun k => num b (((List.replicate z (List.replicate ps.length (0 : Int))) ++ cols b ps).map fun c => c.getD k 0)) = ps := fun z => nums_cols hb fun p h => (hp p h).1
  have hlens : ∀ c ∈ List.replicate m (List.replicate ps.length (0 : Int)) ++ cols b ps, ps.length ≤ c.length := fun c h => by
    rcases List.mem_append.mp h with h | h
    · rw [List.eq_of_mem_replicate h, List.length_replicate]; omega
    · exact hce c h
  refine s_ifJ (fun ρ => ρ = [some (.d (dI ns)), some (.d (.int c)), some (.d (.int b)), some (.d (dI ps)), some (.d (.list ((cols b ps).map tI))), some (oI ps), some (oT (cols b ps)), some (oT (List.replicate m (List.replicate ps.length (0 : Int)))), some (oI ps)]) ?_ ?_
  case refine_2 =>
    have fin1 : ∀ {Q : TV → Prop}, Q (.av (oI ps)) → Cl S_numbers_of [] Q [.av (oT (List.replicate m (List.replicate ps.length (0 : Int)) ++ cols b ps)), .av (.d (.int ps.length)), .av (.d (.int b))] := fun {Q} q =>
      call_of (by walk_at "nrs") ⟨List.replicate m (List.replicate ps.length (0 : Int)) ++ cols b ps, ps.length, b, by simp only [List.map_cons, List.map_nil, TV.data]; rw [oT_data]; rfl, hb, by omega, by rw [List.length_append, List.length_replicate]; omega, hlens, rfl⟩ (Got.own (oI_clean _)) (by rw [hnum m]; exact q)
    have fin2 : b = 2 → ∀ {Q : TV → Prop}, Q (.av (oI ps)) → Cl S_numbers_of [.int 2] Q [.av (oT (List.replicate m (List.replicate ps.length (0 : Int)) ++ cols b ps)), .av (.d (.int ps.length))] := fun e2 {Q} q =>
      call_of (by walk_at "nrs") ⟨List.replicate m (List.replicate ps.length (0 : Int)) ++ cols b ps, ps.length, b, by simp only [List.map_cons, List.map_nil, TV.data]; rw [oT_data, e2]; rfl, hb, by omega, by rw [List.length_append, List.length_replicate]; omega, hlens, rfl⟩ (Got.own (oI_clean _)) (by rw [hnum m]; exact q)
    have cat1 : ∀ {Q : TV → Prop}, Q (.av (oT (List.replicate m (List.replicate ps.length (0 : Int)) ++ cols b ps))) → Op K E NE (rPlus K) (.bor (.list (AV.datas ((List.replicate m (List.replicate ps.length (0 : Int))).map fun c => .d (tI c))))) (.av (.d (.list ((cols b ps).map tI)))) Q := fun {Q} q => by
      rw [datas_mapd]
      refine cat_L rfl rfl (Kp.flat (flat_tI _)) (Kp.flat (flat_tI _)) (by rw [List.length_map, List.length_map, List.length_replicate]; omega) ?_
      rw [← List.map_append, map_d_tI]
      exact q
    walk_at "vs"
    refine ite2 (fun h => ?_) fun h => ?_
    · walk_at "vs"
      refine ite2 (fun h => ?_) fun h => ?_
      · have e : b = 2 := of_decide_eq_true h
        walk_at "vs"
        refine cat1 ?_
        walk_at "vs"
        refine len_L rfl ?_
        rw [List.length_map]
        walk_at "vs"
        refine fin2 e ?_
        walk_at "vs"
        rfl
      · walk_at "vs"
        refine cat1 ?_
        walk_at "vs"
        refine len_L rfl ?_
        rw [List.length_map]
        walk_at "vs"
        refine fin1 ?_
        walk_at "vs"
        rfl
    · walk_at "vs"
      refine cat1 ?_
      walk_at "vs"
      refine len_L rfl ?_
      rw [List.length_map]
      walk_at "vs"
      refine fin1 ?_
      walk_at "vs"
      rfl
  rintro ρ rfl
  walk_at "vs"
  refine isi_list rfl ?_
  walk_at "vs"
  refine ne_d (f := dI) (c := ps) (d := ps) Enc.int.list (by rw [TV.data, datas_ints]; rfl) rfl ?_
  walk_at "vs"
  refine iteNS rfl ?_
  walk_at "vs"
  refine comp_M (α := Int) ?_
  walk_at "vs"
  rw [datas_ints]
  refine ⟨ps, PyData.int, fun _ => .d (.bool true), .inl rfl, NR.bor, by omega, fun i hi => ?_, _, Got.own (clean_map fun _ => rfl), ?_⟩
  · show Gv K _ _ [none] _
    walk_at "vs"
    refine ⟨wk_0, ?_⟩
    walk_at "vs"
    exact use_whole rfl
  walk_at "vs"
  refine bi_all (cs := ps.map fun _ => true) (by rw [TV.data, AV.data, datas_mapd, List.map_map]; rfl) ?_
  have eall : (ps.map fun _ => true).all id = true := by simp
  rw [eall]
  walk_at "vs"
  refine ev_tup (ea_nil ⟨[], .nil, Nat.zero_le _, ?_⟩)
  refine v_ap ?hz ?_
  case hz => rw [List.length_map]; omega
  walk_at "vs"
  refine v_ap ?hz ?_
  case hz => rw [List.length_map]; omega
  walk_at "vs"
  refine bi_listL rfl Kp.d ?_
  rw [map_d_tI]
  walk_at "vs"
  refine len_L rfl ?_
  rw [List.length_map]
  walk_at "vs"
  refine call_of (by walk_at "nrs") ⟨cols b ps, ps.length, b, by simp only [List.map_cons, List.map_nil, TV.data]; rw [oT_data]; rfl, hb, by omega, by omega, hce, rfl⟩ (Got.own (oI_clean _)) ?_
  have h0 := hnum 0
  rw [List.replicate_zero, List.nil_append] at h0
  rw [h0]
  walk_at "vs"
  refine eq_d (f := dI) (c := ps) (d := ps) Enc.int.list (by rw [TV.data, oI_data]) rfl ?_
  walk_at "vs"
  refine iteD rfl ?_
  walk_at "vs"
  refine use_columns_of NR.av rfl hb (by omega) hp' ?_
  walk_at "vs"
  refine eq_d (f := fun cs : List (List Int) => PyData.list (cs.map tI)) (c := cols b ps) (d := cols b ps) Enc.int.tuple.list (by rw [TV.data, oT_data]) rfl ?_
  rw [decide_eq_true rfl]
  exact res_d rfl

end
theorem all_mk {l : PySem.W.OpenLaw} {w : World} {K : PySem.W.Frag} {h : Heap} {mg : Str → Option Value} {fa : Addr} (X : K.In h) (G : h.Ns mainGlobals mg) (hfa : mg "law" = some (.ref fa))
    {t_LEAST_BASE : Tok} (g_LEAST_BASE : PySem.W.nsIn K mainGlobals "LEAST_BASE" = some (some (.int 2 t_LEAST_BASE)))
    {t_GREATEST_BASE : Tok} (g_GREATEST_BASE : PySem.W.nsIn K mainGlobals "GREATEST_BASE" = some (some (.int 5 t_GREATEST_BASE)))
    (z_all : PySem.W.nsIn K mainGlobals "all" = some none)
    (z_bool : PySem.W.nsIn K mainGlobals "bool" = some none)
    (z_int : PySem.W.nsIn K mainGlobals "int" = some none)
    (z_isinstance : PySem.W.nsIn K mainGlobals "isinstance" = some none)
    (z_len : PySem.W.nsIn K mainGlobals "len" = some none)
    (z_list : PySem.W.nsIn K mainGlobals "list" = some none)
    (z_max : PySem.W.nsIn K mainGlobals "max" = some none)
    (z_range : PySem.W.nsIn K mainGlobals "range" = some none)
    (z_tuple : PySem.W.nsIn K mainGlobals "tuple" = some none)
    {f0 : Addr} {oc0 kV0 dc0 pm0 cd0 ct0 : Value} {od0 an0 : Option Addr} {sl0 : Array (Option Value)}
    (a0 : PySem.W.nsIn K mainGlobals "want_base" = some (some (.ref f0))) (l0 : K.lookup f0 = some ⟨oc0, od0, .func (PySem.W.fnOf "want_base" "want_base" (defArgs s_want_base) (defBody s_want_base) (defScope s_want_base) .none kV0 dc0 pm0 an0 cd0 ct0), sl0⟩) (c0 : PySem.W.codeIn K cd0 "want_base" = true) (k0 : PySem.W.keepIn K (.ref f0) = true)
    {f1 : Addr} {oc1 kV1 dc1 pm1 cd1 ct1 : Value} {od1 an1 : Option Addr} {sl1 : Array (Option Value)}
    {T1 : Addr} {oq1 : Value} {oe1 : Option Addr} {sq1 : Array (Option Value)} {tk1 : Tok} {nq1 : Nat}
    (a1 : PySem.W.nsIn K mainGlobals "figures_of" = some (some (.ref f1))) (l1 : K.lookup f1 = some ⟨oc1, od1, .func (PySem.W.fnOf "figures_of" "figures_of" (defArgs s_figures_of) (defBody s_figures_of) (defScope s_figures_of) (.ref T1) kV1 dc1 pm1 an1 cd1 ct1), sl1⟩)
    (d1 : K.lookup T1 = some ⟨oq1, oe1, .seq #[.int 2 tk1] nq1, sq1⟩) (c1 : PySem.W.codeIn K cd1 "figures_of" = true) (k1 : PySem.W.keepIn K (.ref f1) = true)
    {f2 : Addr} {oc2 kV2 dc2 pm2 cd2 ct2 : Value} {od2 an2 : Option Addr} {sl2 : Array (Option Value)}
    {T2 : Addr} {oq2 : Value} {oe2 : Option Addr} {sq2 : Array (Option Value)} {tk2 : Tok} {nq2 : Nat}
    (a2 : PySem.W.nsIn K mainGlobals "number_of" = some (some (.ref f2))) (l2 : K.lookup f2 = some ⟨oc2, od2, .func (PySem.W.fnOf "number_of" "number_of" (defArgs s_number_of) (defBody s_number_of) (defScope s_number_of) (.ref T2) kV2 dc2 pm2 an2 cd2 ct2), sl2⟩)
    (d2 : K.lookup T2 = some ⟨oq2, oe2, .seq #[.int 2 tk2] nq2, sq2⟩) (c2 : PySem.W.codeIn K cd2 "number_of" = true) (k2 : PySem.W.keepIn K (.ref f2) = true)
    {f3 : Addr} {oc3 kV3 dc3 pm3 cd3 ct3 : Value} {od3 an3 : Option Addr} {sl3 : Array (Option Value)}
    (a3 : PySem.W.nsIn K mainGlobals "filled" = some (some (.ref f3))) (l3 : K.lookup f3 = some ⟨oc3, od3, .func (PySem.W.fnOf "filled" "filled" (defArgs s_filled) (defBody s_filled) (defScope s_filled) .none kV3 dc3 pm3 an3 cd3 ct3), sl3⟩) (c3 : PySem.W.codeIn K cd3 "filled" = true) (k3 : PySem.W.keepIn K (.ref f3) = true)
    {f4 : Addr} {oc4 kV4 dc4 pm4 cd4 ct4 : Value} {od4 an4 : Option Addr} {sl4 : Array (Option Value)}
    (a4 : PySem.W.nsIn K mainGlobals "at_each" = some (some (.ref f4))) (l4 : K.lookup f4 = some ⟨oc4, od4, .func (PySem.W.fnOf "at_each" "at_each" (defArgs s_at_each) (defBody s_at_each) (defScope s_at_each) .none kV4 dc4 pm4 an4 cd4 ct4), sl4⟩) (c4 : PySem.W.codeIn K cd4 "at_each" = true) (k4 : PySem.W.keepIn K (.ref f4) = true)
    {f5 : Addr} {oc5 kV5 dc5 pm5 cd5 ct5 : Value} {od5 an5 : Option Addr} {sl5 : Array (Option Value)}
    {T5 : Addr} {oq5 : Value} {oe5 : Option Addr} {sq5 : Array (Option Value)} {tk5 : Tok} {nq5 : Nat}
    (a5 : PySem.W.nsIn K mainGlobals "columns_of" = some (some (.ref f5))) (l5 : K.lookup f5 = some ⟨oc5, od5, .func (PySem.W.fnOf "columns_of" "columns_of" (defArgs s_columns_of) (defBody s_columns_of) (defScope s_columns_of) (.ref T5) kV5 dc5 pm5 an5 cd5 ct5), sl5⟩)
    (d5 : K.lookup T5 = some ⟨oq5, oe5, .seq #[.int 2 tk5] nq5, sq5⟩) (c5 : PySem.W.codeIn K cd5 "columns_of" = true) (k5 : PySem.W.keepIn K (.ref f5) = true)
    {f6 : Addr} {oc6 kV6 dc6 pm6 cd6 ct6 : Value} {od6 an6 : Option Addr} {sl6 : Array (Option Value)}
    {T6 : Addr} {oq6 : Value} {oe6 : Option Addr} {sq6 : Array (Option Value)} {tk6 : Tok} {nq6 : Nat}
    (a6 : PySem.W.nsIn K mainGlobals "numbers_of" = some (some (.ref f6))) (l6 : K.lookup f6 = some ⟨oc6, od6, .func (PySem.W.fnOf "numbers_of" "numbers_of" (defArgs s_numbers_of) (defBody s_numbers_of) (defScope s_numbers_of) (.ref T6) kV6 dc6 pm6 an6 cd6 ct6), sl6⟩)
    (d6 : K.lookup T6 = some ⟨oq6, oe6, .seq #[.int 2 tk6] nq6, sq6⟩) (c6 : PySem.W.codeIn K cd6 "numbers_of" = true) (k6 : PySem.W.keepIn K (.ref f6) = true)
    {f7 : Addr} {oc7 kV7 dc7 pm7 cd7 ct7 : Value} {od7 an7 : Option Addr} {sl7 : Array (Option Value)}
    (a7 : PySem.W.nsIn K mainGlobals "_law_cell_at" = some (some (.ref f7))) (l7 : K.lookup f7 = some ⟨oc7, od7, .func (PySem.W.fnOf "_law_cell_at" "_law_cell_at" (defArgs s_law_cell_at) (defBody s_law_cell_at) (defScope s_law_cell_at) .none kV7 dc7 pm7 an7 cd7 ct7), sl7⟩) (c7 : PySem.W.codeIn K cd7 "_law_cell_at" = true) (k7 : PySem.W.keepIn K (.ref f7) = true)
    {f8 : Addr} {oc8 kV8 dc8 pm8 cd8 ct8 : Value} {od8 an8 : Option Addr} {sl8 : Array (Option Value)}
    (a8 : PySem.W.nsIn K mainGlobals "_law_spread" = some (some (.ref f8))) (l8 : K.lookup f8 = some ⟨oc8, od8, .func (PySem.W.fnOf "_law_spread" "_law_spread" (defArgs s_law_spread) (defBody s_law_spread) (defScope s_law_spread) .none kV8 dc8 pm8 an8 cd8 ct8), sl8⟩) (c8 : PySem.W.codeIn K cd8 "_law_spread" = true) (k8 : PySem.W.keepIn K (.ref f8) = true)
    {f9 : Addr} {oc9 kV9 dc9 pm9 cd9 ct9 : Value} {od9 an9 : Option Addr} {sl9 : Array (Option Value)}
    (a9 : PySem.W.nsIn K mainGlobals "_law_whole" = some (some (.ref f9))) (l9 : K.lookup f9 = some ⟨oc9, od9, .func (PySem.W.fnOf "_law_whole" "_law_whole" (defArgs s_law_whole) (defBody s_law_whole) (defScope s_law_whole) .none kV9 dc9 pm9 an9 cd9 ct9), sl9⟩) (c9 : PySem.W.codeIn K cd9 "_law_whole" = true) (k9 : PySem.W.keepIn K (.ref f9) = true)
    {f10 : Addr} {oc10 kV10 dc10 pm10 cd10 ct10 : Value} {od10 an10 : Option Addr} {sl10 : Array (Option Value)}
    (a10 : PySem.W.nsIn K mainGlobals "_law_figures" = some (some (.ref f10))) (l10 : K.lookup f10 = some ⟨oc10, od10, .func (PySem.W.fnOf "_law_figures" "_law_figures" (defArgs s_law_figures) (defBody s_law_figures) (defScope s_law_figures) .none kV10 dc10 pm10 an10 cd10 ct10), sl10⟩) (c10 : PySem.W.codeIn K cd10 "_law_figures" = true) (k10 : PySem.W.keepIn K (.ref f10) = true)
    {f11 : Addr} {oc11 kV11 dc11 pm11 cd11 ct11 : Value} {od11 an11 : Option Addr} {sl11 : Array (Option Value)}
    (a11 : PySem.W.nsIn K mainGlobals "_law_places" = some (some (.ref f11))) (l11 : K.lookup f11 = some ⟨oc11, od11, .func (PySem.W.fnOf "_law_places" "_law_places" (defArgs s_law_places) (defBody s_law_places) (defScope s_law_places) .none kV11 dc11 pm11 an11 cd11 ct11), sl11⟩) (c11 : PySem.W.codeIn K cd11 "_law_places" = true) (k11 : PySem.W.keepIn K (.ref f11) = true)
    {f12 : Addr} {oc12 kV12 dc12 pm12 cd12 ct12 : Value} {od12 an12 : Option Addr} {sl12 : Array (Option Value)}
    (a12 : PySem.W.nsIn K mainGlobals "_law_columns" = some (some (.ref f12))) (l12 : K.lookup f12 = some ⟨oc12, od12, .func (PySem.W.fnOf "_law_columns" "_law_columns" (defArgs s_law_columns) (defBody s_law_columns) (defScope s_law_columns) .none kV12 dc12 pm12 an12 cd12 ct12), sl12⟩) (c12 : PySem.W.codeIn K cd12 "_law_columns" = true) (k12 : PySem.W.keepIn K (.ref f12) = true)
    {f13 : Addr} {oc13 kV13 dc13 pm13 cd13 ct13 : Value} {od13 an13 : Option Addr} {sl13 : Array (Option Value)}
    (a13 : PySem.W.nsIn K mainGlobals "_law_are_columns" = some (some (.ref f13))) (l13 : K.lookup f13 = some ⟨oc13, od13, .func (PySem.W.fnOf "_law_are_columns" "_law_are_columns" (defArgs s_law_are_columns) (defBody s_law_are_columns) (defScope s_law_are_columns) .none kV13 dc13 pm13 an13 cd13 ct13), sl13⟩) (c13 : PySem.W.codeIn K cd13 "_law_are_columns" = true) (k13 : PySem.W.keepIn K (.ref f13) = true)
    {fL : Addr} {ocL kVL dcL pmL cdL ctL : Value} {odL anL : Option Addr} {slL : Array (Option Value)} (aL : PySem.W.nsIn K mainGlobals "law" = some (some (.ref fL))) (lL : K.lookup fL = some ⟨ocL, odL, .func (PySem.W.fnOf "law" "law" (defArgs s_law) (defBody s_law) (defScope s_law) .none kVL dcL pmL anL cdL ctL), slL⟩) (cL : PySem.W.codeIn K cdL "law" = true) (kL : PySem.W.keepIn K (.ref fL) = true) :
    ∃ fd : FuncData, (∀ (s : Shared) (v : Value), BindsTo s fd ⟨[v], []⟩ [("_law_script", v)]) ∧ ∀ base : Heap, K.In base → base.Ns mainGlobals mg → FnOk l.prog w K mg base CX0 6 fa fd ["_law_script"] (sp_law K) := by
  have e := hfa.symm.trans (PySem.W.mg_of X G aL)
  cases e
  have T : Txt K mg := ⟨cst_mk X G g_LEAST_BASE,
    cst_mk X G g_GREATEST_BASE,
    PySem.W.mg_none_of X G z_all,
    PySem.W.mg_none_of X G z_bool,
    PySem.W.mg_none_of X G z_int,
    PySem.W.mg_none_of X G z_isinstance,
    PySem.W.mg_none_of X G z_len,
    PySem.W.mg_none_of X G z_list,
    PySem.W.mg_none_of X G z_max,
    PySem.W.mg_none_of X G z_range,
    PySem.W.mg_none_of X G z_tuple,
    tx_mk X G a0 l0 c0 k0 (fun us hl => match us, hl with | [_], _ => rfl),
    tx_mkD X G a1 l1 d1 c1 k1 (fun s us KX hl => match us, hl with | [_, _], _ => PySem.W.binds_K KX rfl d1 rfl rfl rfl) (fun s us KX hl => match us, hl with | [_], _ => PySem.W.binds_K KX rfl d1 rfl rfl rfl),
    tx_mkD X G a2 l2 d2 c2 k2 (fun s us KX hl => match us, hl with | [_, _], _ => PySem.W.binds_K KX rfl d2 rfl rfl rfl) (fun s us KX hl => match us, hl with | [_], _ => PySem.W.binds_K KX rfl d2 rfl rfl rfl),
    tx_mk X G a3 l3 c3 k3 (fun us hl => match us, hl with | [_, _], _ => rfl),
    tx_mk X G a4 l4 c4 k4 (fun us hl => match us, hl with | [_, _], _ => rfl),
    tx_mkD X G a5 l5 d5 c5 k5 (fun s us KX hl => match us, hl with | [_, _], _ => PySem.W.binds_K KX rfl d5 rfl rfl rfl) (fun s us KX hl => match us, hl with | [_], _ => PySem.W.binds_K KX rfl d5 rfl rfl rfl),
    tx_mkD X G a6 l6 d6 c6 k6 (fun s us KX hl => match us, hl with | [_, _, _], _ => PySem.W.binds_K KX rfl d6 rfl rfl rfl) (fun s us KX hl => match us, hl with | [_, _], _ => PySem.W.binds_K KX rfl d6 rfl rfl rfl),
    tx_mk X G a7 l7 c7 k7 (fun us hl => match us, hl with | [_, _], _ => rfl),
    tx_mk X G a8 l8 c8 k8 (fun us hl => match us, hl with | [_, _], _ => rfl),
    tx_mk X G a9 l9 c9 k9 (fun us hl => match us, hl with | [_], _ => rfl),
    tx_mk X G a10 l10 c10 k10 (fun us hl => match us, hl with | [_, _], _ => rfl),
    tx_mk X G a11 l11 c11 k11 (fun us hl => match us, hl with | [_], _ => rfl),
    tx_mk X G a12 l12 c12 k12 (fun us hl => match us, hl with | [_, _], _ => rfl),
    tx_mk X G a13 l13 c13 k13 (fun us hl => match us, hl with | [_, _], _ => rfl)⟩
  exact ⟨PySem.W.fnOf "law" "law" (defArgs s_law) (defBody s_law) (defScope s_law) .none kVL dcL pmL anL cdL ctL, fun s v => .of_eq rfl, fun base _ _ => ok_law T ⟨⟨ocL, odL, kVL, dcL, pmL, anL, cdL, ctL, slL, rfl, lL, cL⟩, kL⟩⟩
theorem walk {l : PySem.W.OpenLaw} {q : Program} {loose : List Str} {XP : (Str → Option Value) → Heap → Prop} {YP : World → Heap → Prop} {d : DefRec} {K : Params → PySem.W.Frag} (hn : l.most = some 63) (hdf : d.params.defaults = [])
    (hY : ∀ (w : World) (h : Heap), YP w h → (K w.params).In h)
    (F : ∀ (w : World) (mg : Str → Option Value) (fa : Addr) (h : Heap), (K w.params).In h → h.Ns mainGlobals mg → mg d.name = some (.ref fa) →
      ∃ fd : FuncData, (∀ (s : Shared) (u : Value), BindsTo s fd ⟨[u], []⟩ [("_law_script", u)]) ∧ ∀ base : Heap, (K w.params).In base → base.Ns mainGlobals mg → FnOk l.prog w (K w.params) mg base CX0 6 fa fd ["_law_script"] (sp_law (K w.params))) :
    PySem.W.WalkO q loose XP YP l.row.toRowW d [] (fun f vs => PySem.call f vs) :=
  L2.walk_of (n := 63) (k := 6) (x := "_law_script") (CX := fun _ => CX0) (sp := fun w => sp_law (K w.params)) hn (by decide) hdf ⟨rfl, by decide, by decide⟩ hY F (fun _ _ a ns hl _ hS => ⟨a, ns, rfl, hS, hl, fun _ => rfl⟩) fun _ _ _ _ _ z => z
end K02
open PySem PySem.W PyProof.Rows
set_option maxRecDepth 100000 in
set_option maxHeartbeats 0 in
theorem PySem.Challenge.cw_figurewheel_k02_columns_of_places_holds : PySem.Challenge.rw_figurewheel_k02_columns_of_places.Holds := by
  w_on; o_law; k_head; (case hw => w_witness2)
  k_fill
  refine K02.walk (l := PySem.Challenge.rw_figurewheel_k02_columns_of_places) rfl rfl (fun w h Y => PySem.W.kIn_of Y) ?F
  case F =>
    intro w mg fa h KX G hmg
    refine' K02.all_mk KX G hmg ?g_LEAST_BASE ?g_GREATEST_BASE ?z_all ?z_bool ?z_int ?z_isinstance ?z_len ?z_list ?z_max ?z_range ?z_tuple ?a0 ?l0 ?c0 ?k0 ?a1 ?l1 ?d1 ?c1 ?k1 ?a2 ?l2 ?d2 ?c2 ?k2 ?a3 ?l3 ?c3 ?k3 ?a4 ?l4 ?c4 ?k4 ?a5 ?l5 ?d5 ?c5 ?k5 ?a6 ?l6 ?d6 ?c6 ?k6 ?a7 ?l7 ?c7 ?k7 ?a8 ?l8 ?c8 ?k8 ?a9 ?l9 ?c9 ?k9 ?a10 ?l10 ?c10 ?k10 ?a11 ?l11 ?c11 ?k11 ?a12 ?l12 ?c12 ?k12 ?a13 ?l13 ?c13 ?k13 ?aL ?lL ?cL ?kL
    (case g_LEAST_BASE => k_is)
    (case g_GREATEST_BASE => k_is)
    (case z_all => k_is)
    (case z_bool => k_is)
    (case z_int => k_is)
    (case z_isinstance => k_is)
    (case z_len => k_is)
    (case z_list => k_is)
    (case z_max => k_is)
    (case z_range => k_is)
    (case z_tuple => k_is)
    (case a0 => k_is)
    (case l0 => k_is)
    (case c0 => k_is)
    (case k0 => k_is)
    (case a1 => k_is)
    (case l1 => k_is)
    (case d1 => k_is)
    (case c1 => k_is)
    (case k1 => k_is)
    (case a2 => k_is)
    (case l2 => k_is)
    (case d2 => k_is)
    (case c2 => k_is)
    (case k2 => k_is)
    (case a3 => k_is)
    (case l3 => k_is)
    (case c3 => k_is)
    (case k3 => k_is)
    (case a4 => k_is)
    (case l4 => k_is)
    (case c4 => k_is)
    (case k4 => k_is)
    (case a5 => k_is)
    (case l5 => k_is)
    (case d5 => k_is)
    (case c5 => k_is)
    (case k5 => k_is)
    (case a6 => k_is)
    (case l6 => k_is)
    (case d6 => k_is)
    (case c6 => k_is)
    (case k6 => k_is)
    (case a7 => k_is)
    (case l7 => k_is)
    (case c7 => k_is)
    (case k7 => k_is)
    (case a8 => k_is)
    (case l8 => k_is)
    (case c8 => k_is)
    (case k8 => k_is)
    (case a9 => k_is)
    (case l9 => k_is)
    (case c9 => k_is)
    (case k9 => k_is)
    (case a10 => k_is)
    (case l10 => k_is)
    (case c10 => k_is)
    (case k10 => k_is)
    (case a11 => k_is)
    (case l11 => k_is)
    (case c11 => k_is)
    (case k11 => k_is)
    (case a12 => k_is)
    (case l12 => k_is)
    (case c12 => k_is)
    (case k12 => k_is)
    (case a13 => k_is)
    (case l13 => k_is)
    (case c13 => k_is)
    (case k13 => k_is)
    (case aL => k_is)
    (case lL => k_is)
    (case cL => k_is)
    (case kL => k_is)
end

