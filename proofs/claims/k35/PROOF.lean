import PyProof.Rows.All
import Wide.All
import OpenK.AllK
import Wide.FinOn
import Lean
import PyProof.EqAt
import PyProof.EqKinds
import PyProof.TupleCall
import PySem.Challenge.RW_sumcraft_k35_thinned
set_option Elab.async false
set_option linter.all false
set_option maxRecDepth 100000
set_option maxHeartbeats 4000000
/-! THE HAND LAYER, for ints, bools, texts, own classes, LISTS and tuples (index, slices, in, append, pop ..), calls, loops. Paste it whole ahead of your own text; what your proof does not reach may be deleted. -/
namespace L2
open PySem PySem.Spec PyProof.Rows

/-- a key: an int or a str -/
abbrev Key := Sum Int Str
def keyIs : Key → Value → Bool
  | .inl k, v => Value.isInt k v
  | .inr x, v => Value.isStrOf x v
def keyH (w : World) : Key → Int
  | .inl k => hashInt k
  | .inr x => hashStr w x
theorem keyIs_shape : ∀ {k : Key} {v : Value}, keyIs k v = true → (∃ i t, k = Sum.inl i ∧ v = Value.int i t) ∨ (∃ x t, k = Sum.inr x ∧ v = Value.str x t)
  | .inl i, v, h => by
    obtain ⟨t, e⟩ := Value.isInt_shape (k := i) (v := v) h
    exact .inl ⟨i, t, rfl, e⟩
  | .inr x, v, h => by
    obtain ⟨t, e⟩ := Value.isStrOf_shape (x := x) (v := v) h
    exact .inr ⟨x, t, rfl, e⟩
theorem keyIs_int (i : Int) (t : Tok) : keyIs (.inl i) (.int i t) = true := by simp [keyIs, Value.isInt]
theorem keyIs_str (x : Str) (t : Tok) : keyIs (.inr x) (.str x t) = true := by simp [keyIs, Value.isStrOf]
theorem key_ll (a b : Int) : decide ((Sum.inl a : Key) = Sum.inl b) = (a == b) := by
  by_cases e : a = b
  · subst e; simp
  · have h : ¬ (Sum.inl a : Key) = Sum.inl b := fun q => e (Sum.inl.inj q)
    rw [decide_eq_false h]
    exact (beq_eq_false_iff_ne.mpr e).symm
theorem key_rr (a b : Str) : decide ((Sum.inr a : Key) = Sum.inr b) = decide (a = b) := by
  by_cases e : a = b
  · subst e; simp
  · have h : ¬ (Sum.inr a : Key) = Sum.inr b := fun q => e (Sum.inr.inj q)
    rw [decide_eq_false h, decide_eq_false e]
theorem key_lr (a : Int) (b : Str) : decide ((Sum.inl a : Key) = Sum.inr b) = false := decide_eq_false (fun q => nomatch q)
theorem key_rl (a : Str) (b : Int) : decide ((Sum.inr a : Key) = Sum.inl b) = false := decide_eq_false (fun q => nomatch q)

def mixKind (prog : Program) (w : World) : PySem.KeyKind prog w Key where
  is := keyIs
  hash := keyH w
  inj := fun v a b ha hb => by
    rcases keyIs_shape ha with ⟨i, t, rfl, rfl⟩ | ⟨x, t, rfl, rfl⟩
    · rcases keyIs_shape hb with ⟨j, u, rfl, e⟩ | ⟨y, u, rfl, e⟩
      · injection e with e1 _; rw [e1]
      · exact nomatch e
    · rcases keyIs_shape hb with ⟨j, u, rfl, e⟩ | ⟨y, u, rfl, e⟩
      · exact nomatch e
      · injection e with e1 _; rw [e1]
  byValue := fun k v h => by
    rcases keyIs_shape h with ⟨i, t, rfl, rfl⟩ | ⟨x, t, rfl, rfl⟩ <;> rfl
  pyHash := fun hv h => by
    rcases keyIs_shape hv with ⟨i, t, rfl, rfl⟩ | ⟨x, t, rfl, rfl⟩
    · exact wpAny_pyHash_int h
    · exact wpAny_pyHash_str h
  eqBool := fun hu hv h => by
    rcases keyIs_shape hu with ⟨i, t, rfl, rfl⟩ | ⟨x, t, rfl, rfl⟩
    · rcases keyIs_shape hv with ⟨j, u, rfl, rfl⟩ | ⟨y, u, rfl, rfl⟩
      · rw [key_ll] at h; exact wpAny_eqBool_int h
      · rw [key_lr] at h; exact SeqAt.EqAt.int_str i t y u _ _ _ _ h
    · rcases keyIs_shape hv with ⟨j, u, rfl, rfl⟩ | ⟨y, u, rfl, rfl⟩
      · rw [key_rl] at h; exact SeqAt.EqAt.str_int x t j u _ _ _ _ h
      · rw [key_rr] at h; exact wpAny_eqBool_str h
  «strs» := fun k x t v h => by
    rcases keyIs_shape h with ⟨i, u, rfl, e⟩ | ⟨y, u, rfl, e⟩
    · exact nomatch e
    · injection e with e1 _
      subst e1
      cases v <;> rfl

theorem mixKind_is (prog : Program) (w : World) (k : Key) (v : Value) : (mixKind prog w).is k v = keyIs k v := rfl
theorem mixKind_int (prog : Program) (w : World) (i : Int) (t : Tok) : (mixKind prog w).is (.inl i) (.int i t) = true := keyIs_int i t
theorem mixKind_str (prog : Program) (w : World) (x : Str) (t : Tok) : (mixKind prog w).is (.inr x) (.str x t) = true := keyIs_str x t
end L2

namespace L2
open PySem PySem.Spec PyProof.Rows

/-- a value, without the heap -/
inductive V where
  | non | bl (b : Bool) | int (i : Int) | str (x : Str) | byt (b : Array UInt8) | flt (b : UInt64) | ref (a : Addr) | ty (n : String)
  deriving DecidableEq

def RelV : V → Value → Prop
  | .non, u => u = Value.none
  | .bl b, u => u = Value.bool b
  | .int i, u => ∃ t, u = Value.int i t
  | .str x, u => ∃ t, u = Value.str x t
  | .byt b, u => ∃ t, u = Value.bytes b t
  | .flt b, u => ∃ t, u = Value.float b t
  | .ref a, u => u = Value.ref a
  | .ty n, u => u = Value.type n

abbrev Vals : List V → List Value → Prop := Paired RelV
theorem Vals.length {xs : List V} {us : List Value} (r : Vals xs us) : xs.length = us.length := Paired.length r
theorem Vals.get : ∀ {xs : List V} {us : List Value} {i : Nat} {x : V}, Vals xs us → xs[i]? = some x → ∃ u, us[i]? = some u ∧ RelV x u
  | _, _, _, _, .nil, e => by simp at e
  | _, _, 0, _, .cons r _, e => by simp at e; subst e; exact ⟨_, rfl, r⟩
  | _, _, i + 1, x, .cons _ t, e => by
    obtain ⟨u, h1, h2⟩ := Vals.get (i := i) (x := x) t (by simpa using e)
    exact ⟨u, by simpa using h1, h2⟩
theorem Vals.set {x : V} {u : Value} (r : RelV x u) : ∀ {xs : List V} {us : List Value} (i : Nat), Vals xs us → Vals (xs.set i x) (us.set i u)
  | _, _, _, .nil => .nil
  | _, _, 0, .cons _ t => .cons r t
  | _, _, i + 1, .cons q t => .cons q (Vals.set r i t)
theorem Vals.append : ∀ {xs ys : List V} {us ws : List Value}, Vals xs us → Vals ys ws → Vals (xs ++ ys) (us ++ ws)
  | _, _, _, _, .nil, s => s
  | _, _, _, _, .cons r t, s => .cons r (Vals.append t s)
theorem Vals.take : ∀ {xs : List V} {us : List Value} (n : Nat), Vals xs us → Vals (xs.take n) (us.take n)
  | _, _, 0, _ => .nil
  | _, _, _ + 1, .nil => .nil
  | _, _, n + 1, .cons r t => .cons r (Vals.take n t)
theorem Vals.drop : ∀ {xs : List V} {us : List Value} (n : Nat), Vals xs us → Vals (xs.drop n) (us.drop n)
  | _, _, 0, r => r
  | _, _, _ + 1, .nil => .nil
  | _, _, n + 1, .cons _ t => Vals.drop n t
theorem Vals.none_of : ∀ {xs : List V} {us : List Value} {i : Nat}, Vals xs us → xs[i]? = none → us[i]? = none := fun {xs us i} r e => by
  have h1 := r.length
  have h2 : xs.length ≤ i := List.getElem?_eq_none_iff.mp e
  exact List.getElem?_eq_none_iff.mpr (by omega)

def RelO : Option V → Option Value → Prop
  | some v, some u => RelV v u
  | none, none => True
  | _, _ => False
def KV {κ : Type} : List (κ × V) → List (κ × Value) → Prop := Paired fun (p : κ × V) (q : κ × Value) => p.1 = q.1 ∧ RelV p.2 q.2

/-- a key of a dict (00_mix): an int or a text -/
def kV : Key → V
  | .inl i => .int i
  | .inr x => .str x

/-- what stands at a tracked address -/
inductive HO where
  /-- a list -/
  | lst (xs : List V)
  /-- a tuple (never changes) -/
  | tup (xs : List V)
  /-- a dict whose keys are ints and texts; one whose keys are tuples of ints and texts (the empty one is both) -/
  | dK (kvs : List (Key × V)) | dT (kvs : List (List Key × V))
  /-- a set of ints: its members, its size -/
  | set (S : Int → Bool) (n : Nat)
  /-- an instance of the class at C, its dict at dx, its attributes -/
  | ins (C dx : Addr) (fs : List (Str × V))
  /-- the dict of the instance at x -/
  | own (x : Addr)
  /-- the dict of an exception -/
  | xd (fs : List (Str × V))
  /-- a bound method, f of x -/
  | met (f x : Addr)
  /-- a range object lo, lo + 1, .. below hi -/
  | rng (lo hi : Int)
  /-- a thing that is known to the object (the script; a dict while a loop walks it): read, never written while it is so -/
  | frz (o : Obj) (u : HO)
  /-- a code object's table -/
  | tbl (ps : Array Value)
  /-- any other thing, by what is true of its one object (a def of one's own: SetO a S n := HO.ext fun h => ..) -/
  | ext (φ : Heap → Prop)

abbrev Hp := Addr → Option HO
def upd (H : Hp) (a : Addr) (o : HO) : Hp := fun b => if b = a then some o else H b
theorem upd_same {H : Hp} {a : Addr} {o : HO} : upd H a o a = some o := by unfold upd; rw [if_pos rfl]
theorem upd_ne {H : Hp} {a b : Addr} {o : HO} (h : b ≠ a) : upd H a o b = H b := by unfold upd; rw [if_neg h]
theorem upd_upd {H : Hp} {a : Addr} {o u : HO} : upd (upd H a o) a u = upd H a u := by
  funext b; unfold upd; split <;> rfl
/-- two objects of different content stand apart -/
theorem ne_of {H : Hp} {a b : Addr} {o u : HO} (h : H a = some o) (h' : H b = some u) (d : o ≠ u) : a ≠ b := by
  intro e; subst e; rw [h] at h'; exact d (Option.some.inj h')
theorem ne_of_none {H : Hp} {a b : Addr} {o : HO} (h : H a = some o) (h' : H b = none) : a ≠ b := by
  intro e; subst e; rw [h] at h'; cases h'

section
variable (P : Program) (w : World)
def ObjOk (H : Hp) (h : Heap) (a : Addr) : HO → Prop
  | .lst xs => xs.length ≤ sizeLine ∧ ∃ (its : List Value) (n : Nat), Vals xs its ∧ h.get? a = some { cls := .type "list", data := .seq its.toArray n }
  | .tup xs => xs.length ≤ sizeLine ∧ ∃ its : List Value, Vals xs its ∧ IsTup h a its.toArray
  | .dK kvs => kvs.length ≤ sizeLine ∧ (a == sysModules) = false ∧ ∃ vs, KV kvs vs ∧ h.DictOf (mixKind P w) a vs
  | .dT kvs => kvs.length ≤ sizeLine ∧ (a == sysModules) = false ∧ ∃ xs : List (List Key × Addr × Value),
      Paired (fun (p : List Key × V) (q : List Key × Addr × Value) => p.1 = q.1 ∧ H q.2.1 = some (.tup (p.1.map kV)) ∧ RelV p.2 q.2.2) kvs xs ∧
      ∃ o es ep, h.get? a = some o ∧ o.ExactDict ∧ o.data = .dict es ep ∧ es.toList = xs.map (entryOfKey (tupleKind (mixKind P w))) ∧ (xs.map (·.1)).Nodup
  | .set S n => h.SetOf (intKind P w) a S n
  | .ins C dx fs => H dx = some (.own a) ∧ fs.length ≤ 1000 ∧ dx ≠ a ∧ h.get? a = some (PySem.W.instObj C dx) ∧
      ∃ mA, h.Ns1 dx mA ∧ (∀ f, RelO (fs.lookup f) (mA f)) ∧ PySem.Within mA (fs.map (·.1))
  | .own _ => ∃ o, h.get? a = some o
  | .xd fs => ∃ mA, h.Ns1 a mA ∧ ∀ f, RelO (fs.lookup f) (mA f)
  | .rng lo hi => ∃ t u v, h.get? a = some { cls := .type "range", data := .fields #[.int lo t, .int hi u, .int 1 v] }
  | .frz o u => h.get? a = some o ∧ ObjOk H h a u
  | .tbl ps => h.get? a = some { cls := .none, data := .fields ps }
  | .met f x => h.get? a = some (PySem.W.methodObj (.ref f) (.ref x))
  | .ext φ => φ h ∧ (∃ o, h.get? a = some o) ∧ ∀ h1 h2 : Heap, φ h1 → (∀ o, h1.get? a = some o → h2.get? a = some o) → φ h2
/-- the abstract heap is held -/
def HOk (H : Hp) (h : Heap) : Prop := ∀ a o, H a = some o → ObjOk P w H h a o
end

section
variable {P : Program} {w : World} {H H' : Hp} {h h' : Heap} {a : Addr} {o : HO}
theorem ObjOk.lt (x : ObjOk P w H h a o) : a < h.objs.size := by
  cases o with
  | lst xs => obtain ⟨_, _, _, _, e⟩ := x; exact Heap.lt_size e
  | tup xs => obtain ⟨_, _, _, p⟩ := x; exact p.lt
  | dK kvs => obtain ⟨_, _, _, _, o, _, _, e, _⟩ := x; exact Heap.lt_size e
  | dT kvs => obtain ⟨_, _, _, _, o, _, _, e, _⟩ := x; exact Heap.lt_size e
  | set S n => obtain ⟨o, _, _, _, e, _⟩ := x; exact Heap.lt_size e
  | ins C dx fs => obtain ⟨_, _, _, e, _⟩ := x; exact Heap.lt_size e
  | own y => obtain ⟨_, e⟩ := x; exact Heap.lt_size e
  | xd fs => obtain ⟨_, ⟨_, _, _, e, _⟩, _⟩ := x; exact Heap.lt_size e
  | rng lo hi => obtain ⟨_, _, _, e⟩ := x; exact Heap.lt_size e
  | frz ob u => obtain ⟨e, _⟩ := x; exact Heap.lt_size e
  | tbl ps => exact Heap.lt_size (show h.get? a = some _ from x)
  | met f y => exact Heap.lt_size (show h.get? a = some _ from x)
  | ext φ => obtain ⟨_, ⟨_, e⟩, _⟩ := x; exact Heap.lt_size e
theorem Paired.mapP {α β : Type} {F G : α → β → Prop} : ∀ {l₁ : List α} {l₂ : List β}, Paired F l₁ l₂ → (∀ a b, F a b → G a b) → Paired G l₁ l₂
  | _, _, .nil, _ => .nil
  | _, _, .cons r t, f => .cons (f _ _ r) (Paired.mapP t f)
theorem Paired.imp' {α β : Type} {F G : α → β → Prop} (f : ∀ a b, F a b → G a b) {l₁ : List α} {l₂ : List β} (r : Paired F l₁ l₂) : Paired G l₁ l₂ := Paired.mapP r f
/-- what an object's description leans on: its own object, its own dict, the tuples -/
theorem ObjOk.stay (x : ObjOk P w H h a o) (k : ∀ b u, (b = a ∨ H b = some (.own a)) → h.get? b = some u → h'.get? b = some u)
    (ho : ∀ b, H b = some (.own a) → H' b = some (.own a)) (ht : ∀ b xs, H b = some (.tup xs) → H' b = some (.tup xs)) : ObjOk P w H' h' a o := by
  induction o with
  | lst xs => obtain ⟨z, its, n, r, e⟩ := x; exact ⟨z, its, n, r, k _ _ (.inl rfl) e⟩
  | tup xs => obtain ⟨z, its, r, ob, e, c⟩ := x; exact ⟨z, its, r, ob, k _ _ (.inl rfl) e, c⟩
  | dK kvs => obtain ⟨z, y, vs, r, ob, es, ep, e, c⟩ := x; exact ⟨z, y, vs, r, ob, es, ep, k _ _ (.inl rfl) e, c⟩
  | dT kvs =>
    obtain ⟨z, y, xs, r, ob, es, ep, e, c⟩ := x
    exact ⟨z, y, xs, Paired.mapP r fun p q z => ⟨z.1, ht _ _ z.2.1, z.2.2⟩, ob, es, ep, k _ _ (.inl rfl) e, c⟩
  | set S n => obtain ⟨ob, es, ep, t, e, c⟩ := x; exact ⟨ob, es, ep, t, k _ _ (.inl rfl) e, c⟩
  | ins C dx fs =>
    obtain ⟨d, z, ne, e, mA, ⟨od, es, ep, e2, c⟩, r⟩ := x
    exact ⟨ho _ d, z, ne, k _ _ (.inl rfl) e, mA, ⟨od, es, ep, k _ _ (.inr d) e2, c⟩, r⟩
  | own y => obtain ⟨ob, e⟩ := x; exact ⟨ob, k _ _ (.inl rfl) e⟩
  | xd fs => obtain ⟨mA, ⟨od, es, ep, e, c⟩, r⟩ := x; exact ⟨mA, ⟨od, es, ep, k _ _ (.inl rfl) e, c⟩, r⟩
  | rng lo hi => obtain ⟨t, u, v, e⟩ := x; exact ⟨t, u, v, k _ _ (.inl rfl) e⟩
  | frz ob u ih => obtain ⟨e, q⟩ := x; exact ⟨k _ _ (.inl rfl) e, ih q⟩
  | tbl ps =>
    have e : h.get? a = some { cls := .none, data := .fields ps } := x
    show h'.get? a = some { cls := .none, data := .fields ps }
    exact k a _ (.inl rfl) e
  | met f y =>
    have e : h.get? a = some (PySem.W.methodObj (.ref f) (.ref y)) := x
    show h'.get? a = some (PySem.W.methodObj (.ref f) (.ref y))
    exact k a _ (.inl rfl) e
  | ext φ => obtain ⟨p, ⟨o, e⟩, st⟩ := x; exact ⟨st _ _ p fun o q => k _ _ (.inl rfl) q, ⟨o, k _ _ (.inl rfl) e⟩, st⟩
theorem HOk.lt (x : HOk P w H h) (e : H a = some o) : a < h.objs.size := (x a o e).lt
theorem HOk.fresh (x : HOk P w H h) (e : h.objs.size ≤ a) : H a = none := by
  cases q : H a with
  | none => rfl
  | some u => exact absurd (Nat.lt_of_lt_of_le (x.lt q) e) (Nat.lt_irrefl _)
/-- every object of the heap is kept -/
theorem HOk.kept (x : HOk P w H h) (k : ∀ b u, h.get? b = some u → h'.get? b = some u) : HOk P w H h' := fun a o e =>
  (x a o e).stay (fun b u _ q => k b u q) (fun _ q => q) fun _ _ q => q
/-- a new object is laid and tracked -/
theorem HOk.laid (x : HOk P w H h) (k : ∀ b u, h.get? b = some u → h'.get? b = some u) (hp : h.objs.size ≤ a) (new : ObjOk P w (upd H a o) h' a o) : HOk P w (upd H a o) h' := fun b u e => by
  have hn := x.fresh hp
  by_cases hb : b = a
  · subst hb; rw [upd_same] at e; cases e; exact new
  · rw [upd_ne hb] at e
    exact (x b u e).stay (fun c v _ q => k c v q) (fun c q => by rw [upd_ne (ne_of_none q hn)]; exact q) fun c xs q => by rw [upd_ne (ne_of_none q hn)]; exact q
end

/-- what may be read as u: it is u, or a known u -/
def Rd (H : Hp) (a : Addr) (u : HO) : Prop := H a = some u ∨ ∃ o, H a = some (.frz o u)
theorem Rd.of {H : Hp} {a : Addr} {u : HO} (h : H a = some u) : Rd H a u := .inl h
theorem Rd.ok {P : Program} {w : World} {H : Hp} {h : Heap} {a : Addr} {u : HO} (r : Rd H a u) (x : HOk P w H h) : ObjOk P w H h a u := by
  rcases r with r | ⟨o, r⟩
  · exact x a u r
  · obtain ⟨_, q⟩ := x a _ r
    exact q
/-- what may be written -/
def Mut : Option HO → Prop
  | some (.lst _) => True
  | some (.dK _) => True
  | some (.dT _) => True
  | some (.set _ _) => True
  | some (.ins _ _ _) => True
  | some (.ext _) => True
  | _ => False
section
variable {P : Program} {w : World} {H : Hp} {h h' : Heap} {x e : Addr} {o' : HO}
/-- the object at e is changed: x itself, or the dict of the instance x -/
theorem HOk.write (ok : HOk P w H h) (mu : Mut (H x)) (he : e = x ∨ H e = some (.own x)) (k : ∀ b u, b ≠ e → h.get? b = some u → h'.get? b = some u) (heo : ∃ u, h'.get? e = some u)
    (new : ObjOk P w (upd H x o') h' x o') : HOk P w (upd H x o') h' := fun b u q => by
  have nown : ∀ c y, H c = some (.own y) → c ≠ x := fun c y r z => by subst z; rw [r] at mu; exact mu
  have ntup : ∀ c xs, H c = some (.tup xs) → c ≠ x := fun c xs r z => by subst z; rw [r] at mu; exact mu
  by_cases hb : b = x
  · subst hb; rw [upd_same] at q; cases q; exact new
  · rw [upd_ne hb] at q
    by_cases hbe : b = e
    · have q' : H b = some (.own x) := by
        rcases he with z | z
        · exact absurd (hbe.trans z) hb
        · rw [hbe]; exact z
      rw [q] at q'; cases q'
      obtain ⟨v, hv⟩ := heo
      exact ⟨v, by rw [hbe]; exact hv⟩
    · refine (ok b u q).stay (fun c v hc r => k c v ?_ r) (fun c r => by rw [upd_ne (nown c b r)]; exact r) fun c xs r => by rw [upd_ne (ntup c xs r)]; exact r
      rcases hc with rfl | hc
      · exact hbe
      · rintro rfl
        rcases he with z | z
        · exact nown c b hc z
        · rw [hc] at z; cases z; exact hb rfl
end

/-! ### kept unless tracked; of the frames at fs (the callers') the slots may change (an exception that passes writes there); of the records at ex (iterators) nothing is said -/
structure Un (fs ex : List Addr) (H H' : Hp) (h h' : Heap) : Prop where
  keep : ∀ b o, h.get? b = some o → H b = none → b ∉ fs → b ∉ ex → h'.get? b = some o
  slot : ∀ b o, h.get? b = some o → H b = none → b ∈ fs → b ∉ ex → ∃ sl, h'.get? b = some { o with slots := sl }
  free : ∀ b o, h.get? b = some o → H b = none → b ∉ ex → H' b = none
  there : ∀ b o, h.get? b = some o → b ∉ ex → ∃ o', h'.get? b = some o'
  tups : ∀ b xs, H b = some (.tup xs) → H' b = some (.tup xs)
  frzs : ∀ b o u, H b = some (.frz o u) → H' b = some (.frz o u)
  tbls : ∀ b ps, H b = some (.tbl ps) → ∃ more, H' b = some (.tbl (ps ++ more))
section
variable {fs fs' ex ex' : List Addr} {H H1 H2 : Hp} {h h1 h2 h' : Heap} {a x e : Addr} {o : HO}
theorem Un.any (u : Un fs ex H H1 h h1) {b : Addr} {ob : Obj} (q : h.get? b = some ob) (n : H b = none) (hx : b ∉ ex) : ∃ sl, h1.get? b = some { ob with slots := sl } := by
  by_cases hb : b ∈ fs
  · exact u.slot b ob q n hb hx
  · exact ⟨ob.slots, u.keep b ob q n hb hx⟩
theorem Un.trans (a : Un fs ex H H1 h h1) (b : Un fs ex H1 H2 h1 h2) : Un fs ex H H2 h h2 where
  keep := fun c ob q n hc hx => b.keep c ob (a.keep c ob q n hc hx) (a.free c ob q n hx) hc hx
  slot := fun c ob q n hc hx => by
    obtain ⟨sl, e1⟩ := a.slot c ob q n hc hx
    obtain ⟨sl', e2⟩ := b.slot c _ e1 (a.free c ob q n hx) hc hx
    exact ⟨sl', e2⟩
  free := fun c ob q n hx => by
    obtain ⟨o', e1⟩ := a.there c ob q hx
    exact b.free c o' e1 (a.free c ob q n hx) hx
  there := fun c ob q hx => by
    obtain ⟨o', e1⟩ := a.there c ob q hx
    exact b.there c o' e1 hx
  tups := fun c xs q => b.tups c xs (a.tups c xs q)
  frzs := fun c ob xs q => b.frzs c ob xs (a.frzs c ob xs q)
  tbls := fun c ps q => by
    obtain ⟨m1, e1⟩ := a.tbls c ps q
    obtain ⟨m2, e2⟩ := b.tbls c _ e1
    exact ⟨m1 ++ m2, by rw [e2, Array.append_assoc]⟩
theorem Un.kept (k : ∀ b u, h.get? b = some u → h'.get? b = some u) : Un fs ex H H h h' :=
  ⟨fun b ob q _ _ _ => k b ob q, fun b ob q _ _ _ => ⟨ob.slots, k b ob q⟩, fun _ _ _ n _ => n, fun b ob q _ => ⟨ob, k b ob q⟩, fun _ _ q => q, fun _ _ _ q => q, fun _ ps q => ⟨#[], by rw [q]; simp⟩⟩
theorem Un.refl : Un fs ex H H h h := Un.kept fun _ _ q => q
theorem Un.laid (k : ∀ b u, h.get? b = some u → h'.get? b = some u) (hp : h.objs.size ≤ a) (hn : H a = none) : Un fs ex H (upd H a o) h h' where
  keep := fun b u q _ _ _ => k b u q
  slot := fun b u q _ _ _ => ⟨u.slots, k b u q⟩
  free := fun b u q n _ => by rw [upd_ne (Nat.ne_of_lt (Nat.lt_of_lt_of_le (Heap.lt_size q) hp))]; exact n
  there := fun b u q _ => ⟨u, k b u q⟩
  tups := fun b xs q => by rw [upd_ne (ne_of_none q hn)]; exact q
  frzs := fun b u xs q => by rw [upd_ne (ne_of_none q hn)]; exact q
  tbls := fun b ps q => ⟨#[], by rw [upd_ne (ne_of_none q hn), q]; simp⟩
theorem Un.write (mu : Mut (H x)) (he : e = x ∨ H e = some (.own x)) (k : ∀ b u, b ≠ e → h.get? b = some u → h'.get? b = some u) (heo : ∃ u, h'.get? e = some u) : Un fs ex H (upd H x o) h h' := by
  have hx : ∀ b, H b = none → b ≠ x := fun b n z => by subst z; rw [n] at mu; exact mu
  have hb : ∀ b, H b = none → b ≠ e := fun b n z => by
    subst z
    rcases he with r | r
    · exact hx b n r
    · rw [n] at r; cases r
  have hm : ∀ b u, H b = some u → ¬ Mut (some u) → b ≠ x := fun b u q nm z => by subst z; rw [q] at mu; exact nm mu
  refine ⟨fun b u q n _ _ => k b u (hb b n) q, fun b u q n _ _ => ⟨u.slots, k b u (hb b n) q⟩, fun b u q n _ => by rw [upd_ne (hx b n)]; exact n, fun b u q _ => ?_,
    fun b xs q => by rw [upd_ne (hm b _ q fun z => z)]; exact q, fun b u xs q => by rw [upd_ne (hm b _ q fun z => z)]; exact q, fun b ps q => ⟨#[], by rw [upd_ne (hm b _ q fun z => z), q]; simp⟩⟩
  by_cases hbe : b = e
  · subst hbe; exact heo
  · exact ⟨u, k b u hbe q⟩
theorem Un.mono (u : Un fs ex H H1 h h1) (hs : ∀ b ∈ fs, b ∈ fs') (hx : ∀ b ∈ ex, b ∈ ex') : Un fs' ex' H H1 h h1 :=
  ⟨fun b ob q n hb he => u.keep b ob q n (fun z => hb (hs b z)) fun z => he (hx b z), fun _ _ q n _ he => u.any q n fun z => he (hx _ z), fun b ob q n he => u.free b ob q n fun z => he (hx b z), fun b ob q he => u.there b ob q fun z => he (hx b z), u.tups, u.frzs, u.tbls⟩
end

/-! ### the heap without what is tracked -/
def trk (h : Heap) (H : Hp) : List Addr := (List.range h.objs.size).filter fun a => (H a).isSome
def hidT (h : Heap) (H : Hp) : Heap := PySem.W.hideAll h (trk h H)
theorem hidT_size (h : Heap) (H : Hp) : (hidT h H).objs.size = h.objs.size := PySem.W.hideAll_size _ _
theorem hidT_get {h : Heap} {H : Hp} {b : Addr} {o : Obj} (e : h.get? b = some o) (n : H b = none) : (hidT h H).get? b = some o :=
  PySem.W.hideAll_get _ e fun hm => by
    have q : (H b).isSome = true := (List.mem_filter.mp hm).2
    rw [n] at q; simp at q
theorem of_hidT {h : Heap} {H : Hp} {b : Addr} {o : Obj} (e : (hidT h H).get? b = some o) : h.get? b = some o ∧ H b = none := by
  have e' : h.get? b = some o := PySem.W.of_hideAll (trk h H) e
  refine ⟨e', ?_⟩
  cases q : H b with
  | none => rfl
  | some x =>
    have hm : b ∈ trk h H := List.mem_filter.mpr ⟨List.mem_range.mpr (Heap.lt_size e'), by simp [q]⟩
    have z : (hidT h H).get? b = none := PySem.W.hideAll_none (trk h H) hm
    rw [z] at e; cases e

/-! ### OpenK's ledger, filled with every new object but one -/
def allNews (g h : Heap) (L : Addr) : List (Addr × Obj) := (List.range h.objs.size).filterMap fun a => if a = L ∨ (g.get? a).isSome = true then none else (h.get? a).map fun o => (a, o)
theorem mem_allNews {g h : Heap} {L a : Addr} {o : Obj} (h1 : a ≠ L) (h2 : g.get? a = none) (h3 : h.get? a = some o) : (a, o) ∈ allNews g h L :=
  List.mem_filterMap.mpr ⟨a, List.mem_range.mpr (Heap.lt_size h3), by simp [h1, h2, h3]⟩
theorem of_mem_allNews {g h : Heap} {L : Addr} {p : Addr × Obj} (hp : p ∈ allNews g h L) : p.1 ≠ L ∧ g.get? p.1 = none ∧ h.get? p.1 = some p.2 := by
  obtain ⟨b, _, e⟩ := List.mem_filterMap.mp hp
  split at e
  · cases e
  · rename_i hn
    cases q : h.get? b with
    | none => rw [q] at e; simp at e
    | some u =>
      rw [q] at e
      simp only [Option.map_some, Option.some.injEq] at e
      subst e
      refine ⟨fun z => hn (.inl z), ?_, q⟩
      show g.get? b = none
      cases r : g.get? b with
      | none => rfl
      | some v => exact (hn (.inr (by simp [r]))).elim
def rest (g h : Heap) (L d : Addr) : List (Addr × Obj) := (allNews g h L).filter fun p => decide (p.1 ≠ d)
theorem rest_ne {g h : Heap} {L d : Addr} : ∀ p ∈ rest g h L d, p.1 ≠ d := fun p hp => of_decide_eq_true (List.mem_filter.mp hp).2
theorem mem_rest {g h : Heap} {L d a : Addr} {o : Obj} (h1 : a ≠ L) (h2 : g.get? a = none) (h3 : h.get? a = some o) (h4 : a ≠ d) : (a, o) ∈ rest g h L d :=
  List.mem_filter.mpr ⟨mem_allNews h1 h2 h3, decide_eq_true h4⟩
theorem news_all {g h : Heap} {L : Addr} : News g L h (allNews g h L) := fun p hp => let ⟨a, b, c⟩ := of_mem_allNews hp; ⟨c, a, b⟩
theorem news_at {g h : Heap} {L d : Addr} {o : Obj} (h1 : d ≠ L) (h2 : g.get? d = none) (h3 : h.get? d = some o) : News g L h ((d, o) :: rest g h L d) := fun p hp => by
  rcases List.mem_cons.mp hp with rfl | hp
  · exact ⟨h3, h1, h2⟩
  · exact news_all p (List.mem_filter.mp hp).1
/-- behind a rule that changed d alone: all else but the frame is kept -/
theorem kept_of_news {g h h' : Heap} {L d : Addr} {m : Str → Option Value} (k : ∀ b o, g.get? b = some o → h.get? b = some o) (F : Fr g L h' m) (N : News g L h' (rest g h L d)) :
    ∀ b o, b ≠ L → b ≠ d → h.get? b = some o → h'.get? b = some o := fun b o h1 h2 e => by
  cases q : g.get? b with
  | some u =>
    have := k b u q
    rw [e] at this; cases this
    exact F.keep b _ q
  | none => exact (N (b, o) (mem_rest h1 q e h2)).1
end L2

namespace L2
open PySem PySem.Spec PyProof.Rows

/-- the module's facts, over the base: the heap at the law's entry without what is tracked there -/
structure Mod (K : PySem.W.Frag) (mg : Str → Option Value) (base : Heap) : Prop where
  kin : K.In base
  glob : base.Ns mainGlobals mg
  blt : ∃ mb, base.Ns builtinsNs mb ∧ ∀ x : Str, x ≠ "__name__" → mb x = bootBuiltins x
  nolimit : base.NoLimit

/-- the context: a def's body (or a comprehension's block) running. base: fixed through the whole law; s₀, H₀: the entry; outer: the frames whose slots others may change (a def's callers); stack: all frames that run;
   ex: iterators that were made ahead of the entry and are walked here (a comprehension's); fn: the names whose cells were made at the entry (a def: all; a comprehension's block: its own); calm: not within an except suite; pn: pins that every state bears; xe: what is wanted of an exception that leaves the code -/
structure Cx where
  prog : Program
  w : World
  K : PySem.W.Frag
  mg : Str → Option Value
  base : Heap
  A : Around
  N : List Str
  s₀ : Shared
  H₀ : Hp
  env : Env
  outer : List Env
  stack : List Env
  ex : List Addr
  fn : Str → Bool
  calm : Bool
  pn : List (Addr × Obj)
  xe : Value → Shared → Prop
/-- the callers' frames -/
def frs (l : List Env) : List Addr := l.filterMap (·.frame)
abbrev Cx.fs (X : Cx) : List Addr := frs X.outer

def Vis (sc : Scope) (x : Str) : Prop := sc.names.lookup x = some .local ∨ sc.names.lookup x = some .cell ∨ sc.names.lookup x = some .free
def Loc (sc : Scope) (x : Str) : Prop := sc.names.lookup x = some .local ∨ sc.names.lookup x = some .cell
def Look (env : Env) (h : Heap) (m : Str → Option Value) (x : Str) (u : Value) : Prop :=
  (env.kindOf x = some .local ∧ m x = some u) ∨ ((env.kindOf x = some .cell ∨ env.kindOf x = some .free) ∧ ∃ c, env.cells.lookup x = some c ∧ h.IsCell c (some u))

structure Cx.Ok (X : Cx) : Prop where
  mod : Mod X.K X.mg X.base
  kind : X.env.scope.kind = .function
  glob : X.env.globals = mainGlobals
  blt : X.env.builtins = builtinsNs
  above : X.s₀.heap.objs.size ≤ X.env.locals
  inj : ∀ x y c, X.env.cells.lookup x = some c → X.env.cells.lookup y = some c → x = y
  has : ∀ x, (X.env.kindOf x = some .cell ∨ X.env.kindOf x = some .free) → ∃ c, X.env.cells.lookup x = some c
  cab : ∀ x c, X.fn x = true → X.env.cells.lookup x = some c → X.s₀.heap.objs.size ≤ c
  hd : X.calm = true → X.A.handled = none
  frames : X.A.frames = some X.stack
  stk : X.stack = X.outer ∨ (X.stack = X.env :: X.outer ∧ X.env.frame = some X.env.locals)
  exf : ∀ b ∈ X.ex, b ≠ X.env.locals ∧ ∀ x c, X.env.cells.lookup x = some c → c ≠ b
  bs : ∀ b o, X.base.get? b = some o → X.s₀.heap.get? b = some o ∧ X.H₀ b = none
  bsz : X.base.objs.size ≤ X.s₀.heap.objs.size
  noex : ∀ b o, X.base.get? b = some o → b ∉ X.ex
  exfs : ∀ b ∈ X.ex, b ∉ X.fs
  funs : X.s₀.heap.FunFrames X.base X.outer
  frf : ∀ b ∈ X.fs, X.H₀ b = none

structure Inv (X : Cx) (pins : List (Addr × Obj)) (σ : List (Option V)) (H : Hp) (s : Shared) : Prop where
  ok : X.Ok
  os : s.os = X.s₀.os
  bare : AllBare s.gens
  base : Un X.fs X.ex X.H₀ H X.s₀.heap s.heap
  loc : ∃ m, s.heap.Ns X.env.locals m ∧ ∀ (i : Nat) (x : Str) (v : V), X.N[i]? = some x → σ[i]? = some (some v) → Vis X.env.scope x → ∃ u, RelV v u ∧ Look X.env s.heap m x u
  cell : ∀ x c, X.env.cells.lookup x = some c → ∃ v, s.heap.IsCell c v
  free : H X.env.locals = none
  freeC : ∀ x c, X.env.cells.lookup x = some c → H c = none
  pin : ∀ p ∈ X.pn ++ pins, s.heap.get? p.1 = some p.2 ∧ H p.1 = none ∧ p.1 ≠ X.env.locals ∧ p.1 ∉ X.fs ∧ ∀ v, p.2.data ≠ .cell v
  hok : HOk X.prog X.w H s.heap
  len : σ.length = X.N.length

section
variable {X : Cx} {pins : List (Addr × Obj)} {σ : List (Option V)} {H H' : Hp} {s : Shared} {h' : Heap}

theorem Cx.Ok.nofr (ok : X.Ok) {b : Addr} {o : Obj} (e : X.base.get? b = some o) : b ∉ X.fs := fun hb => by
  have := (ok.funs.mem hb).1
  rw [e] at this; cases this
theorem Inv.bs (I : Inv X pins σ H s) : ∀ b o, X.base.get? b = some o → s.heap.get? b = some o ∧ H b = none := fun b o e =>
  ⟨I.base.keep b o (I.ok.bs b o e).1 (I.ok.bs b o e).2 (I.ok.nofr e) (I.ok.noex b o e), I.base.free b o (I.ok.bs b o e).1 (I.ok.bs b o e).2 (I.ok.noex b o e)⟩
theorem Inv.bk (I : Inv X pins σ H s) : ∀ b o, X.base.get? b = some o → s.heap.get? b = some o := fun b o e => (I.bs b o e).1
theorem Inv.mod (I : Inv X pins σ H s) : Mod X.K X.mg X.base := I.ok.mod
theorem Inv.kIn (I : Inv X pins σ H s) : X.K.In s.heap := I.ok.mod.kin.keeps I.bk
theorem Inv.nolimit (I : Inv X pins σ H s) : s.heap.NoLimit := I.ok.mod.nolimit.keeps I.bk
/-- the frame over the base: for OpenK's rules (K.In X.base is I.mod.kin) -/
theorem Inv.fr (I : Inv X pins σ H s) : ∃ m, Fr X.base X.env.locals s.heap m :=
  let ⟨m, hn, _⟩ := I.loc
  ⟨m, hn, I.bk, Nat.le_trans I.ok.bsz I.ok.above⟩
theorem Inv.lt (I : Inv X pins σ H s) : X.env.locals < s.heap.objs.size := let ⟨_, hn, _⟩ := I.loc; hn.lt
theorem Inv.sz (I : Inv X pins σ H s) : X.s₀.heap.objs.size ≤ s.heap.objs.size := Nat.le_trans I.ok.above (Nat.le_of_lt I.lt)
theorem Inv.nofs (I : Inv X pins σ H s) {a : Addr} (h : s.heap.objs.size ≤ a) : a ∉ X.fs := fun hb => by
  obtain ⟨_, o, ho, _⟩ := I.ok.funs.mem hb
  exact absurd (Nat.lt_of_lt_of_le (Heap.lt_size ho) (Nat.le_trans I.sz h)) (Nat.lt_irrefl _)
theorem Inv.cne (I : Inv X pins σ H s) : ∀ x c, X.env.cells.lookup x = some c → c ≠ X.env.locals := fun x c e z => by
  obtain ⟨v, o, ho, hd⟩ := I.cell x c e
  obtain ⟨m, ⟨o', es, ep, ho', hd', _⟩, _⟩ := I.loc
  rw [z, ho'] at ho; cases ho; rw [hd'] at hd; cases hd
theorem Inv.funs (I : Inv X pins σ H s) : s.heap.FunFrames X.base X.outer := by
  have all : ∀ (l : List Env), (∀ b ∈ frs l, b ∈ X.fs) → X.s₀.heap.FunFrames X.base l → s.heap.FunFrames X.base l := by
    intro l
    induction l with
    | nil => intro _ _; trivial
    | cons env r ih =>
      intro hs hl
      obtain ⟨hk, ⟨L, o, hf, hn, ho, hd⟩, hr⟩ := hl
      have hL : L ∈ X.fs := hs L (by unfold frs; rw [List.filterMap_cons, hf]; exact List.mem_cons_self)
      obtain ⟨sl, e⟩ := I.base.slot L o ho (I.ok.frf L hL) hL fun z => I.ok.exfs L z hL
      exact ⟨hk, ⟨L, _, hf, hn, e, hd⟩, ih (fun b hb => hs b (by unfold frs; rw [List.filterMap_cons, hf]; exact List.mem_cons_of_mem _ hb)) hr⟩
  exact all X.outer (fun _ hb => hb) I.ok.funs

/-- the frames that run, for a call -/
theorem Inv.stack (I : Inv X pins σ H s) : s.heap.FunFrames X.base X.stack := by
  rcases I.ok.stk with e | ⟨e, hf⟩
  · rw [e]; exact I.funs
  · rw [e]
    obtain ⟨m, hn, _⟩ := I.loc
    refine .cons (by rw [I.ok.kind]; decide) hf hn ?_ I.funs
    exact Heap.get?_none_of_le (Nat.le_trans I.ok.bsz I.ok.above)
theorem Inv.stkSub (I : Inv X pins σ H s) : ∀ b ∈ frs X.stack, b ∈ X.env.locals :: X.fs := fun b hb => by
  rcases I.ok.stk with e | ⟨e, hf⟩
  · rw [e] at hb; exact List.mem_cons_of_mem _ hb
  · rw [e] at hb
    unfold frs at hb
    rw [List.filterMap_cons, hf] at hb
    exact hb
theorem Inv.stkFree (I : Inv X pins σ H s) : ∀ b ∈ frs X.stack, H b = none := fun b hb => by
  rcases List.mem_cons.mp (I.stkSub b hb) with e | hb
  · rw [e]; exact I.free
  · obtain ⟨_, o, ho, _⟩ := I.ok.funs.mem hb
    exact I.base.free b o ho (I.ok.frf b hb) fun z => I.ok.exfs b z hb

/-- THE STEP: the untracked objects but the frame and the records at ch are kept (the callers' frames up to slots), the frame's map is kept, the new abstract heap is held -/
theorem Inv.step {g' : Array GenState} {t' : Nat} {d' : Drawn} {ch : List Addr} (I : Inv X pins σ H s)
    (hch : ∀ b ∈ ch, (b ∈ X.ex ∨ X.s₀.heap.objs.size ≤ b) ∧ b ≠ X.env.locals ∧ (∀ x c, X.env.cells.lookup x = some c → c ≠ b) ∧ ∀ p ∈ X.pn ++ pins, p.1 ≠ b)
    (keep : ∀ b o, b ≠ X.env.locals → b ∉ X.fs → b ∉ ch → s.heap.get? b = some o → H b = none → h'.get? b = some o)
    (slot : ∀ b o, b ≠ X.env.locals → b ∈ X.fs → b ∉ ch → s.heap.get? b = some o → H b = none → ∃ sl, h'.get? b = some { o with slots := sl }) (free : ∀ b o, b ∉ ch → s.heap.get? b = some o → H b = none → H' b = none)
    (there : ∀ b o, b ∉ ch → s.heap.get? b = some o → ∃ o', h'.get? b = some o')
    (tups : ∀ b xs, H b = some (.tup xs) → H' b = some (.tup xs)) (frzs : ∀ b o u, H b = some (.frz o u) → H' b = some (.frz o u)) (tbls : ∀ b ps, H b = some (.tbl ps) → ∃ more, H' b = some (.tbl (ps ++ more)))
    (ns : ∀ m, s.heap.Ns X.env.locals m → h'.Ns X.env.locals m) (hok : HOk X.prog X.w H' h') (hg : AllBare g') :
    Inv X pins σ H' { s with heap := h', gens := g', drawn := d', toks := t' } := by
  have neL : ∀ b o, X.s₀.heap.get? b = some o → b ≠ X.env.locals := fun b o e => Nat.ne_of_lt (Nat.lt_of_lt_of_le (Heap.lt_size e) I.ok.above)
  have neC : ∀ b o, X.s₀.heap.get? b = some o → b ∉ X.ex → b ∉ ch := fun b o e hx hb => by
    rcases (hch b hb).1 with z | z
    · exact hx z
    · exact absurd (Nat.lt_of_lt_of_le (Heap.lt_size e) z) (Nat.lt_irrefl _)
  have cellK : ∀ x c, X.env.cells.lookup x = some c → ∀ v, s.heap.IsCell c v → h'.IsCell c v := fun x c e v ⟨o, ho, hd⟩ => by
    have nch : c ∉ ch := fun z => (hch c z).2.2.1 x c e rfl
    by_cases hc : c ∈ X.fs
    · obtain ⟨sl, q⟩ := slot c o (I.cne x c e) hc nch ho (I.freeC x c e)
      exact ⟨_, q, hd⟩
    · exact ⟨o, keep c o (I.cne x c e) hc nch ho (I.freeC x c e), hd⟩
  refine ⟨I.ok, I.os, hg, ⟨fun b o e n hb hx => ?_, fun b o e n hb hx => ?_, fun b o e n hx => ?_, fun b o e hx => ?_, fun b xs e => tups b xs (I.base.tups b xs e), fun b o xs e => frzs b o xs (I.base.frzs b o xs e), fun b ps e => ?_⟩, ?_, fun x c e => ?_, ?_, fun x c e => ?_, fun p hp => ?_, hok, I.len⟩
  · exact keep b o (neL b o e) hb (neC b o e hx) (I.base.keep b o e n hb hx) (I.base.free b o e n hx)
  · obtain ⟨sl, e1⟩ := I.base.slot b o e n hb hx
    obtain ⟨sl', e2⟩ := slot b _ (neL b o e) hb (neC b o e hx) e1 (I.base.free b o e n hx)
    exact ⟨sl', e2⟩
  · obtain ⟨o', e1⟩ := I.base.there b o e hx
    exact free b o' (neC b o e hx) e1 (I.base.free b o e n hx)
  · obtain ⟨o', e1⟩ := I.base.there b o e hx
    exact there b o' (neC b o e hx) e1
  · obtain ⟨m1, e1⟩ := I.base.tbls b ps e
    obtain ⟨m2, e2⟩ := tbls b _ e1
    exact ⟨m1 ++ m2, by rw [e2, Array.append_assoc]⟩
  · obtain ⟨m, hn, hl⟩ := I.loc
    refine ⟨m, ns m hn, fun i x v e1 e2 e3 => ?_⟩
    obtain ⟨u, r, l⟩ := hl i x v e1 e2 e3
    refine ⟨u, r, ?_⟩
    rcases l with l | ⟨k, c, e, z⟩
    · exact .inl l
    · exact .inr ⟨k, c, e, cellK x c e _ z⟩
  · obtain ⟨v, z⟩ := I.cell x c e
    exact ⟨v, cellK x c e v z⟩
  · obtain ⟨m, ⟨o, _, _, ho, _⟩, _⟩ := I.loc
    exact free _ o (fun z => (hch _ z).2.1 rfl) ho I.free
  · obtain ⟨v, o, ho, hd⟩ := I.cell x c e
    exact free c o (fun z => (hch c z).2.2.1 x c e rfl) ho (I.freeC x c e)
  · obtain ⟨e, n, ne, nf, d⟩ := I.pin p hp
    have nch : p.1 ∉ ch := fun z => (hch p.1 z).2.2.2 p hp rfl
    exact ⟨keep p.1 p.2 ne nf nch e n, free p.1 p.2 nch e n, ne, nf, d⟩
/-- .. where the frame's own object is kept too -/
theorem Inv.un {t' : Nat} (I : Inv X pins σ H s) (u : Un X.fs [] H H' s.heap h') (hok : HOk X.prog X.w H' h') : Inv X pins σ H' { s with heap := h', toks := t' } := by
  obtain ⟨m, ⟨o, es, ep, ho, r⟩, _⟩ := id I.loc
  obtain ⟨sl, hL⟩ := u.any ho I.free (by simp)
  exact I.step (g' := s.gens) (d' := s.drawn) (ch := []) (fun _ z => nomatch z) (fun b o _ hb _ e n => u.keep b o e n hb (by simp)) (fun b o _ hb _ e n => u.slot b o e n hb (by simp)) (fun b o _ e n => u.free b o e n (by simp)) (fun b o _ e => u.there b o e (by simp)) u.tups u.frzs u.tbls (fun m' hm => by
    obtain ⟨o', es', ep', ho', r'⟩ := hm
    rw [ho] at ho'; cases ho'
    exact ⟨_, es', ep', hL, r'⟩) hok I.bare
/-- behind a call (or a comprehension's block): the slots of this frame may have changed too, the records at ch may have turned -/
theorem Inv.call {g' : Array GenState} {t' : Nat} {d' : Drawn} {ch : List Addr} (I : Inv X pins σ H s) (u : Un (frs X.stack) ch H H' s.heap h') (hok : HOk X.prog X.w H' h') (hg : AllBare g')
    (hch : ∀ b ∈ ch, (b ∈ X.ex ∨ X.s₀.heap.objs.size ≤ b) ∧ b ≠ X.env.locals ∧ (∀ x c, X.env.cells.lookup x = some c → c ≠ b) ∧ ∀ p ∈ X.pn ++ pins, p.1 ≠ b) :
    Inv X pins σ H' { s with heap := h', gens := g', drawn := d', toks := t' } := by
  obtain ⟨m, ⟨o, es, ep, ho, r⟩, _⟩ := id I.loc
  obtain ⟨sl, hL⟩ := u.any ho I.free fun z => (hch _ z).2.1 rfl
  exact I.step (ch := ch) hch (fun b o hL hb hc e n => u.keep b o e n (fun z => (List.mem_cons.mp (I.stkSub b z)).elim hL hb) hc) (fun b o _ _ hc e n => u.any e n hc) (fun b o hc e n => u.free b o e n hc) (fun b o hc e => u.there b o e hc) u.tups u.frzs u.tbls (fun m' hm => by
    obtain ⟨o', es', ep', ho', r'⟩ := hm
    rw [ho] at ho'; cases ho'
    exact ⟨_, es', ep', hL, r'⟩) hok hg
/-- an untracked record of ours (an iterator) has turned -/
theorem Inv.turned {t' : Nat} {it : Addr} (I : Inv X pins σ H s) (k : ∀ b o, b ≠ it → s.heap.get? b = some o → h'.get? b = some o) (hn : H it = none) (hL : it ≠ X.env.locals)
    (h1 : it ∈ X.ex ∨ X.s₀.heap.objs.size ≤ it) (h2 : ∀ x c, X.env.cells.lookup x = some c → c ≠ it) (h3 : ∀ p ∈ X.pn ++ pins, p.1 ≠ it) : Inv X pins σ H { s with heap := h', toks := t' } := by
  have nit : ∀ b u, H b = some u → b ≠ it := fun b u e z => by rw [z, hn] at e; cases e
  refine I.step (g' := s.gens) (d' := s.drawn) (ch := [it]) (fun b hb => ?_) (fun b o _ _ hc e _ => k b o (fun z => hc (by simp [z])) e) (fun b o _ _ hc e _ => ⟨o.slots, k b o (fun z => hc (by simp [z])) e⟩) (fun _ _ _ _ n => n)
    (fun b o hc e => ⟨o, k b o (fun z => hc (by simp [z])) e⟩) (fun _ _ e => e) (fun _ _ _ e => e) (fun b ps e => ⟨#[], by rw [e]; simp⟩) (fun m hm => ?_) (fun b u e => ?_) I.bare
  · have e : b = it := by simpa using hb
    subst e
    exact ⟨h1, hL, h2, h3⟩
  · obtain ⟨o, es, ep, ho, r⟩ := hm
    exact ⟨o, es, ep, k _ o (Ne.symm hL) ho, r⟩
  · refine (I.hok b u e).stay (fun c v hc q => k c v ?_ q) (fun _ q => q) fun _ _ q => q
    rcases hc with z | z
    · rw [z]; exact nit b u e
    · exact nit c _ z
theorem Inv.tok (I : Inv X pins σ H s) (t : Nat) : Inv X pins σ H { s with toks := t } := I.un (h' := s.heap) (t' := t) Un.refl I.hok
/-- all objects kept -/
theorem Inv.kept {t' : Nat} (I : Inv X pins σ H s) (k : ∀ b u, s.heap.get? b = some u → h'.get? b = some u) : Inv X pins σ H { s with heap := h', toks := t' } := I.un (Un.kept k) (I.hok.kept k)
/-- a new object laid and tracked -/
theorem Inv.laid {a : Addr} {o : HO} {t' : Nat} (I : Inv X pins σ H s) (k : ∀ b u, s.heap.get? b = some u → h'.get? b = some u) (hp : s.heap.objs.size ≤ a) (new : ObjOk X.prog X.w (upd H a o) h' a o) :
    Inv X pins σ (upd H a o) { s with heap := h', toks := t' } := I.un (Un.laid k hp (I.hok.fresh hp)) (I.hok.laid k hp new)
/-- an object written -/
theorem Inv.write {x e : Addr} {o : HO} {t' : Nat} (I : Inv X pins σ H s) (mu : Mut (H x)) (he : e = x ∨ H e = some (.own x)) (k : ∀ b u, b ≠ e → s.heap.get? b = some u → h'.get? b = some u) (heo : ∃ u, h'.get? e = some u)
    (new : ObjOk X.prog X.w (upd H x o) h' x o) : Inv X pins σ (upd H x o) { s with heap := h', toks := t' } := I.un (Un.write mu he k heo) (I.hok.write mu he k heo new)
/-- forgetting slots, pins -/
theorem Inv.weak {σ' : List (Option V)} (I : Inv X pins σ H s) (hl : σ'.length = σ.length) (w : ∀ (i : Nat) v, σ'[i]? = some (some v) → σ[i]? = some (some v)) : Inv X pins σ' H s :=
  ⟨I.ok, I.os, I.bare, I.base, let ⟨m, hn, hl'⟩ := I.loc; ⟨m, hn, fun i x v e1 e2 e3 => hl' i x v e1 (w i v e2) e3⟩, I.cell, I.free, I.freeC, I.pin, I.hok, hl.trans I.len⟩
theorem Inv.pins_of {pins' : List (Addr × Obj)} (I : Inv X pins σ H s) (h : ∀ p ∈ pins', s.heap.get? p.1 = some p.2 ∧ H p.1 = none ∧ p.1 ≠ X.env.locals ∧ p.1 ∉ X.fs ∧ ∀ v, p.2.data ≠ .cell v) : Inv X pins' σ H s :=
  ⟨I.ok, I.os, I.bare, I.base, I.loc, I.cell, I.free, I.freeC, fun p hp => (List.mem_append.mp hp).elim (fun z => I.pin p (List.mem_append_left _ z)) (h p), I.hok, I.len⟩

theorem nodup_ix {N : List Str} (hN : N.Nodup) {i j : Nat} {x : Str} (a : N[i]? = some x) (b : N[j]? = some x) : i = j := by
  obtain ⟨h1, e1⟩ := List.getElem?_eq_some_iff.mp a
  obtain ⟨h2, e2⟩ := List.getElem?_eq_some_iff.mp b
  exact (List.getElem_inj hN).mp (e1.trans e2.symm)

/-- a name is stored; what changed -/
theorem store_ok2 {M : Model} {A : Around} {E : Value → Shared → Prop} {i : Nat} {x : Str} {v : V} {u : Value} {Q : Unit → Shared → Prop} (I : Inv X pins σ H s) (hN : X.N.Nodup) (hi : X.N[i]? = some x) (hx : Loc X.env.scope x) (r : RelV v u)
    (h : ∀ s', Inv X pins (σ.set i (some v)) H s' → (∃ a, Heap.SameBut a s.heap s'.heap ∧ (a = X.env.locals ∨ X.env.cells.lookup x = some a)) → Q () s') (hf : X.fn x = true ∨ X.env.scope.names.lookup x = some .local := by first | exact .inl rfl | exact .inr rfl | assumption) : wpAny M A (storeName X.env x u) Q E s := by
  obtain ⟨m, hn, hl⟩ := id I.loc
  have hcls : (X.env.scope.kind == .class || (X.env.scope.kind == .module && X.env.locals != X.env.globals)) = false := by rw [I.ok.kind]; rfl
  have hiσ : i < σ.length := by rw [I.len]; exact (List.getElem?_eq_some_iff.mp hi).1
  have cne := I.cne
  have tracked : ∀ {a : Addr} {h' : Heap}, (∃ o, s.heap.get? a = some o ∧ H a = none) → Heap.SameBut a s.heap h' → HOk X.prog X.w H h' := fun {a h'} ha hs b ob e => by
    obtain ⟨_, _, hfree⟩ := ha
    refine (I.hok b ob e).stay (fun c w' hc q => (hs.2 c ?_).trans q) (fun _ q => q) fun _ _ q => q
    rintro rfl
    rcases hc with rfl | hc
    · rw [hfree] at e; cases e
    · rw [hfree] at hc; cases hc
  rcases hx with hk | hk
  · refine wpAny_storeName_local hk hn (fun h' hn' hs => ?_) hcls
    obtain ⟨oL, _, _, hoL, _⟩ := id hn
    refine h _ ⟨I.ok, I.os, I.bare, ⟨fun b o e n hb hx => ?_, fun b o e n hb hx => ?_, I.base.free, fun b o e hx => ?_, I.base.tups, I.base.frzs, I.base.tbls⟩, ⟨_, hn', fun j y v' e1 e2 e3 => ?_⟩, fun y c e => ?_, I.free, I.freeC, fun p hp => ?_, tracked ⟨oL, hoL, I.free⟩ hs, by simpa using I.len⟩ ⟨_, hs, .inl rfl⟩
    · exact (hs.2 b (Nat.ne_of_lt (Nat.lt_of_lt_of_le (Heap.lt_size e) I.ok.above))).trans (I.base.keep b o e n hb hx)
    · obtain ⟨sl, e1⟩ := I.base.slot b o e n hb hx
      exact ⟨sl, (hs.2 b (Nat.ne_of_lt (Nat.lt_of_lt_of_le (Heap.lt_size e) I.ok.above))).trans e1⟩
    · obtain ⟨o', e1⟩ := I.base.there b o e hx
      exact ⟨o', (hs.2 b (Nat.ne_of_lt (Nat.lt_of_lt_of_le (Heap.lt_size e) I.ok.above))).trans e1⟩
    · by_cases hj : j = i
      · subst hj
        rw [hi] at e1; cases e1
        rw [List.getElem?_set_self hiσ] at e2
        cases e2
        exact ⟨u, r, .inl ⟨hk, by simp⟩⟩
      · rw [List.getElem?_set_ne (Ne.symm hj)] at e2
        obtain ⟨u', r', q⟩ := hl j y v' e1 e2 e3
        refine ⟨u', r', ?_⟩
        rcases q with ⟨k, e⟩ | ⟨k, c, e, z⟩
        · refine .inl ⟨k, ?_⟩
          have : y ≠ x := fun e => hj (nodup_ix hN e1 (e ▸ hi))
          simp [this, e]
        · exact .inr ⟨k, c, e, z.sameBut hs (cne y c e)⟩
    · obtain ⟨w', z⟩ := I.cell y c e
      exact ⟨w', z.sameBut hs (cne y c e)⟩
    · obtain ⟨e, n, ne, nf, d⟩ := I.pin p hp
      exact ⟨(hs.2 p.1 ne).trans e, n, ne, nf, d⟩
  · have hfn : X.fn x = true := by
      rcases hf with z | z
      · exact z
      · rw [z] at hk; cases hk
    obtain ⟨c, hc⟩ := I.ok.has x (.inl hk)
    obtain ⟨w', z⟩ := I.cell x c hc
    refine wpAny_storeName_cell I.ok.kind hk hc z (fun h' hc' hs => ?_)
    obtain ⟨oc, hoc, hocd⟩ := id z
    refine h { s with heap := h' } ⟨I.ok, I.os, I.bare, ⟨fun b o e n hb hx => ?_, fun b o e n hb hx => ?_, I.base.free, fun b o e hx => ?_, I.base.tups, I.base.frzs, I.base.tbls⟩, ⟨m, hn.sameBut hs (Ne.symm (cne x c hc)), fun j y v' e1 e2 e3 => ?_⟩, fun y c' e => ?_, I.free, I.freeC, fun p hp => ?_, tracked ⟨oc, hoc, I.freeC x c hc⟩ hs, by simpa using I.len⟩ ⟨c, hs, .inr hc⟩
    · exact (hs.2 b (Nat.ne_of_lt (Nat.lt_of_lt_of_le (Heap.lt_size e) (I.ok.cab x c hfn hc)))).trans (I.base.keep b o e n hb hx)
    · obtain ⟨sl, e1⟩ := I.base.slot b o e n hb hx
      exact ⟨sl, (hs.2 b (Nat.ne_of_lt (Nat.lt_of_lt_of_le (Heap.lt_size e) (I.ok.cab x c hfn hc)))).trans e1⟩
    · obtain ⟨o', e1⟩ := I.base.there b o e hx
      exact ⟨o', (hs.2 b (Nat.ne_of_lt (Nat.lt_of_lt_of_le (Heap.lt_size e) (I.ok.cab x c hfn hc)))).trans e1⟩
    · by_cases hj : j = i
      · subst hj
        rw [hi] at e1; cases e1
        rw [List.getElem?_set_self hiσ] at e2
        cases e2
        exact ⟨u, r, .inr ⟨.inl hk, c, hc, hc'⟩⟩
      · rw [List.getElem?_set_ne (Ne.symm hj)] at e2
        obtain ⟨u', r', q⟩ := hl j y v' e1 e2 e3
        refine ⟨u', r', ?_⟩
        rcases q with q | ⟨k, c', e, z'⟩
        · exact .inl q
        · refine .inr ⟨k, c', e, z'.sameBut hs ?_⟩
          rintro rfl
          exact hj (nodup_ix hN e1 (I.ok.inj _ _ _ e hc ▸ hi))
    · by_cases hcc : c' = c
      · subst hcc; exact ⟨_, hc'⟩
      · obtain ⟨w2, z2⟩ := I.cell y c' e
        exact ⟨w2, z2.sameBut hs hcc⟩
    · obtain ⟨e, n, ne, nf, d⟩ := I.pin p hp
      refine ⟨(hs.2 p.1 ?_).trans e, n, ne, nf, d⟩
      intro q
      rw [q, hoc] at e
      have q' : oc = p.2 := Option.some.inj e
      exact d w' (by rw [← q']; exact hocd)
theorem store_ok {M : Model} {A : Around} {E : Value → Shared → Prop} {i : Nat} {x : Str} {v : V} {u : Value} {Q : Unit → Shared → Prop} (I : Inv X pins σ H s) (hN : X.N.Nodup) (hi : X.N[i]? = some x) (hx : Loc X.env.scope x) (r : RelV v u)
    (h : ∀ s', Inv X pins (σ.set i (some v)) H s' → Q () s') (hf : X.fn x = true ∨ X.env.scope.names.lookup x = some .local := by first | exact .inl rfl | exact .inr rfl | assumption) : wpAny M A (storeName X.env x u) Q E s :=
  store_ok2 I hN hi hx r (fun s' I' _ => h s' I') hf
/-- behind a call or a block, the state as it is -/
theorem Inv.call' {s' : Shared} {ch : List Addr} (I : Inv X pins σ H s) (ho : s'.os = s.os) (u : Un (frs X.stack) ch H H' s.heap s'.heap) (hok : HOk X.prog X.w H' s'.heap) (hg : AllBare s'.gens)
    (hch : ∀ b ∈ ch, (b ∈ X.ex ∨ X.s₀.heap.objs.size ≤ b) ∧ b ≠ X.env.locals ∧ (∀ x c, X.env.cells.lookup x = some c → c ≠ b) ∧ ∀ p ∈ X.pn ++ pins, p.1 ≠ b) : Inv X pins σ H' s' := by
  obtain ⟨h', g', d', t', o'⟩ := s'
  have e : o' = s.os := ho
  subst e
  exact I.call (g' := g') (t' := t') (d' := d') u hok hg hch
end

/-! ### the judgements -/
/-- an exception: its class, its own dict's address (where it has one), the abstract heap behind it -/
abbrev XK := Value → Option Addr → Hp → Prop
abbrev St := List (Option V)
abbrev VK := V → Hp → Prop
/-- an expression's reading; a test's; an argument list's -/
abbrev TE := St → Hp → VK → Prop
abbrev TT := St → Hp → (Bool → Hp → Prop) → Prop
abbrev TA := St → Hp → (List V → Hp → Prop) → Prop
/-- what is wanted behind a statement -/
structure Ends where
  nx : St → Hp → Prop
  rt : VK
  bk : St → Hp → Prop := fun _ _ => False
  ct : St → Hp → Prop := fun _ _ => False
abbrev TS := Ends → St → Hp → Prop

def EP (X : Cx) (pins : List (Addr × Obj)) (σ : St) (Q : VK) (u : Value) (s' : Shared) : Prop := ∃ v H', Inv X pins σ H' s' ∧ RelV v u ∧ Q v H'
def TP (X : Cx) (pins : List (Addr × Obj)) (σ : St) (Q : Bool → Hp → Prop) (b : Bool) (s' : Shared) : Prop := ∃ H', Inv X pins σ H' s' ∧ Q b H'
def AP (X : Cx) (pins : List (Addr × Obj)) (σ : St) (Q : List V → Hp → Prop) (us : List Value) (s' : Shared) : Prop := ∃ vs H', Inv X pins σ H' s' ∧ Vals vs us ∧ Q vs H'
def SP (X : Cx) (pins : List (Addr × Obj)) (D : Ends) (f : Flow) (s' : Shared) : Prop :=
  match f with
  | .next => ∃ σ' H', Inv X pins σ' H' s' ∧ D.nx σ' H'
  | .brk => ∃ σ' H', Inv X pins σ' H' s' ∧ D.bk σ' H'
  | .cont => ∃ σ' H', Inv X pins σ' H' s' ∧ D.ct σ' H'
  | .ret u => ∃ v σ' H', Inv X pins σ' H' s' ∧ RelV v u ∧ D.rt v H'

def PE (X : Cx) (e : Expr) (t : TE) : Prop :=
  ∀ (pins : List (Addr × Obj)) (s : Shared) (σ : St) (H : Hp) (Q : VK), Inv X pins σ H s → t σ H Q → wpAny (model X.prog X.w) X.A (eval e X.env) (EP X pins σ Q) X.xe s
def PT (X : Cx) (e : Expr) (t : TT) : Prop :=
  ∀ (pins : List (Addr × Obj)) (s : Shared) (σ : St) (H : Hp) (Q : Bool → Hp → Prop), Inv X pins σ H s → t σ H Q → wpAny (model X.prog X.w) X.A (isTrue e X.env (eval e X.env)) (TP X pins σ Q) X.xe s
/-- a test whatever its 'whole' is (and, or) -/
def PW (X : Cx) (e : Expr) (t : TT) : Prop :=
  ∀ (whole : Sem Value) (pins : List (Addr × Obj)) (s : Shared) (σ : St) (H : Hp) (Q : Bool → Hp → Prop), Inv X pins σ H s → t σ H Q → wpAny (model X.prog X.w) X.A (isTrue e X.env whole) (TP X pins σ Q) X.xe s
theorem PW.pt {X : Cx} {e : Expr} {t : TT} (h : PW X e t) : PT X e t := h _
/-- an argument list (no star), from the left -/
def PA (X : Cx) (es : List Expr) (t : TA) : Prop :=
  ∀ (pos : Pos) (pins : List (Addr × Obj)) (s : Shared) (σ : St) (H : Hp) (Q : List V → Hp → Prop), Inv X pins σ H s → t σ H Q → wpAny (model X.prog X.w) X.A (spliced (backTo pos (starEach es X.env))) (AP X pins σ Q) X.xe s
def PS (X : Cx) (st : Stmt) (t : TS) : Prop :=
  ∀ (pins : List (Addr × Obj)) (s : Shared) (σ : St) (H : Hp) (D : Ends), Inv X pins σ H s → t D σ H → wpAny (model X.prog X.w) X.A (exec st X.env) (SP X pins D) X.xe s
def PSs (X : Cx) (st : List Stmt) (t : TS) : Prop :=
  ∀ (pins : List (Addr × Obj)) (s : Shared) (σ : St) (H : Hp) (D : Ends), Inv X pins σ H s → t D σ H → wpAny (model X.prog X.w) X.A (execs st X.env) (SP X pins D) X.xe s
/-- weaken the end -/
theorem thn {α : Type} {t : Sem α} {Q Q' : α → Shared → Prop} {M : Model} {A : Around} {E : Value → Shared → Prop} {s : Shared} (h : wpAny M A t Q E s) (hQ : ∀ a s, Q a s → Q' a s) : wpAny M A t Q' E s := wpAny_mono h hQ fun _ _ x => x
end L2

namespace L2
open PySem PySem.Spec PyProof.Rows
section
variable {X : Cx}

/-- two expressions in a row -/
theorem bin {a b : Expr} {ta tb : TE} (ha : PE X a ta) (hb : PE X b tb) {pins : List (Addr × Obj)} {s : Shared} {σ : St} {H : Hp} {R : V → V → Hp → Prop} (I : Inv X pins σ H s) (h : ta σ H fun x H1 => tb σ H1 fun y H2 => R x y H2)
    {α : Type} {Q : α → Shared → Prop} {f : Value → Value → Sem α}
    (hf : ∀ v u s2 x y H2, Inv X pins σ H2 s2 → RelV x v → RelV y u → R x y H2 → wpAny (model X.prog X.w) X.A (f v u) Q X.xe s2) :
    wpAny (model X.prog X.w) X.A (eval a X.env) (fun v s₁ => wpAny (model X.prog X.w) X.A (eval b X.env) (fun u s₂ => wpAny (model X.prog X.w) X.A (f v u) Q X.xe s₂) X.xe s₁) X.xe s := by
  refine thn (ha pins s σ H _ I h) fun v s1 ⟨x, H1, I1, r1, q1⟩ => ?_
  refine thn (hb pins s1 σ H1 _ I1 q1) fun u s2 ⟨y, H2, I2, r2, q2⟩ => ?_
  exact hf v u s2 x y H2 I2 r1 r2 q2

/-! ### names and constants -/
def tVar (i : Nat) : TE := fun σ H Q => ∃ v, σ[i]? = some (some v) ∧ Q v H
def tC (v : V) : TE := fun _ H Q => Q v H
theorem pe_var {i : Nat} {x : Str} {pos : Pos} (hN : X.N[i]? = some x) (hv : Vis X.env.scope x) (hd : (x == ("__debug__" : Str)) = false := by decide) (hcd : (x == ("__classdict__" : Str)) = false := by decide) : PE X (.Name x pos) (tVar i) := by
  intro pins s σ H Q I h
  obtain ⟨v, e, h⟩ := h
  obtain ⟨m, hn, hl⟩ := I.loc
  obtain ⟨u, r, l⟩ := hl i x v hN e hv
  have fin : EP X pins σ Q u s := ⟨v, H, I, r, h⟩
  rcases l with ⟨hk, hm⟩ | ⟨hk, c, hc, hcell⟩
  · exact wpAny_Name (wpAny_loadName_local I.ok.kind hk hn hm fin) hd
  · rcases hk with hk | hk
    · exact wpAny_Name (wpAny_loadName_cell I.ok.kind hk hc hcell fin) hd
    · exact wpAny_Name (wpAny_loadName_free I.ok.kind hk hc hcell fin hcd) hd
theorem pe_int {i j pos} : PE X (.Constant (.int i) j pos) (tC (.int i)) := fun _ _ _ H _ I h => wpAny_Constant_int ⟨.int i, H, I.tok _, ⟨_, rfl⟩, h⟩
theorem pe_bl {b j pos} : PE X (.Constant (.bool b) j pos) (tC (.bl b)) := fun _ _ _ H _ I h => Constant_bool ⟨.bl b, H, I, rfl, h⟩
theorem pe_non {j pos} : PE X (.Constant .none j pos) (tC .non) := fun _ _ _ H _ I h => Constant_none ⟨.non, H, I, rfl, h⟩
theorem pe_str {x j pos} : PE X (.Constant (.str x) j pos) (tC (.str x)) := fun _ _ _ H _ I h => Calls.Constant_str ⟨.str x, H, I.tok _, ⟨_, rfl⟩, h⟩

/-- a global name of the def -/
def Gl (X : Cx) (x : Str) : Prop := X.env.kindOf x = some .globalImplicit
theorem ld_glob {E : Value → Shared → Prop} {pins : List (Addr × Obj)} {s : Shared} {σ : St} {H : Hp} {x : Str} {u : Value} {pos : Pos} {Q : Value → Shared → Prop} (I : Inv X pins σ H s) (hg : Gl X x) (hm : X.mg x = some u) (h : Q u s)
    (hd : (x == ("__debug__" : Str)) = false := by decide) : wpAny (model X.prog X.w) X.A (eval (.Name x pos) X.env) Q E s :=
  Calls.Name_function_global I.ok.kind hg (Calls.loadGlobal_global (by rw [I.ok.glob]; exact I.mod.glob.keeps I.bk) hm h) hd
theorem ld_blt {E : Value → Shared → Prop} {pins : List (Addr × Obj)} {s : Shared} {σ : St} {H : Hp} {x : Str} {u : Value} {pos : Pos} {Q : Value → Shared → Prop} (I : Inv X pins σ H s) (hg : Gl X x) (hm : X.mg x = none) (hv : bootBuiltins x = some u) (h : Q u s)
    (hn : x ≠ "__name__" := by decide) (hd : (x == ("__debug__" : Str)) = false := by decide) : wpAny (model X.prog X.w) X.A (eval (.Name x pos) X.env) Q E s := by
  obtain ⟨mb, h1, h2⟩ := I.mod.blt
  exact Calls.Name_function_global I.ok.kind hg (Calls.loadGlobal_builtin (by rw [I.ok.glob]; exact I.mod.glob.keeps I.bk) hm (by rw [I.ok.blt]; exact h1.keeps I.bk) ((h2 x hn).trans hv) h) hd
/-- a module's constant, a class, a function, as a value -/
theorem pe_glob {x : Str} {v : V} {u : Value} {pos : Pos} (hg : Gl X x) (hm : X.mg x = some u) (r : RelV v u) (hd : (x == ("__debug__" : Str)) = false := by decide) : PE X (.Name x pos) (tC v) :=
  fun _ _ _ H _ I h => ld_glob I hg hm ⟨v, H, I, r, h⟩ hd
theorem pe_bltn {x : Str} {v : V} {u : Value} {pos : Pos} (hg : Gl X x) (hm : X.mg x = none) (hv : bootBuiltins x = some u) (r : RelV v u) (hn : x ≠ "__name__" := by decide) (hd : (x == ("__debug__" : Str)) = false := by decide) : PE X (.Name x pos) (tC v) :=
  fun _ _ _ H _ I h => ld_blt I hg hm hv ⟨v, H, I, r, h⟩ hn hd

/-! ### arithmetic -/
/-- two ints -/
def t2I (ta tb : TE) (k : Int → Int → Hp → Prop) : St → Hp → Prop := fun σ H => ta σ H fun x H1 => tb σ H1 fun y H2 => ∃ i j, x = .int i ∧ y = .int j ∧ k i j H2
def tAdd (ta tb : TE) : TE := fun σ H Q => t2I ta tb (fun i j H2 => Q (.int (i + j)) H2) σ H
def tSub (ta tb : TE) : TE := fun σ H Q => t2I ta tb (fun i j H2 => Q (.int (i - j)) H2) σ H
/-- the left factor below 2^64 -/
def tMul (ta tb : TE) : TE := fun σ H Q => t2I ta tb (fun i j H2 => (-(2 ^ 64) < i ∧ i < 2 ^ 64) ∧ Q (.int (i * j)) H2) σ H
variable {a b : Expr} {ta tb : TE} {pos : Pos}
theorem pe_add (ha : PE X a ta) (hb : PE X b tb) : PE X (.BinOp a .Add b pos) (tAdd ta tb) := by
  intro pins s σ H Q I h
  refine wpAny_BinOp (bin ha hb I h fun v u s2 x y H2 I2 rx ry q => ?_)
  obtain ⟨i, j, rfl, rfl, q⟩ := q
  obtain ⟨t, rfl⟩ := rx
  obtain ⟨t', rfl⟩ := ry
  exact add_int ⟨.int _, H2, I2.tok _, ⟨_, rfl⟩, q⟩
theorem pe_sub (ha : PE X a ta) (hb : PE X b tb) : PE X (.BinOp a .Sub b pos) (tSub ta tb) := by
  intro pins s σ H Q I h
  refine wpAny_BinOp (bin ha hb I h fun v u s2 x y H2 I2 rx ry q => ?_)
  obtain ⟨i, j, rfl, rfl, q⟩ := q
  obtain ⟨t, rfl⟩ := rx
  obtain ⟨t', rfl⟩ := ry
  exact sub_int ⟨.int _, H2, I2.tok _, ⟨_, rfl⟩, q⟩
theorem pe_mul (ha : PE X a ta) (hb : PE X b tb) : PE X (.BinOp a .Mult b pos) (tMul ta tb) := by
  intro pins s σ H Q I h
  refine wpAny_BinOp (bin ha hb I h fun v u s2 x y H2 I2 rx ry q => ?_)
  obtain ⟨i, j, rfl, rfl, ⟨q1, q2⟩, q⟩ := q
  obtain ⟨t, rfl⟩ := rx
  obtain ⟨t', rfl⟩ := ry
  exact mul_int ⟨.int _, H2, I2.tok _, ⟨_, rfl⟩, q⟩ (.of_left (intBits_le_64 q1 q2))

/-! ### comparisons -/
def PC (X : Cx) (op : CmpOp) (a b : Expr) (t : TE) : Prop :=
  ∀ (pins : List (Addr × Obj)) (s : Shared) (σ : St) (H : Hp) (Q : VK), Inv X pins σ H s → t σ H Q →
    wpAny (model X.prog X.w) X.A (eval a X.env) (fun v s₁ => wpAny (model X.prog X.w) X.A (eval b X.env) (fun u s₂ => wpAny (model X.prog X.w) X.A (compareOp op v u) (EP X pins σ Q) X.xe s₂) X.xe s₁) X.xe s
theorem nobehind (b : Expr) {op : CmpOp} (h : op ≠ .In) (h2 : op ≠ .NotIn) : behindInMarks op b = false := by
  have e1 : (op == CmpOp.In) = false := by cases op <;> first | rfl | exact absurd rfl h
  have e2 : (op == CmpOp.NotIn) = false := by cases op <;> first | rfl | exact absurd rfl h2
  cases b <;> simp [behindInMarks, e1, e2]
def tCmp (p : Int → Int → Bool) (ta tb : TE) : TE := fun σ H Q => t2I ta tb (fun i j H2 => Q (.bl (p i j)) H2) σ H
abbrev tLt : TE → TE → TE := tCmp fun i j => decide (i < j)
abbrev tLe : TE → TE → TE := tCmp fun i j => decide (i ≤ j)
abbrev tGt : TE → TE → TE := tCmp fun i j => decide (j < i)
abbrev tGe : TE → TE → TE := tCmp fun i j => decide (j ≤ i)
abbrev tEqI : TE → TE → TE := tCmp fun i j => decide (i = j)
abbrev tNeI : TE → TE → TE := tCmp fun i j => !decide (i = j)
/-- a comparison of two ints, by its rule -/
theorem pc_int {op : CmpOp} {p : Int → Int → Bool} (ha : PE X a ta) (hb : PE X b tb)
    (rule : ∀ (i j : Int) (t u : Tok) (Q : Value → Shared → Prop) (s : Shared), Q (.bool (p i j)) s → wpAny (model X.prog X.w) X.A (compareOp op (.int i t) (.int j u)) Q X.xe s) : PC X op a b (tCmp p ta tb) := by
  intro pins s σ H Q I h
  refine bin ha hb I h fun v u s2 x y H2 I2 rx ry q => ?_
  obtain ⟨i, j, rfl, rfl, q⟩ := q
  obtain ⟨t, rfl⟩ := rx
  obtain ⟨t', rfl⟩ := ry
  exact rule i j t t' _ s2 ⟨.bl _, H2, I2, rfl, q⟩
theorem pc_lt (ha : PE X a ta) (hb : PE X b tb) : PC X .Lt a b (tLt ta tb) := pc_int ha hb fun _ _ _ _ _ _ h => lt_int h
theorem pc_le (ha : PE X a ta) (hb : PE X b tb) : PC X .LtE a b (tLe ta tb) := pc_int ha hb fun _ _ _ _ _ _ h => le_int h
theorem pc_gt (ha : PE X a ta) (hb : PE X b tb) : PC X .Gt a b (tGt ta tb) := pc_int ha hb fun _ _ _ _ _ _ h => gt_int h
theorem pc_ge (ha : PE X a ta) (hb : PE X b tb) : PC X .GtE a b (tGe ta tb) := pc_int ha hb fun _ _ _ _ _ _ h => ge_int h
theorem pc_eqI (ha : PE X a ta) (hb : PE X b tb) : PC X .Eq a b (tEqI ta tb) := pc_int ha hb fun _ _ _ _ _ _ h => eq_int (by rw [Bool.beq_eq_decide_eq]; exact h)
theorem pc_neI (ha : PE X a ta) (hb : PE X b tb) : PC X .NotEq a b (tNeI ta tb) := pc_int ha hb fun _ _ _ _ _ _ h => ne_int (by rw [bne, Bool.beq_eq_decide_eq]; exact h)
/-- is None -/
def tIsN (ta : TE) : TE := fun σ H Q => ta σ H fun x H1 => Q (.bl (decide (x = .non))) H1
def tNotN (ta : TE) : TE := fun σ H Q => ta σ H fun x H1 => Q (.bl (!decide (x = .non))) H1
theorem RelV.none_iff {x : V} {v : Value} (r : RelV x v) : (v == Value.none) = decide (x = .non) := by
  cases x with
  | non => cases r; rfl
  | bl _ => cases r; rfl
  | int _ => obtain ⟨t, rfl⟩ := r; rfl
  | str _ => obtain ⟨t, rfl⟩ := r; rfl
  | byt _ => obtain ⟨t, rfl⟩ := r; rfl
  | flt _ => obtain ⟨t, rfl⟩ := r; rfl
  | ref _ => cases r; rfl
  | ty _ => cases r; rfl
theorem pc_isN {j pos'} (ha : PE X a ta) : PC X .Is a (.Constant .none j pos') (tIsN ta) := by
  intro pins s σ H Q I h
  refine thn (ha pins s σ H _ I h) fun v s1 ⟨x, H1, I1, r1, q1⟩ => ?_
  exact Constant_none (is_none_gen ⟨.bl _, H1, I1, by rw [r1.none_iff]; rfl, q1⟩)
theorem pc_notN {j pos'} (ha : PE X a ta) : PC X .IsNot a (.Constant .none j pos') (tNotN ta) := by
  intro pins s σ H Q I h
  refine thn (ha pins s σ H _ I h) fun v s1 ⟨x, H1, I1, r1, q1⟩ => ?_
  exact Constant_none (isnot_none_gen ⟨.bl _, H1, I1, by rw [r1.none_iff]; rfl, q1⟩)
/-- a comparison as a value, as a test -/
def tB (t : TE) : TT := fun σ H Q => t σ H fun x H1 => ∃ c, x = .bl c ∧ Q c H1
theorem pe_cmp {op : CmpOp} {t : TE} (h : PC X op a b t) (h1 : behindInMarks op b = false := by first | exact nobehind _ (by decide) (by decide) | rfl) : PE X (.Compare a [op] [b] pos) t := fun pins s σ H Q I hw => wpAny_Compare1 (h pins s σ H Q I hw) h1
theorem pt_cmp {op : CmpOp} {t : TE} (h : PC X op a b t) (h1 : behindInMarks op b = false := by first | exact nobehind _ (by decide) (by decide) | rfl) : PT X (.Compare a [op] [b] pos) (tB t) := by
  intro pins s σ H Q I hw
  refine wpAny_isTrue_Compare1 (thn (h pins s σ H _ I hw) fun v s1 h1 => thn h1 fun u s2 h2 => thn h2 fun c s3 ⟨x, H1, I1, r1, q1⟩ => ?_) h1
  obtain ⟨d, rfl, q⟩ := q1
  cases r1
  exact wpAny_truthy_bool ⟨H1, I1, q⟩
/-- an expression whose value is a bool, as a test -/
theorem pt_val {e : Expr} {t : TE} (h : PE X e t) (he : ∀ whole, isTrue e X.env whole = (do let v ← whole; standAt e.pos; holding [v] (truthy v)) := by intro _; rfl) : PT X e (tB t) := by
  intro pins s σ H Q I hw
  refine isTrue_plain (thn (h pins s σ H _ I hw) fun v s1 ⟨x, H1, I1, r1, q1⟩ => ?_) (he _)
  obtain ⟨d, rfl, q⟩ := q1
  cases r1
  exact wpAny_truthy_bool ⟨H1, I1, q⟩

/-! ### and, or, not -/
variable {tA tB' : TT} {rest : List Expr}
def tAnd (t u : TT) : TT := fun σ H Q => t σ H fun c H1 => if c = true then u σ H1 Q else Q false H1
def tOr (t u : TT) : TT := fun σ H Q => t σ H fun c H1 => if c = true then Q true H1 else u σ H1 Q
def tNot (t : TT) : TT := fun σ H Q => t σ H fun c H1 => Q (!c) H1
theorem pw_and1 (ha : PT X a tA) : PW X (.BoolOp .And [a] pos) tA := by
  intro wh pins s σ H Q I h
  refine isTrue_and (thn (ha pins s σ H Q I h) fun c s1 e => ?_)
  cases c with
  | true => exact isTrue_and_nil e
  | false => exact e
theorem pw_or1 (ha : PT X a tA) : PW X (.BoolOp .Or [a] pos) tA := by
  intro wh pins s σ H Q I h
  refine isTrue_or (thn (ha pins s σ H Q I h) fun c s1 e => ?_)
  cases c with
  | false => exact isTrue_or_nil e
  | true => exact e
theorem pw_and (ha : PT X a tA) (hb : PW X (.BoolOp .And (b :: rest) pos) tB') : PW X (.BoolOp .And (a :: b :: rest) pos) (tAnd tA tB') := by
  intro wh pins s σ H Q I h
  refine isTrue_and (thn (ha pins s σ H _ I h) fun c s1 ⟨H1, I1, q1⟩ => ?_)
  cases c with
  | true => exact hb wh pins s1 σ H1 Q I1 q1
  | false => exact ⟨H1, I1, q1⟩
theorem pw_or (ha : PT X a tA) (hb : PW X (.BoolOp .Or (b :: rest) pos) tB') : PW X (.BoolOp .Or (a :: b :: rest) pos) (tOr tA tB') := by
  intro wh pins s σ H Q I h
  refine isTrue_or (thn (ha pins s σ H _ I h) fun c s1 ⟨H1, I1, q1⟩ => ?_)
  cases c with
  | true => exact ⟨H1, I1, q1⟩
  | false => exact hb wh pins s1 σ H1 Q I1 q1
theorem pt_not (ha : PT X a tA) : PT X (.UnaryOp .Not a pos) (tNot tA) := by
  intro pins s σ H Q I h
  exact isTrue_not (ha pins s σ H (fun c H1 => Q (!c) H1) I h)
/-- .. as values (bools) -/
def tAndV (ta tb : TE) : TE := fun σ H Q => ta σ H fun x H1 => ∃ c, x = .bl c ∧ if c = true then tb σ H1 Q else Q (.bl false) H1
def tOrV (ta tb : TE) : TE := fun σ H Q => ta σ H fun x H1 => ∃ c, x = .bl c ∧ if c = true then Q (.bl true) H1 else tb σ H1 Q
def tNotV (ta : TE) : TE := fun σ H Q => ta σ H fun x H1 => ∃ c, x = .bl c ∧ Q (.bl (!c)) H1
theorem pe_one {op} {t : TE} (h : PE X a t) : PE X (.BoolOp op [a] pos) t := fun pins s σ H Q I hw => BoolOp_one (h pins s σ H Q I hw)
theorem pe_and (ha : PE X a ta) (hb : PE X (.BoolOp .And (b :: rest) pos) tb) : PE X (.BoolOp .And (a :: b :: rest) pos) (tAndV ta tb) := by
  intro pins s σ H Q I h
  refine BoolOp_and (thn (ha pins s σ H _ I h) fun v s1 ⟨x, H1, I1, r1, q1⟩ => ?_)
  obtain ⟨c, rfl, q1⟩ := q1
  cases r1
  refine wpAny_truthy_bool ?_
  cases c with
  | true => exact hb pins s1 σ H1 Q I1 q1
  | false => exact ⟨.bl false, H1, I1, rfl, q1⟩
theorem pe_or (ha : PE X a ta) (hb : PE X (.BoolOp .Or (b :: rest) pos) tb) : PE X (.BoolOp .Or (a :: b :: rest) pos) (tOrV ta tb) := by
  intro pins s σ H Q I h
  refine BoolOp_or (thn (ha pins s σ H _ I h) fun v s1 ⟨x, H1, I1, r1, q1⟩ => ?_)
  obtain ⟨c, rfl, q1⟩ := q1
  cases r1
  refine wpAny_truthy_bool ?_
  cases c with
  | false => exact hb pins s1 σ H1 Q I1 q1
  | true => exact ⟨.bl true, H1, I1, rfl, q1⟩
theorem pe_not (ha : PE X a ta) : PE X (.UnaryOp .Not a pos) (tNotV ta) := by
  intro pins s σ H Q I h
  refine UnaryOp_ (thn (ha pins s σ H _ I h) fun v s1 ⟨x, H1, I1, r1, q1⟩ => ?_)
  obtain ⟨c, rfl, q1⟩ := q1
  cases r1
  exact not_of (wpAny_truthy_bool ⟨.bl (!c), H1, I1, rfl, q1⟩)
/-- a if t else b -/
def tIf (t : TT) (ta tb : TE) : TE := fun σ H Q => t σ H fun c H1 => if c = true then ta σ H1 Q else tb σ H1 Q
theorem pe_ifExp {c : Expr} (hc : PT X c tA) (ha : PE X a ta) (hb : PE X b tb) : PE X (.IfExp c a b pos) (tIf tA ta tb) := by
  intro pins s σ H Q I h
  refine wpAny_IfExp (thn (hc pins s σ H _ I h) fun d s1 ⟨H1, I1, q1⟩ => ?_)
  cases d with
  | true => exact ha pins s1 σ H1 Q I1 q1
  | false => exact hb pins s1 σ H1 Q I1 q1
end
end L2

namespace L2
open PySem PySem.Spec PyProof.Rows

/-! ### a list, a tuple that is read: tracked, frozen, or an object of the module -/
def SqL (K : PySem.W.Frag) (H : Hp) (a : Addr) (xs : List V) : Prop :=
  Rd H a (.lst xs) ∨
    ∃ (o : Obj) (its : Array Value) (n : Nat), K.lookup a = some o ∧ o.cls = .type "list" ∧ o.dict = none ∧ o.data = .seq its n ∧ its.size ≤ sizeLine ∧ Vals xs its.toList
def SqT (K : PySem.W.Frag) (H : Hp) (a : Addr) (xs : List V) : Prop :=
  Rd H a (.tup xs) ∨
    ∃ (o : Obj) (its : Array Value) (n : Nat), K.lookup a = some o ∧ o.cls = .type "tuple" ∧ o.data = .seq its n ∧ its.size ≤ sizeLine ∧ Vals xs its.toList
def absV : Value → Option V
  | .none => some .non
  | .bool b => some (.bl b)
  | .int i _ => some (.int i)
  | .str x _ => some (.str x)
  | .bytes b _ => some (.byt b)
  | .float b _ => some (.flt b)
  | .ref a => some (.ref a)
  | .type n => some (.ty n)
  | _ => none
theorem RelV.abs {x : V} {u : Value} (r : RelV x u) : absV u = some x := by
  cases x with
  | non => cases r; rfl
  | bl _ => cases r; rfl
  | int _ => obtain ⟨t, rfl⟩ := r; rfl
  | str _ => obtain ⟨t, rfl⟩ := r; rfl
  | byt _ => obtain ⟨t, rfl⟩ := r; rfl
  | flt _ => obtain ⟨t, rfl⟩ := r; rfl
  | ref _ => cases r; rfl
  | ty _ => cases r; rfl
theorem RelV.inj {x y : V} {u : Value} (r : RelV x u) (q : RelV y u) : x = y := Option.some.inj (r.abs.symm.trans q.abs)
theorem Vals.inj : ∀ {xs ys : List V} {us : List Value}, Vals xs us → Vals ys us → xs = ys
  | _, _, _, .nil, .nil => rfl
  | _, _, _, .cons r t, .cons r' t' => by rw [r.inj r', Vals.inj t t']
section
variable {X : Cx} {pins : List (Addr × Obj)} {σ : St} {H : Hp} {s : Shared} {a : Addr} {xs ys : List V}
theorem SqL.of {K : PySem.W.Frag} (h : H a = some (.lst xs)) : SqL K H a xs := .inl (.inl h)
theorem SqT.of {K : PySem.W.Frag} (h : H a = some (.tup xs)) : SqT K H a xs := .inl (.inl h)
theorem Inv.list (I : Inv X pins σ H s) (h : SqL X.K H a xs) : ∃ its : List Value, Vals xs its ∧ PlainL s.heap a its.toArray ∧ xs.length ≤ sizeLine := by
  rcases h with h | ⟨o, its, n, hk, hc, hd, hs, hz, r⟩
  · obtain ⟨z, its, n, r, e⟩ := h.ok I.hok
    exact ⟨its, r, ⟨_, n, e, rfl, rfl, rfl⟩, z⟩
  · refine ⟨its.toList, r, ⟨o, n, I.kIn a o hk, hc, hd, by simpa using hs⟩, ?_⟩
    have e := r.length
    simp only [Array.length_toList] at e
    omega
theorem Inv.tuple (I : Inv X pins σ H s) (h : SqT X.K H a xs) : ∃ its : List Value, Vals xs its ∧ IsTup s.heap a its.toArray ∧ xs.length ≤ sizeLine := by
  rcases h with h | ⟨o, its, n, hk, hc, hs, hz, r⟩
  · obtain ⟨z, its, r, p⟩ := h.ok I.hok
    exact ⟨its, r, p, z⟩
  · refine ⟨its.toList, r, ⟨o, I.kIn a o hk, hc, n, by simpa using hs⟩, ?_⟩
    have e := r.length
    simp only [Array.length_toList] at e
    omega
theorem Inv.list_inj (I : Inv X pins σ H s) (h : SqL X.K H a xs) (h' : SqL X.K H a ys) : xs = ys := by
  obtain ⟨its, r, ⟨o, n, e, _, _, d⟩, _⟩ := I.list h
  obtain ⟨its', r', ⟨o', n', e', _, _, d'⟩, _⟩ := I.list h'
  rw [e] at e'; cases e'
  rw [d] at d'
  injection d' with d1 _
  have : its = its' := by simpa using congrArg Array.toList d1
  subst this
  exact r.inj r'
theorem Inv.tuple_inj (I : Inv X pins σ H s) (h : SqT X.K H a xs) (h' : SqT X.K H a ys) : xs = ys := by
  obtain ⟨its, r, ⟨o, e, _, n, d⟩, _⟩ := I.tuple h
  obtain ⟨its', r', ⟨o', e', _, n', d'⟩, _⟩ := I.tuple h'
  rw [e] at e'; cases e'
  rw [d] at d'
  injection d' with d1 _
  have : its = its' := by simpa using congrArg Array.toList d1
  subst this
  exact r.inj r'
end

/-! ### another wish about exceptions -/
abbrev Cx.wish (X : Cx) (E : Value → Shared → Prop) : Cx := { X with xe := E }
/-- no exception leaves -/
abbrev Cx.nox (X : Cx) : Cx := X.wish fun _ _ => False
theorem Cx.Ok.wish {X : Cx} (ok : X.Ok) (E : Value → Shared → Prop) : (X.wish E).Ok :=
  ⟨ok.mod, ok.kind, ok.glob, ok.blt, ok.above, ok.inj, ok.has, ok.cab, ok.hd, ok.frames, ok.stk, ok.exf, ok.bs, ok.bsz, ok.noex, ok.exfs, ok.funs, ok.frf⟩
theorem Cx.Ok.unwish {X : Cx} {E : Value → Shared → Prop} (ok : (X.wish E).Ok) : X.Ok :=
  ⟨ok.mod, ok.kind, ok.glob, ok.blt, ok.above, ok.inj, ok.has, ok.cab, ok.hd, ok.frames, ok.stk, ok.exf, ok.bs, ok.bsz, ok.noex, ok.exfs, ok.funs, ok.frf⟩
section
variable {X : Cx} {pins : List (Addr × Obj)} {σ : St} {H : Hp} {s : Shared} {E : Value → Shared → Prop}
theorem Inv.wish (I : Inv X pins σ H s) (E : Value → Shared → Prop) : Inv (X.wish E) pins σ H s := ⟨I.ok.wish E, I.os, I.bare, I.base, I.loc, I.cell, I.free, I.freeC, I.pin, I.hok, I.len⟩
theorem Inv.unwish (I : Inv (X.wish E) pins σ H s) : Inv X pins σ H s := ⟨I.ok.unwish, I.os, I.bare, I.base, I.loc, I.cell, I.free, I.freeC, I.pin, I.hok, I.len⟩
theorem SP.unwish {D : Ends} {f : Flow} {s' : Shared} (h : SP (X.wish E) pins D f s') : SP X pins D f s' := by
  cases f with
  | next => obtain ⟨σ', H', I, q⟩ := h; exact ⟨σ', H', I.unwish, q⟩
  | brk => obtain ⟨σ', H', I, q⟩ := h; exact ⟨σ', H', I.unwish, q⟩
  | cont => obtain ⟨σ', H', I, q⟩ := h; exact ⟨σ', H', I.unwish, q⟩
  | ret u => obtain ⟨v, σ', H', I, r, q⟩ := h; exact ⟨v, σ', H', I.unwish, r, q⟩
theorem PE.nox {e : Expr} {t : TE} (h : PE X.nox e t) : PE X e t := fun pins s σ H Q I hw =>
  wpAny_mono (h pins s σ H Q (I.wish _) hw) (fun _ _ ⟨v, H', I', r, q⟩ => ⟨v, H', I'.unwish, r, q⟩) fun _ _ z => False.elim z
theorem PT.nox {e : Expr} {t : TT} (h : PT X.nox e t) : PT X e t := fun pins s σ H Q I hw =>
  wpAny_mono (h pins s σ H Q (I.wish _) hw) (fun _ _ ⟨H', I', q⟩ => ⟨H', I'.unwish, q⟩) fun _ _ z => False.elim z
theorem PSs.nox {st : List Stmt} {t : TS} (h : PSs X.nox st t) : PSs X st t := fun pins s σ H D I hw =>
  wpAny_mono (h pins s σ H D (I.wish _) hw) (fun _ _ q => q.unwish) fun _ _ z => False.elim z
end

/-! ### blocks and small statements -/
section
variable {X : Cx} {st : Stmt} {rest : List Stmt} {t u : TS} {e : Expr} {te : TE} {pos : Pos}
def tNext : TS := fun D σ H => D.nx σ H
def tSeq (t u : TS) : TS := fun D σ H => t { D with nx := u D } σ H
theorem pss_nil : PSs X [] tNext := fun _ _ σ H _ I h => wpAny_execs_nil ⟨σ, H, I, h⟩
theorem pss_cons (h1 : PS X st t) (h2 : PSs X rest u) : PSs X (st :: rest) (tSeq t u) := by
  intro pins s σ H D I h
  refine wpAny_execs_cons (thn (h1 pins s σ H { D with nx := u D } I h) fun f s1 q => ?_)
  cases f with
  | next =>
    obtain ⟨σ', H', I', q⟩ := q
    exact h2 pins s1 σ' H' D I' q
  | ret v => exact q
  | brk => exact q
  | cont => exact q
theorem pss_one (h1 : PS X st t) : PSs X [st] t := by
  intro pins s σ H D I h
  refine wpAny_execs_cons (thn (h1 pins s σ H D I h) fun f s1 q => ?_)
  cases f with
  | next => exact wpAny_execs_nil q
  | ret v => exact q
  | brk => exact q
  | cont => exact q
def tBreak : TS := fun D σ H => D.bk σ H
def tCont : TS := fun D σ H => D.ct σ H
theorem ps_pass : PS X (.Pass pos) tNext := fun _ _ σ H _ I h => wpAny_Pass ⟨σ, H, I, h⟩
theorem ps_break : PS X (.Break pos) tBreak := fun _ _ σ H _ I h => wpAny_Break ⟨σ, H, I, h⟩
theorem ps_continue : PS X (.Continue pos) tCont := fun _ _ σ H _ I h => wpAny_Continue ⟨σ, H, I, h⟩
/-- in a def's body nothing is shown -/
theorem Inv.quiet {pins : List (Addr × Obj)} {σ : St} {H : Hp} {s : Shared} (I : Inv X pins σ H s) : interactive X.env = false := by simp [interactive, I.ok.kind]
/-- a docstring -/
theorem ps_doc {x j pos pos'} : PS X (.Expr (.Constant (.str x) j pos) pos') tNext := fun _ s σ H _ I h => wpAny_Expr (Calls.Constant_str (show SP X _ _ .next { s with toks := s.toks + 1 } from ⟨σ, H, I.tok _, h⟩)) I.quiet
/-- an expression whose value is dropped -/
def tDrop (te : TE) : TS := fun D σ H => te σ H fun _ H1 => D.nx σ H1
theorem ps_expr (he : PE X e te) (hs : swapsWith e none pos.line X.env = pure false := by rfl) : PS X (.Expr e pos) (tDrop te) := by
  intro pins s σ H D I h
  exact wpAny_Expr_any (thn (he pins s σ H _ I h) fun v s1 ⟨x, H1, I1, r1, q1⟩ => ⟨σ, H1, I1, q1⟩) I.quiet hs
def tRet (te : TE) : TS := fun D σ H => te σ H D.rt
theorem ps_ret (he : PE X e te) : PS X (.Return (some e) pos) (tRet te) := by
  intro pins s σ H D I h
  exact wpAny_Return_some (thn (he pins s σ H _ I h) fun v s1 ⟨x, H1, I1, r1, q1⟩ => ⟨x, σ, H1, I1, r1, q1⟩)
def tRetN : TS := fun D _ H => D.rt .non H
theorem ps_retN : PS X (.Return none pos) tRetN := fun _ _ σ H _ I h => wpAny_Return_none ⟨.non, σ, H, I, rfl, h⟩
def tIfS (c : TT) (t u : TS) : TS := fun D σ H => c σ H fun b H1 => if b = true then t D σ H1 else u D σ H1
theorem ps_if {c : Expr} {a b : List Stmt} {tc : TT} (hc : PT X c tc) (ha : PSs X a t) (hb : PSs X b u) : PS X (.If c a b pos) (tIfS tc t u) := by
  intro pins s σ H D I h
  refine wpAny_If (thn (hc pins s σ H _ I h) fun d s1 ⟨H1, I1, q1⟩ => ?_)
  cases d with
  | true => exact ha pins s1 σ H1 D I1 q1
  | false => exact hb pins s1 σ H1 D I1 q1
/-- code that the proof never comes to -/
def tNever : TS := fun _ _ _ => False
theorem ps_never : PS X st tNever := fun _ _ _ _ _ _ h => h.elim
theorem pss_never {sts : List Stmt} : PSs X sts tNever := fun _ _ _ _ _ _ h => h.elim
end

/-! ### targets -/
abbrev TG := V → St → Hp → (St → Hp → Prop) → Prop
abbrev TGs := List V → St → Hp → (St → Hp → Prop) → Prop
def PG (X : Cx) (target : Expr) (t : TG) : Prop :=
  ∀ (pins : List (Addr × Obj)) (s : Shared) (σ : St) (H : Hp) (v : V) (u : Value) (Q : St → Hp → Prop), Inv X pins σ H s → RelV v u → t v σ H Q →
    wpAny (model X.prog X.w) X.A (assign target X.env u) (fun _ s' => ∃ σ' H', Inv X pins σ' H' s' ∧ Q σ' H') X.xe s
/-- several targets, one after another -/
def PGs (X : Cx) (ts : List Expr) (t : TGs) : Prop :=
  ∀ (pins : List (Addr × Obj)) (s : Shared) (σ : St) (H : Hp) (vs : List V) (us : List Value) (Q : St → Hp → Prop), Inv X pins σ H s → Vals vs us → t vs σ H Q →
    wpAny (model X.prog X.w) X.A (assignInOrder ((assignEach ts X.env).map (·.2)) us) (fun _ s' => ∃ σ' H', Inv X pins σ' H' s' ∧ Q σ' H') X.xe s
/-- o[i] = v, by values -/
abbrev TSet := V → V → V → Hp → (Hp → Prop) → Prop
def PSet (X : Cx) (t : TSet) : Prop :=
  ∀ (pins : List (Addr × Obj)) (s : Shared) (σ : St) (H : Hp) (o i v : V) (ov iv u : Value) (Q : Hp → Prop), Inv X pins σ H s → RelV o ov → RelV i iv → RelV v u → t o i v H Q →
    wpAny (model X.prog X.w) X.A (setItem ov iv u) (fun _ s' => ∃ H', Inv X pins σ H' s' ∧ Q H') X.xe s
/-- a op= b, by values -/
abbrev TIp := V → V → Hp → VK → Prop
def PIp (X : Cx) (op : Operator) (t : TIp) : Prop :=
  ∀ (pins : List (Addr × Obj)) (s : Shared) (σ : St) (H : Hp) (x y : V) (v u : Value) (Q : VK), Inv X pins σ H s → RelV x v → RelV y u → t x y H Q →
    wpAny (model X.prog X.w) X.A (inplaceOp op v u) (EP X pins σ Q) X.xe s
section
variable {X : Cx} {pos : Pos}
def gName (i : Nat) : TG := fun v σ H Q => Q (σ.set i (some v)) H
theorem pg_name {i : Nat} {x : Str} (hN : X.N.Nodup) (hi : X.N[i]? = some x) (hx : Loc X.env.scope x) (hf : X.fn x = true ∨ X.env.scope.names.lookup x = some .local := by first | exact .inl rfl | exact .inr rfl | assumption) : PG X (.Name x pos) (gName i) := by
  intro pins s σ H v u Q I r h
  exact wpAny_assign_Name (store_ok I hN hi hx r (fun s' I' => ⟨_, H, I', h⟩) hf)
def gNil : TGs := fun vs σ H Q => vs = [] ∧ Q σ H
def gCons (t : TG) (u : TGs) : TGs := fun vs σ H Q => ∃ v r, vs = v :: r ∧ t v σ H fun σ' H' => u r σ' H' Q
theorem pgs_nil : PGs X [] gNil := by
  intro pins s σ H vs us Q I r h
  obtain ⟨e, h⟩ := h
  subst e
  cases r
  exact assignInOrder_nil ⟨σ, H, I, h⟩
theorem pgs_cons {e : Expr} {es : List Expr} {t : TG} {u : TGs} (h1 : PG X e t) (h2 : PGs X es u)
    (hs : (assignEach (e :: es) X.env).map (·.2) = assign e X.env :: (assignEach es X.env).map (·.2) := by rfl) : PGs X (e :: es) (gCons t u) := by
  intro pins s σ H vs us Q I r h
  obtain ⟨v, vr, e1, h⟩ := h
  subst e1
  cases r with
  | cons r rr =>
    rw [hs]
    refine assignInOrder_cons (thn (h1 pins s σ H _ _ _ I r h) fun _ s1 ⟨σ1, H1, I1, q1⟩ => ?_)
    exact h2 pins s1 σ1 H1 _ _ Q I1 rr q1
/-- (a, b, ..) = a tuple of that length -/
def gTup (K : PySem.W.Frag) (n : Nat) (t : TGs) : TG := fun v σ H Q => ∃ a xs, v = .ref a ∧ SqT K H a xs ∧ xs.length = n ∧ t xs σ H Q
theorem pg_tup {es : List Expr} {k : Nat} {t : TGs} {n : Nat} (hc : X.calm = true) (h : PGs X es t)
    (hn : (assignEach es X.env).length = n := by rfl) (hst : (assignEach es X.env).findIdx? (·.1) = none := by rfl) : PG X (.Tuple es k pos) (gTup X.K n t) := by
  intro pins s σ H v u Q I r hw
  obtain ⟨a, xs, e1, hq, hl, hw⟩ := hw
  subst e1
  cases r
  obtain ⟨its, rv, ht, hz⟩ := I.tuple hq
  refine assign_Tuple_tuple (I.ok.hd hc) ht (by simp [hn, ← hl, rv.length]) hst fun h' hx => ?_
  have I1 : Inv X pins σ H { s with heap := h' } := I.kept (t' := s.toks) fun b o e => hx b o (Nat.ne_of_lt (Heap.lt_size e)) e
  exact h pins _ σ H xs _ Q I1 (by simpa using rv) hw
/-- o[i] = .. -/
def gSub (to ti : TE) (t : TSet) : TG := fun v σ H Q => to σ H fun o H1 => ti σ H1 fun i H2 => t o i v H2 fun H3 => Q σ H3
theorem pg_sub {o i : Expr} {to ti : TE} {t : TSet} (ho : PE X o to) (hi : PE X i ti) (hs : PSet X t)
    (ha : ∀ v, assign (.Subscript o i pos) X.env v = (do
      let ov ← holding [v] (eval o X.env)
      let iv ← holding [v, ov] (eval i X.env)
      standAt pos
      holding [v, ov, iv] (setItem ov iv v)
      release [v, ov, iv] []) := by intro _; rfl) : PG X (.Subscript o i pos) (gSub to ti t) := by
  intro pins s σ H v u Q I r h
  rw [ha]
  refine wpAny_bind (wpAny_holding (thn (ho pins s σ H _ I h) fun ov s1 ⟨x, H1, I1, r1, q1⟩ => ?_))
  refine wpAny_bind (wpAny_holding (thn (hi pins s1 σ H1 _ I1 q1) fun iv s2 ⟨y, H2, I2, r2, q2⟩ => ?_))
  refine wpAny_bind (wpAny_standAt (wpAny_bind (wpAny_holding (thn (hs pins s2 σ H2 x y v ov iv u _ I2 r1 r2 r q2) fun _ s3 ⟨H3, I3, q3⟩ => ?_))))
  exact wpAny_release ⟨σ, H3, I3, q3⟩
/-- target = value -/
def tAsg (te : TE) (g : TG) : TS := fun D σ H => te σ H fun x H1 => g x σ H1 D.nx
theorem ps_asg {tg e : Expr} {te : TE} {g : TG} (he : PE X e te) (hg : PG X tg g) (hs : swapsWithSole [tg] e pos.line X.env = pure false := by rfl) (hw : swappedStores [tg] e X.env = pure none := by rfl)
    (h1 : (assignEach [tg] X.env).map (·.2) = [assign tg X.env] := by rfl) : PS X (.Assign [tg] e pos) (tAsg te g) := by
  intro pins s σ H D I h
  refine wpAny_Assign_stores (thn (he pins s σ H _ I h) fun v s1 ⟨x, H1, I1, r1, q1⟩ => ?_) hs hw
  rw [h1]
  exact thn (hg pins s1 σ H1 x v _ I1 r1 q1) fun _ s2 q => q
/-- name = value -/
theorem ps_set {i : Nat} {x : Str} {e : Expr} {te : TE} {pos' : Pos} (hN : X.N.Nodup) (hi : X.N[i]? = some x) (hx : Loc X.env.scope x) (he : PE X e te) (hs : swapsWith e (some (.Name x pos')) pos.line X.env = pure false := by rfl) (hf : X.fn x = true ∨ X.env.scope.names.lookup x = some .local := by first | exact .inl rfl | exact .inr rfl | assumption) :
    PS X (.Assign [.Name x pos'] e pos) (tAsg te (gName i)) := by
  intro pins s σ H D I h
  refine wpAny_Assign_Name (thn (he pins s σ H _ I h) fun v s1 ⟨y, H1, I1, r1, q1⟩ => ?_) hs
  exact store_ok I1 hN hi hx r1 (fun s2 I2 => ⟨_, H1, I2, q1⟩) hf
/-- a, b = x, y with plain local names: stored from the right; the pair itself is not tracked (the opening rows as in PyProof/Rows/TupAssign.lean:23) -/
def tPar (i j : Nat) (ta : TA) : TS := fun D σ H => ta σ H fun vs H1 => ∃ v w, vs = [v, w] ∧ D.nx ((σ.set i (some v)).set j (some w)) H1
theorem ps_par {i j : Nat} {x y : Str} {a b : Expr} {ta : TA} {px py pt : Pos} {kt k2 pt2} (hc : X.calm = true) (hN : X.N.Nodup) (hi : X.N[i]? = some x) (hj : X.N[j]? = some y) (hij : i ≠ j)
    (hx : X.env.scope.names.lookup x = some .local) (hy : X.env.scope.names.lookup y = some .local) (ha : PA X [a, b] ta)
    (hw : swappedStores [.Tuple [.Name x px, .Name y py] kt pt] (.Tuple [a, b] k2 pt2) X.env = pure (some [x, y]))
    (hs : swapsWithSole [.Tuple [.Name x px, .Name y py] kt pt] (.Tuple [a, b] k2 pt2) pos.line X.env = pure false := by rfl) :
    PS X (.Assign [.Tuple [.Name x px, .Name y py] kt pt] (.Tuple [a, b] k2 pt2) pos) (tPar i j ta) := by
  intro pins s σ H D I h
  rw [exec_Assign_arm]
  refine wpAny_bind (wpAny_standAt ?_)
  rw [hs]
  refine wpAny_bind (wpAny_pure ?_)
  rw [if_neg (by decide)]
  refine wpAny_bind (Tuple_ (thn (ha _ pins s σ H _ I h) fun us s1 ⟨vs, H1, I1, r1, q1⟩ => ?_))
  obtain ⟨v, w, e1, q1⟩ := q1
  subst e1
  obtain ⟨u1, u2, rfl, rv, rw'⟩ : ∃ u1 u2, us = [u1, u2] ∧ RelV v u1 ∧ RelV w u2 := by
    cases r1 with
    | cons p q =>
      cases q with
      | cons p' q' =>
        cases q'
        exact ⟨_, _, rfl, p, p'⟩
  refine wpAny_newObj_type ?_ (by show 2 ≤ sizeLine; decide)
  have I2 : Inv X pins σ H1 { s1 with heap := s1.heap.push { cls := .type "tuple", data := .seq [u1, u2].toArray } } := I1.kept (t' := s1.toks) fun b o e => Heap.get?_push_of_some _ e
  rw [hw]
  refine wpAny_bind (wpAny_pure ?_)
  show wpAny (model X.prog X.w) X.A (do rule "assign.swapped-stores"; let items ← unpackItems (.ref s1.heap.objs.size) 2 none; assignInOrder [fun v => bindName X.env y v, fun v => bindName X.env x v] items.reverse; pure Flow.next) _ _ _
  refine wpAny_bind (wpAny_rule (wpAny_bind (unpackItems_tuple (items := #[u1, u2]) (I.ok.hd hc) (IsTup.new s1.heap _) fun h' hx' => ?_)))
  have I3 := I2.kept (h' := h') (t' := s1.toks) fun b o e => hx' b o (Nat.ne_of_lt (Heap.lt_size e)) e
  show wpAny _ _ (assignInOrder [fun v => bindName X.env y v, fun v => bindName X.env x v] [u2, u1] >>= fun _ => pure Flow.next) _ _ _
  refine wpAny_bind (assignInOrder_cons (wpAny_bindName (store_ok I3 hN hj (.inl hy) rw' (fun s2 I4 => ?_) (.inr hy))))
  refine assignInOrder_cons (wpAny_bindName (store_ok I4 hN hi (.inl hx) rv (fun s3 I5 => assignInOrder_nil (wpAny_pure ?_)) (.inr hx)))
  rw [List.set_comm _ _ (Ne.symm hij)] at I5
  exact ⟨_, H1, I5, q1⟩
/-- name op= e -/
def tAug (i : Nat) (te : TE) (ti : TIp) : TS := fun D σ H => ∃ x, σ[i]? = some (some x) ∧ te σ H fun y H1 => ti x y H1 fun z H2 => D.nx (σ.set i (some z)) H2
theorem ps_aug {i : Nat} {x : Str} {e : Expr} {te : TE} {op : Operator} {ti : TIp} {pos' : Pos} (hN : X.N.Nodup) (hi : X.N[i]? = some x) (hx : Loc X.env.scope x) (he : PE X e te) (ho : PIp X op ti) (hf : X.fn x = true ∨ X.env.scope.names.lookup x = some .local := by first | exact .inl rfl | exact .inr rfl | assumption) :
    PS X (.AugAssign (.Name x pos') op e pos) (tAug i te ti) := by
  intro pins s σ H D I h
  obtain ⟨v, e1, h⟩ := h
  obtain ⟨m, hn, hl⟩ := I.loc
  have vis : Vis X.env.scope x := by rcases hx with k | k; exact .inl k; exact .inr (.inl k)
  obtain ⟨u, r, l⟩ := hl i x v hi e1 vis
  refine wpAny_AugAssign_Name ?_
  have go : wpAny (model X.prog X.w) X.A (eval e X.env) (fun w s₂ => wpAny (model X.prog X.w) X.A (inplaceOp op u w) (fun r s₃ => wpAny (model X.prog X.w) X.A (storeName X.env x r) (fun _ => SP X pins D .next) X.xe s₃) X.xe s₂) X.xe s := by
    refine thn (he pins s σ H _ I h) fun w s1 ⟨y, H1, I1, r1, q1⟩ => ?_
    refine thn (ho pins s1 σ H1 v y u w _ I1 r r1 q1) fun z s2 ⟨zv, H2, I2, r2, q2⟩ => ?_
    exact store_ok I2 hN hi hx r2 (fun s3 I3 => ⟨_, H2, I3, q2⟩) hf
  rcases l with ⟨hk, hm⟩ | ⟨hk, c, hc, hcell⟩
  · exact wpAny_loadName_local I.ok.kind hk hn hm go
  · rcases hk with hk | hk
    · exact wpAny_loadName_cell I.ok.kind hk hc hcell go
    · rcases hx with k | k
      · have : X.env.scope.names.lookup x = some .free := hk
        rw [k] at this; cases this
      · have : X.env.scope.names.lookup x = some .free := hk
        rw [k] at this; cases this
/-- o[i] op= e -/
def tAugS (to ti te : TE) (tget : V → V → Hp → VK → Prop) (tip : TIp) (tset : TSet) : TS := fun D σ H => to σ H fun o H1 => ti σ H1 fun i H2 => tget o i H2 fun x H3 => te σ H3 fun y H4 => tip x y H4 fun z H5 => tset o i z H5 fun H6 => D.nx σ H6
/-- o[i], by values -/
def PGet (X : Cx) (t : V → V → Hp → VK → Prop) : Prop :=
  ∀ (pins : List (Addr × Obj)) (s : Shared) (σ : St) (H : Hp) (o i : V) (ov iv : Value) (Q : VK), Inv X pins σ H s → RelV o ov → RelV i iv → t o i H Q →
    wpAny (model X.prog X.w) X.A (getItem ov iv) (EP X pins σ Q) X.xe s
theorem ps_augS {o i e : Expr} {to ti te : TE} {tget : V → V → Hp → VK → Prop} {tip : TIp} {tset : TSet} {op : Operator} {tpos : Pos} (ho : PE X o to) (hi : PE X i ti) (hg : PGet X tget) (he : PE X e te) (hp : PIp X op tip) (hs : PSet X tset)
    (ha : ∀ ov iv new, augStore i ov iv new = (do holding [new, ov, iv] (setItem ov iv new); release [new, ov, iv] []; pure .next) := by intros; rfl) : PS X (.AugAssign (.Subscript o i tpos) op e pos) (tAugS to ti te tget tip tset) := by
  intro pins s σ H D I h
  refine wpAny_AugAssign_SubscriptAny (thn (ho pins s σ H _ I h) fun ov s1 ⟨x1, H1, I1, r1, q1⟩ => ?_) ha
  refine thn (hi pins s1 σ H1 _ I1 q1) fun iv s2 ⟨x2, H2, I2, r2, q2⟩ => ?_
  refine thn (hg pins s2 σ H2 x1 x2 ov iv _ I2 r1 r2 q2) fun old s3 ⟨x3, H3, I3, r3, q3⟩ => ?_
  refine thn (he pins s3 σ H3 _ I3 q3) fun v s4 ⟨x4, H4, I4, r4, q4⟩ => ?_
  refine thn (hp pins s4 σ H4 x3 x4 old v _ I4 r3 r4 q4) fun new s5 ⟨x5, H5, I5, r5, q5⟩ => ?_
  exact thn (hs pins s5 σ H5 x1 x2 x5 ov iv new _ I5 r1 r2 r5 q5) fun _ s6 ⟨H6, I6, q6⟩ => ⟨σ, H6, I6, q6⟩
/-- ints -/
def ipI (f : Int → Int → Int) : TIp := fun x y H Q => ∃ i j, x = .int i ∧ y = .int j ∧ Q (.int (f i j)) H
theorem ip_add : PIp X .Add (ipI fun i j => i + j) := by
  intro pins s σ H x y v u Q I r1 r2 h
  obtain ⟨i, j, e1, e2, q⟩ := h
  subst e1; subst e2
  obtain ⟨t, rfl⟩ := r1
  obtain ⟨t', rfl⟩ := r2
  exact iadd_int ⟨.int _, H, I.tok _, ⟨_, rfl⟩, q⟩
theorem ip_sub : PIp X .Sub (ipI fun i j => i - j) := by
  intro pins s σ H x y v u Q I r1 r2 h
  obtain ⟨i, j, e1, e2, q⟩ := h
  subst e1; subst e2
  obtain ⟨t, rfl⟩ := r1
  obtain ⟨t', rfl⟩ := r2
  exact isub_int ⟨.int _, H, I.tok _, ⟨_, rfl⟩, q⟩
end

/-! ### while -/
section
variable {X : Cx} {pos : Pos}
/-- the invariant W with its measure -/
def tWhile (c : TT) (tb : TS) : TS := fun D σ H => ∃ W : Nat → St → Hp → Prop, (∃ m, W m σ H) ∧ ∀ m σ H, W m σ H →
  c σ H fun b H1 => if b = true then ∃ N : St → Hp → Prop, (∀ σ' H', N σ' H' → ∃ m', m' < m ∧ W m' σ' H') ∧ tb { D with nx := N, ct := N, bk := D.nx } σ H1 else D.nx σ H1
theorem ps_while {c : Expr} {body : List Stmt} {tc : TT} {tb : TS} (hp : PassesOwn (model X.prog X.w) X.A X.env X.xe) (hc : PT X c tc) (hb : PSs X body tb) : PS X (.While c body [] pos) (tWhile tc tb) := by
  intro pins s σ H D I h
  obtain ⟨W, ⟨m0, w0⟩, turn⟩ := h
  refine wpAny_While (codeAny_whileLoop (fun n s' => ∃ σ' H', Inv X pins σ' H' s' ∧ W n σ' H') ?_ m0 ⟨σ, H, I, w0⟩)
  rintro n s1 ⟨σ1, H1, I1, w1⟩
  refine wpAny_passesOwn hp (thn (hc pins s1 σ1 H1 _ I1 (turn n σ1 H1 w1)) fun b s2 ⟨H2, I2, q2⟩ => ?_)
  cases b with
  | true =>
    obtain ⟨N, hN, q2⟩ := q2
    rw [if_pos rfl]
    refine wpAny_passesOwn hp (thn (hb pins s2 σ1 H2 _ I2 q2) fun f s3 q3 => ?_)
    cases f with
    | next =>
      obtain ⟨σ3, H3, I3, n3⟩ := q3
      obtain ⟨m', hm, w3⟩ := hN σ3 H3 n3
      exact ⟨m', hm, σ3, H3, I3, w3⟩
    | cont =>
      obtain ⟨σ3, H3, I3, n3⟩ := q3
      obtain ⟨m', hm, w3⟩ := hN σ3 H3 n3
      exact ⟨m', hm, σ3, H3, I3, w3⟩
    | brk => exact q3
    | ret v => exact q3
  | false =>
    rw [if_neg Bool.false_ne_true]
    exact wpAny_execs_nil ⟨σ1, H2, I2, q2⟩
end

/-! ### what a loop or a comprehension walks -/
/-- at turn i: it yields x (the heap may grow), or it stops -/
structure It where
  go : Nat → Hp → Prop
  yld : Nat → Hp → V → Hp → Prop
  stop : Nat → Hp → Prop
/-- the iterator's own objects may turn: they are not the frame's, not pinned, younger than the entry (or a comprehension's own) -/
def FpOk (X : Cx) (pins : List (Addr × Obj)) (H : Hp) (b : Addr) : Prop :=
  H b = none ∧ b ≠ X.env.locals ∧ b ∉ X.fs ∧ (b ∈ X.ex ∨ X.s₀.heap.objs.size ≤ b) ∧ (∀ x c, X.env.cells.lookup x = some c → c ≠ b) ∧ ∀ p ∈ X.pn ++ pins, p.1 ≠ b
theorem Inv.fpOk {X : Cx} {pins : List (Addr × Obj)} {σ : St} {H H' : Hp} {s : Shared} {b : Addr} (I : Inv X pins σ H s) (hb : s.heap.objs.size ≤ b) (hn : H' b = none) : FpOk X pins H' b := by
  refine ⟨hn, Nat.ne_of_gt (Nat.lt_of_lt_of_le I.lt hb), I.nofs hb, .inr (Nat.le_trans I.sz hb), fun x c e z => ?_, fun p hp z => ?_⟩
  · obtain ⟨v, q⟩ := I.cell x c e
    exact absurd (Nat.lt_of_lt_of_le q.lt (by rw [z]; exact hb)) (Nat.lt_irrefl _)
  · exact absurd (Nat.lt_of_lt_of_le (Heap.lt_size (I.pin p hp).1) (by rw [z]; exact hb)) (Nat.lt_irrefl _)
structure Turn (P : Program) (w : World) (K : PySem.W.Frag) (tg : Expr) (J : It) (fp : List Addr) (it : Addr) (tn : Nat → Heap → Prop) : Prop where
  mem : it ∈ fp
  obj : ∀ i h, tn i h → ∀ b ∈ fp, ∃ o, h.get? b = some o ∧ ∀ v, o.data ≠ .cell v
  keep : ∀ i h h', tn i h → (∀ b ∈ fp, ∀ o, h.get? b = some o → h'.get? b = some o) → tn i h'
  item : ∀ (X : Cx), X.prog = P → X.w = w → X.K = K → X.calm = true → ∀ (i : Nat) (pins : List (Addr × Obj)) (s : Shared) (σ : St) (H : Hp) (E : Value → Shared → Prop), Inv X pins σ H s → (∀ b ∈ fp, FpOk X pins H b) → tn i s.heap → J.go i H →
    wpAny (model P w) X.A (pyNext (.ref it)) (fun r s1 => ∃ u, r = some u ∧
      wpAny (model P w) X.A (letOwnedTupleGo tg (.ref it) u) (fun _ s2 => ∃ x H', Inv X pins σ H' s2 ∧ RelV x u ∧ J.yld i H x H' ∧ tn (i + 1) s2.heap ∧ ∀ b ∈ fp, H' b = none) E s1) E s
  done : ∀ (X : Cx), X.prog = P → X.w = w → X.K = K → X.calm = true → ∀ (i : Nat) (pins : List (Addr × Obj)) (s : Shared) (σ : St) (H : Hp) (E : Value → Shared → Prop), Inv X pins σ H s → (∀ b ∈ fp, FpOk X pins H b) → tn i s.heap → J.stop i H →
    wpAny (model P w) X.A (pyNext (.ref it)) (fun r s1 => r = none ∧ Inv X pins σ H s1) E s
  self : ∀ (A : Around) (i : Nat) (s : Shared) (Q : Value → Shared → Prop) (E : Value → Shared → Prop), tn i s.heap → Q (.ref it) s → wpAny (model P w) A (pyIter (.ref it)) Q E s
abbrev TI := St → Hp → (It → Hp → Prop) → Prop
/-- an iterator has come -/
def PIE (X : Cx) (pins : List (Addr × Obj)) (σ : St) (tg : Expr) (R : It → Hp → Prop) (itv : Value) (s2 : Shared) : Prop :=
  ∃ (it : Addr) (fp : List Addr) (tn : Nat → Heap → Prop) (J : It) (H' : Hp), itv = .ref it ∧ Inv X pins σ H' s2 ∧ Turn X.prog X.w X.K tg J fp it tn ∧ tn 0 s2.heap ∧ (∀ b ∈ fp, FpOk X pins H' b) ∧ R J H'
def PI (X : Cx) (tg iter : Expr) (wi : TI) : Prop :=
  ∀ (pins : List (Addr × Obj)) (s : Shared) (σ : St) (H : Hp) (R : It → Hp → Prop), Inv X pins σ H s → wi σ H R →
    wpAny (model X.prog X.w) X.A (eval iter X.env) (fun v s1 => wpAny (model X.prog X.w) X.A (pyIter v) (PIE X pins σ tg R) X.xe s1) X.xe s

/-- the step ahead of the store is nothing for an iterator that keeps no tuple -/
theorem go_of {M : Model} {A : Around} {E : Value → Shared → Prop} {s : Shared} {tg : Expr} {it : Addr} {u : Value} {o : Obj} {n : String} {vs : Array Value} {Q : Unit → Shared → Prop} (ho : s.heap.get? it = some o) (hc : o.cls = .type n) (hd : o.data = .fields vs)
    (hn : ["enumerate", "zip", "dict_itemiterator", "dict_reverseitemiterator", "odict_iterator", "itertools.zip_longest", "itertools.pairwise"].contains n = false) (hQ : Q () s) : wpAny M A (letOwnedTupleGo tg (.ref it) u) Q E s := by
  unfold letOwnedTupleGo
  cases tg <;> first
    | exact wpAny_pure hQ
    | (cases u <;> first
        | exact wpAny_pure hQ
        | (refine wpAny_bind (wpAny_load ho ?_)
           rw [hc, hd]
           show wpAny M A (if (["enumerate", "zip", "dict_itemiterator", "dict_reverseitemiterator", "odict_iterator", "itertools.zip_longest", "itertools.pairwise"].contains n && vs[0]? == some (rawInt _)) = true then _ else _) Q E s
           rw [if_neg (by intro h; rw [hn, Bool.false_and] at h; cases h)]
           exact wpAny_pure hQ))

/-- the list at a, as it stands at each turn (a loop may append to it) -/
def Itl (K : PySem.W.Frag) (a : Addr) : It :=
  ⟨fun i H => ∃ xs x, SqL K H a xs ∧ xs[i]? = some x, fun i H x H' => H' = H ∧ ∀ xs, SqL K H a xs → xs[i]? = some x, fun i H => ∃ xs, SqL K H a xs ∧ xs.length ≤ i⟩
def Itt (K : PySem.W.Frag) (a : Addr) : It :=
  ⟨fun i H => ∃ xs x, SqT K H a xs ∧ xs[i]? = some x, fun i H x H' => H' = H ∧ ∀ xs, SqT K H a xs → xs[i]? = some x, fun i H => ∃ xs, SqT K H a xs ∧ xs.length ≤ i⟩
/-- lo, lo + 1, .. (n of them) -/
def Itr (lo : Int) (n : Nat) : It := ⟨fun i _ => i < n, fun i H x H' => H' = H ∧ x = .int (lo + i), fun i _ => n ≤ i⟩
theorem turn_list {P : Program} {w : World} {K : PySem.W.Frag} {tg : Expr} (a it : Addr) : Turn P w K tg (Itl K a) [it] it (fun i h => h.IsListIter it a i) where
  mem := by simp
  obj := fun i h st b hb => by
    have e : b = it := by simpa using hb
    subst e
    obtain ⟨o, e, c, d⟩ := st
    exact ⟨o, e, fun v z => by rw [d] at z; cases z⟩
  keep := fun i h h' st k => st.at fun o e => k it (by simp) o e
  item := by
    intro X hP hw hK hc i pins s σ H E I hf st hg
    subst hP hw hK
    obtain ⟨xs, x, hq, hx⟩ := hg
    obtain ⟨its, rv, p, hz⟩ := I.list hq
    obtain ⟨u, hu, ru⟩ := rv.get hx
    obtain ⟨f0, f1, f2, f3, f4, f5⟩ := hf it (by simp)
    refine wpAny_pyNext_list_item st p.isList (x := u) (by simpa using hu) fun h' st' sb => ?_
    have I1 : Inv X pins σ H { s with heap := h' } := I.turned (t' := s.toks) (fun b o hb e => (sb.2 b hb).trans e) f0 f1 f3 f4 f5
    obtain ⟨o, e, c, d⟩ := id st'
    exact ⟨u, rfl, go_of (s := { s with heap := h' }) e c d (by decide) ⟨x, H, I1, ru, ⟨rfl, fun ys hy => by rw [I.list_inj hy hq]; exact hx⟩, st', fun b hb => (hf b hb).1⟩⟩
  done := by
    intro X hP hw hK hc i pins s σ H E I hf st hg
    subst hP hw hK
    obtain ⟨xs, hq, hx⟩ := hg
    obtain ⟨its, rv, p, hz⟩ := I.list hq
    obtain ⟨f0, f1, f2, f3, f4, f5⟩ := hf it (by simp)
    have hl := rv.length
    exact wpAny_pyNext_list_end (I.ok.hd hc) st p.isList (by simp; omega) fun h' eb => ⟨rfl, I.turned (t' := s.toks) (fun b o hb e => eb b o hb e) f0 f1 f3 f4 f5⟩
  self := fun _ _ _ _ _ st h => wpAny_pyIter_listiter st h
theorem turn_tuple {P : Program} {w : World} {K : PySem.W.Frag} {tg : Expr} (a it : Addr) : Turn P w K tg (Itt K a) [it] it (fun i h => h.IsTupleIter it a i) where
  mem := by simp
  obj := fun i h st b hb => by
    have e : b = it := by simpa using hb
    subst e
    obtain ⟨o, e, c, d⟩ := st
    exact ⟨o, e, fun v z => by rw [d] at z; cases z⟩
  keep := fun i h h' st k => st.at fun o e => k it (by simp) o e
  item := by
    intro X hP hw hK hc i pins s σ H E I hf st hg
    subst hP hw hK
    obtain ⟨xs, x, hq, hx⟩ := hg
    obtain ⟨its, rv, p, hz⟩ := I.tuple hq
    obtain ⟨u, hu, ru⟩ := rv.get hx
    obtain ⟨f0, f1, f2, f3, f4, f5⟩ := hf it (by simp)
    refine wpAny_pyNext_tuple_item st (show s.heap.IsTuple a its.toArray from p) (x := u) (by simpa using hu) fun h' st' sb => ?_
    have I1 : Inv X pins σ H { s with heap := h' } := I.turned (t' := s.toks) (fun b o hb e => (sb.2 b hb).trans e) f0 f1 f3 f4 f5
    obtain ⟨o, e, c, d⟩ := id st'
    exact ⟨u, rfl, go_of (s := { s with heap := h' }) e c d (by decide) ⟨x, H, I1, ru, ⟨rfl, fun ys hy => by rw [I.tuple_inj hy hq]; exact hx⟩, st', fun b hb => (hf b hb).1⟩⟩
  done := by
    intro X hP hw hK hc i pins s σ H E I hf st hg
    subst hP hw hK
    obtain ⟨xs, hq, hx⟩ := hg
    obtain ⟨its, rv, p, hz⟩ := I.tuple hq
    obtain ⟨f0, f1, f2, f3, f4, f5⟩ := hf it (by simp)
    have hl := rv.length
    exact wpAny_pyNext_tuple_end (I.ok.hd hc) st (show s.heap.IsTuple a its.toArray from p) (by simp; omega) fun h' eb => ⟨rfl, I.turned (t' := s.toks) (fun b o hb e => eb b o hb e) f0 f1 f3 f4 f5⟩
  self := fun _ _ _ _ _ st h => wpAny_pyIter_tupleiter st h
theorem turn_range {P : Program} {w : World} {K : PySem.W.Frag} {tg : Expr} (it : Addr) (lo : Int) (n : Nat) : Turn P w K tg (Itr lo n) [it] it (fun i h => IsRangeIter h it (lo + (i : Nat) * 1) ((n : Int) - (i : Nat)) 1) where
  mem := by simp
  obj := fun i h st b hb => by
    have e : b = it := by simpa using hb
    subst e
    exact ⟨_, st, fun v z => by
      have z' : Data.fields _ = Data.cell v := z
      cases z'⟩
  keep := fun i h h' st k => k it (by simp) _ st
  item := by
    intro X hP hw hK hc i pins s σ H E I hf st hg
    subst hP hw hK
    obtain ⟨f0, f1, f2, f3, f4, f5⟩ := hf it (by simp)
    have W := Walks.range (prog := X.prog) (w := X.w) (I.ok.hd hc) it lo 1 n
    refine W.item i s _ _ hg st fun v h' tk hv st' kk => ?_
    obtain ⟨t, rfl⟩ := hv
    have I1 : Inv X pins σ H { s with heap := h', toks := tk } := I.turned (fun b o hb e => kk b o (by simpa using hb) e) f0 f1 f3 f4 f5
    refine ⟨_, rfl, go_of (s := { s with heap := h', toks := tk }) (n := "range_iterator") st' rfl rfl (by decide) ⟨.int (lo + i), H, I1, ⟨t, ?_⟩, ⟨rfl, rfl⟩, st', fun b hb => (hf b hb).1⟩⟩
    rw [Int.mul_one]
  done := by
    intro X hP hw hK hc i pins s σ H E I hf st hg
    subst hP hw hK
    obtain ⟨f0, f1, f2, f3, f4, f5⟩ := hf it (by simp)
    exact wpAny_pyNext_range_end (I.ok.hd hc) st (by have : n ≤ i := hg; omega) fun h' eb => ⟨rfl, I.turned (t' := s.toks) (fun b o hb e => eb b o hb e) f0 f1 f3 f4 f5⟩
  self := fun _ _ _ _ _ st h => wpAny_pyIter_rangeiter st h
end L2

namespace L2
open PySem PySem.Spec PyProof.Rows
section
variable {X : Cx} {tg : Expr}
def iList (K : PySem.W.Frag) (tl : TE) : TI := fun σ H R => tl σ H fun x H1 => ∃ a, x = .ref a ∧ (∃ xs, SqL K H1 a xs) ∧ R (Itl K a) H1
def iTup (K : PySem.W.Frag) (tl : TE) : TI := fun σ H R => tl σ H fun x H1 => ∃ a, x = .ref a ∧ (∃ xs, SqT K H1 a xs) ∧ R (Itt K a) H1
theorem pi_list {l : Expr} {tl : TE} (hl : PE X l tl) : PI X tg l (iList X.K tl) := by
  intro pins s σ H R I h
  refine thn (hl pins s σ H _ I h) fun v s1 ⟨x, H1, I1, r1, q1⟩ => ?_
  obtain ⟨a, e, ⟨xs, hq⟩, q⟩ := q1
  subst e
  cases r1
  obtain ⟨its, rv, p, hz⟩ := I1.list hq
  refine wpAny_pyIter_list p.isList ?_
  refine ⟨s1.heap.objs.size, [s1.heap.objs.size], _, _, H1, rfl, I1.kept (t' := s1.toks) fun b o e => Heap.get?_push_of_some _ e, turn_list a _, ⟨_, Heap.get?_push_size _ rfl, rfl, rfl⟩, fun b hb => ?_, q⟩
  have e : b = s1.heap.objs.size := by simpa using hb
  subst e
  exact I1.fpOk (Nat.le_refl _) (I1.hok.fresh (Nat.le_refl _))
theorem pi_tup {l : Expr} {tl : TE} (hl : PE X l tl) : PI X tg l (iTup X.K tl) := by
  intro pins s σ H R I h
  refine thn (hl pins s σ H _ I h) fun v s1 ⟨x, H1, I1, r1, q1⟩ => ?_
  obtain ⟨a, e, ⟨xs, hq⟩, q⟩ := q1
  subst e
  cases r1
  obtain ⟨its, rv, p, hz⟩ := I1.tuple hq
  refine wpAny_pyIter_tuple (show s1.heap.IsTuple a its.toArray from p) ?_
  refine ⟨s1.heap.objs.size, [s1.heap.objs.size], _, _, H1, rfl, I1.kept (t' := s1.toks) fun b o e => Heap.get?_push_of_some _ e, turn_tuple a _, ⟨_, Heap.get?_push_size _ rfl, rfl, rfl⟩, fun b hb => ?_, q⟩
  have e : b = s1.heap.objs.size := by simpa using hb
  subst e
  exact I1.fpOk (Nat.le_refl _) (I1.hok.fresh (Nat.le_refl _))
/-- a range object just made, walked -/
theorem range_it {pins : List (Addr × Obj)} {σ : St} {H : Hp} {s : Shared} {R : It → Hp → Prop} {E : Value → Shared → Prop} {lo hi : Int} {t u v : Tok} {tk : Nat} (I : Inv X pins σ H s) (h1 : -(2 ^ 62) ≤ lo) (h2 : lo < 2 ^ 62) (h3 : -(2 ^ 62) ≤ hi) (h4 : hi < 2 ^ 62)
    (q : R (Itr lo (hi - lo).toNat) H) : wpAny (model X.prog X.w) X.A (pyIter (.ref s.heap.objs.size)) (PIE X pins σ tg R) E { s with heap := s.heap.push { cls := .type "range", data := .fields #[.int lo t, .int hi u, .int 1 v] }, toks := tk } := by
  refine wpAny_pyIter_range (IsRange.new ..) (small_one h1 h2 h3 h4) ?_
  have I1 : Inv X pins σ H { s with heap := s.heap.push { cls := .type "range", data := .fields #[.int lo t, .int hi u, .int 1 v] }, toks := tk } := I.kept fun b o e => Heap.get?_push_of_some _ e
  refine ⟨(s.heap.push { cls := .type "range", data := .fields #[.int lo t, .int hi u, .int 1 v] }).objs.size, [(s.heap.push { cls := .type "range", data := .fields #[.int lo t, .int hi u, .int 1 v] }).objs.size], _, _, H, rfl,
    I1.kept (t' := tk) fun b o e => Heap.get?_push_of_some _ e, turn_range _ lo (hi - lo).toNat, ?_, fun b hb => ?_, q⟩
  · have e1 : lo + ((0 : Nat) : Int) * 1 = lo := by simp
    have e2 : (((hi - lo).toNat : Nat) : Int) - ((0 : Nat) : Int) = Builtin.Range.rangeSize lo hi 1 := by rw [rangeSize_one]; split <;> omega
    show IsRangeIter _ _ (lo + ((0 : Nat) : Int) * 1) ((((hi - lo).toNat : Nat) : Int) - ((0 : Nat) : Int)) 1
    rw [e1, e2]
    exact Heap.get?_push_size _ rfl
  · have e : b = (s.heap.push { cls := .type "range", data := .fields #[.int lo t, .int hi u, .int 1 v] }).objs.size := by simpa using hb
    subst e
    exact I1.fpOk (Nat.le_refl _) (I1.hok.fresh (Nat.le_refl _))
def iRng1 (ta : TA) : TI := fun σ H R => ta σ H fun vs H1 => ∃ j : Int, vs = [.int j] ∧ -(2 ^ 62) ≤ j ∧ j < 2 ^ 62 ∧ R (Itr 0 j.toNat) H1
def iRng2 (ta : TA) : TI := fun σ H R => ta σ H fun vs H1 => ∃ i j : Int, vs = [.int i, .int j] ∧ (-(2 ^ 62) ≤ i ∧ i < 2 ^ 62 ∧ -(2 ^ 62) ≤ j ∧ j < 2 ^ 62) ∧ R (Itr i (j - i).toNat) H1
theorem pi_range1 {a : Expr} {ta : TA} {p pos : Pos} (hg : Gl X "range") (hm : X.mg "range" = none) (ha : PA X [a] ta) (hs : starEach [a] X.env = [(false, eval a X.env)] := by rfl) : PI X tg (.Call (.Name "range" p) [a] [] pos) (iRng1 ta) := by
  intro pins s σ H R I h
  refine Call_ (ld_blt I hg hm boot_range (PyProof.Rows.callWith_type1 (thn (ha pos pins s σ H _ I h) fun us s1 ⟨vs, H1, I1, r1, q1⟩ => ?_) hs rfl))
  obtain ⟨j, e, q1, q2, q⟩ := q1
  subst e
  cases r1 with
  | cons r rr =>
    cases rr
    obtain ⟨t, rfl⟩ := r
    exact call_range_1 (range_it I1 (by omega) (by omega) q1 q2 (by simpa using q))
theorem pi_range2 {a b : Expr} {ta : TA} {p pos : Pos} (hg : Gl X "range") (hm : X.mg "range" = none) (ha : PA X [a, b] ta) (hs : starEach [a, b] X.env = [(false, eval a X.env), (false, eval b X.env)] := by rfl) (hs2 : starEach [b] X.env = [(false, eval b X.env)] := by rfl) :
    PI X tg (.Call (.Name "range" p) [a, b] [] pos) (iRng2 ta) := by
  intro pins s σ H R I h
  refine Call_ (ld_blt I hg hm boot_range (PyProof.Rows.callWith_type1 (thn (ha pos pins s σ H _ I h) fun us s1 ⟨vs, H1, I1, r1, q1⟩ => ?_) (by rw [hs, hs2]) (by rw [hs2]; rfl)))
  obtain ⟨i, j, e, ⟨q1, q2, q3, q4⟩, q⟩ := q1
  subst e
  cases r1 with
  | cons r rr =>
    cases rr with
    | cons r' rr =>
      cases rr
      obtain ⟨t, rfl⟩ := r
      obtain ⟨t', rfl⟩ := r'
      exact call_range_2 (range_it I1 q1 q2 q3 q4 q)

/-! ### for -/
/-- W: the invariant by the turn and a measure; N: what the body is to reach -/
def tFor (wi : TI) (g : TG) (tb : TS) : TS := fun D σ H => wi σ H fun J H1 => ∃ W : Nat → Nat → St → Hp → Prop, (∃ m, W 0 m σ H1) ∧ ∀ i m σ H, W i m σ H →
  (J.stop i H ∧ D.nx σ H) ∨ (J.go i H ∧ ∃ N : St → Hp → Prop, (∀ σ' H', N σ' H' → ∃ m', m' < m ∧ W (i + 1) m' σ' H') ∧ ∀ x H', J.yld i H x H' → g x σ H' fun σ2 H2 => tb { D with nx := N, ct := N, bk := D.nx } σ2 H2)
/-- the records at fp as they stand -/
def pinsAt (fp : List Addr) (h : Heap) : List (Addr × Obj) := fp.filterMap fun b => (h.get? b).map fun o => (b, o)
theorem mem_pinsAt {fp : List Addr} {h : Heap} {b : Addr} {o : Obj} (hb : b ∈ fp) (e : h.get? b = some o) : (b, o) ∈ pinsAt fp h := List.mem_filterMap.mpr ⟨b, hb, by rw [e]; rfl⟩
theorem of_pinsAt {fp : List Addr} {h : Heap} {p : Addr × Obj} (hp : p ∈ pinsAt fp h) : p.1 ∈ fp ∧ h.get? p.1 = some p.2 := by
  obtain ⟨b, hb, e⟩ := List.mem_filterMap.mp hp
  cases q : h.get? b with
  | none => rw [q] at e; cases e
  | some o =>
    rw [q] at e
    have e' : (b, o) = p := Option.some.inj e
    subst e'
    exact ⟨hb, q⟩
theorem Inv.pinned {pins : List (Addr × Obj)} {σ : St} {H : Hp} {s : Shared} {fp : List Addr} (I : Inv X pins σ H s) (hf : ∀ b ∈ fp, FpOk X pins H b) (ho : ∀ b ∈ fp, ∃ o, s.heap.get? b = some o ∧ ∀ v, o.data ≠ .cell v) : Inv X (pins ++ pinsAt fp s.heap) σ H s :=
  I.pins_of fun p hp => (List.mem_append.mp hp).elim (fun z => I.pin p (List.mem_append_right _ z)) fun z => by
    obtain ⟨hb, e⟩ := of_pinsAt z
    obtain ⟨f0, f1, f2, _⟩ := hf p.1 hb
    obtain ⟨o, e', d⟩ := ho p.1 hb
    rw [e] at e'; cases e'
    exact ⟨e, f0, f1, f2, d⟩
theorem Inv.unpinned {pins pl : List (Addr × Obj)} {σ : St} {H : Hp} {s : Shared} (I : Inv X (pins ++ pl) σ H s) : Inv X pins σ H s := I.pins_of fun p hp => I.pin p (List.mem_append_right _ (List.mem_append_left _ hp))
theorem ps_for {iter : Expr} {body : List Stmt} {wi : TI} {g : TG} {tb : TS} {pos : Pos} (hp : PassesOwn (model X.prog X.w) X.A X.env X.xe) (hc : X.calm = true) (hi : PI X tg iter wi) (hg : PG X tg g) (hb : PSs X body tb)
    (hs : ∀ x, foldedSetIterable iter X.env x = pure x := by intro _; rfl) : PS X (.For tg iter body [] pos) (tFor wi g tb) := by
  intro pins s σ H D I h
  refine wpAny_For (thn (hi pins s σ H _ I h) fun v s1 h1 => thn h1 fun itv s2 h2 => ?_) hs
  obtain ⟨it, fp, tn, J, H2, e, I2, T, st2, f2, W, ⟨m0, w0⟩, turn⟩ := h2
  subst e
  -- what stays true of the iterator's objects through the loop
  have stat : ∀ {H' : Hp}, (∀ b ∈ fp, H' b = none) → ∀ b ∈ fp, FpOk X pins H' b := fun hn b hb => ⟨hn b hb, (f2 b hb).2⟩
  refine codeAny_forLoop_any (fun n s' => ∃ i σ' H', Inv X pins σ' H' s' ∧ tn i s'.heap ∧ (∀ b ∈ fp, H' b = none) ∧ W i n σ' H') ?_ m0 ⟨0, σ, H2, I2, st2, fun b hb => (f2 b hb).1, w0⟩
  rintro n s3 ⟨i, σ3, H3, I3, st3, fr3, w3⟩
  rcases turn i n σ3 H3 w3 with ⟨stop, qn⟩ | ⟨go, N, hN, step⟩
  · refine wpAny_passesOwn hp (thn (T.done X rfl rfl rfl hc i pins s3 σ3 H3 X.xe I3 (stat fr3) st3 stop) fun r s4 ⟨hr, I4⟩ => ?_)
    subst hr
    exact wpAny_execs_nil ⟨σ3, H3, I4, qn⟩
  · refine wpAny_passesOwn hp (thn (T.item X rfl rfl rfl hc i pins s3 σ3 H3 X.xe I3 (stat fr3) st3 go) fun r s4 ⟨u, hr, h4⟩ => ?_)
    subst hr
    refine wpAny_passesOwn hp (thn h4 fun _ s5 ⟨x, H5, I5, r5, y5, st5, fr5⟩ => ?_)
    have I5' := I5.pinned (stat fr5) (T.obj _ _ st5)
    refine wpAny_passesOwn hp (thn (hg _ s5 σ3 H5 x u _ I5' r5 (step x H5 y5)) fun _ s6 ⟨σ6, H6, I6, q6⟩ => ?_)
    refine wpAny_passesOwn hp (thn (hb _ s6 σ6 H6 _ I6 q6) fun f s7 q7 => ?_)
    have again : ∀ {σ7 : St} {H7 : Hp}, Inv X (pins ++ pinsAt fp s5.heap) σ7 H7 s7 → N σ7 H7 → ∃ m, m < n ∧ ∃ i σ' H', Inv X pins σ' H' s7 ∧ tn i s7.heap ∧ (∀ b ∈ fp, H' b = none) ∧ W i m σ' H' := fun {σ7 H7} I7 n7 => by
      obtain ⟨m', hm, w7⟩ := hN σ7 H7 n7
      refine ⟨m', hm, i + 1, σ7, H7, I7.unpinned, T.keep _ _ _ st5 fun b hb o e => (I7.pin (b, o) (List.mem_append_right _ (List.mem_append_right _ (mem_pinsAt hb e)))).1, fun b hb => ?_, w7⟩
      obtain ⟨o, e, d⟩ := T.obj _ _ st5 b hb
      exact (I7.pin (b, o) (List.mem_append_right _ (List.mem_append_right _ (mem_pinsAt hb e)))).2.1
    cases f with
    | next => obtain ⟨σ7, H7, I7, n7⟩ := q7; exact again I7 n7
    | cont => obtain ⟨σ7, H7, I7, n7⟩ := q7; exact again I7 n7
    | brk => obtain ⟨σ7, H7, I7, q7⟩ := q7; exact ⟨σ7, H7, I7.unpinned, q7⟩
    | ret v => obtain ⟨x7, σ7, H7, I7, r7, q7⟩ := q7; exact ⟨x7, σ7, H7, I7.unpinned, r7, q7⟩
end

/-! ### the forms one uses -/
/-- over a list that the body leaves as it is -/
theorem for_list {K : PySem.W.Frag} {a : Addr} {xs : List V} {g : TG} {tb : TS} {D : Ends} {σ : St} {H : Hp} (Pv : Nat → St → Hp → Prop) (h0 : Pv 0 σ H) (hl : ∀ i σ H, i ≤ xs.length → Pv i σ H → SqL K H a xs)
    (hs : ∀ i x σ H, xs[i]? = some x → Pv i σ H → g x σ H fun σ2 H2 => tb { D with nx := Pv (i + 1), ct := Pv (i + 1), bk := D.nx } σ2 H2) (hd : ∀ σ H, Pv xs.length σ H → D.nx σ H) :
    ∃ W : Nat → Nat → St → Hp → Prop, (∃ m, W 0 m σ H) ∧ ∀ i m σ H, W i m σ H →
      ((Itl K a).stop i H ∧ D.nx σ H) ∨ ((Itl K a).go i H ∧ ∃ N : St → Hp → Prop, (∀ σ' H', N σ' H' → ∃ m', m' < m ∧ W (i + 1) m' σ' H') ∧ ∀ x H', (Itl K a).yld i H x H' → g x σ H' fun σ2 H2 => tb { D with nx := N, ct := N, bk := D.nx } σ2 H2) := by
  refine ⟨fun i m σ H => m = xs.length - i ∧ i ≤ xs.length ∧ Pv i σ H, ⟨xs.length, by simp, Nat.zero_le _, h0⟩, ?_⟩
  rintro i m σ H ⟨rfl, hi, p⟩
  have q := hl i σ H hi p
  by_cases hlt : i < xs.length
  · refine .inr ⟨⟨xs, xs[i], q, by simp [hlt]⟩, Pv (i + 1), fun σ' H' p' => ⟨xs.length - (i + 1), by omega, rfl, hlt, p'⟩, fun x H' y => ?_⟩
    obtain ⟨e, y⟩ := y
    subst e
    exact hs i x σ _ (y xs q) p
  · have e : i = xs.length := by omega
    subst e
    exact .inl ⟨⟨xs, q, Nat.le_refl _⟩, hd σ H p⟩
theorem for_tup {K : PySem.W.Frag} {a : Addr} {xs : List V} {g : TG} {tb : TS} {D : Ends} {σ : St} {H : Hp} (Pv : Nat → St → Hp → Prop) (h0 : Pv 0 σ H) (hl : ∀ i σ H, i ≤ xs.length → Pv i σ H → SqT K H a xs)
    (hs : ∀ i x σ H, xs[i]? = some x → Pv i σ H → g x σ H fun σ2 H2 => tb { D with nx := Pv (i + 1), ct := Pv (i + 1), bk := D.nx } σ2 H2) (hd : ∀ σ H, Pv xs.length σ H → D.nx σ H) :
    ∃ W : Nat → Nat → St → Hp → Prop, (∃ m, W 0 m σ H) ∧ ∀ i m σ H, W i m σ H →
      ((Itt K a).stop i H ∧ D.nx σ H) ∨ ((Itt K a).go i H ∧ ∃ N : St → Hp → Prop, (∀ σ' H', N σ' H' → ∃ m', m' < m ∧ W (i + 1) m' σ' H') ∧ ∀ x H', (Itt K a).yld i H x H' → g x σ H' fun σ2 H2 => tb { D with nx := N, ct := N, bk := D.nx } σ2 H2) := by
  refine ⟨fun i m σ H => m = xs.length - i ∧ i ≤ xs.length ∧ Pv i σ H, ⟨xs.length, by simp, Nat.zero_le _, h0⟩, ?_⟩
  rintro i m σ H ⟨rfl, hi, p⟩
  have q := hl i σ H hi p
  by_cases hlt : i < xs.length
  · refine .inr ⟨⟨xs, xs[i], q, by simp [hlt]⟩, Pv (i + 1), fun σ' H' p' => ⟨xs.length - (i + 1), by omega, rfl, hlt, p'⟩, fun x H' y => ?_⟩
    obtain ⟨e, y⟩ := y
    subst e
    exact hs i x σ _ (y xs q) p
  · have e : i = xs.length := by omega
    subst e
    exact .inl ⟨⟨xs, q, Nat.le_refl _⟩, hd σ H p⟩
theorem for_range {lo : Int} {n : Nat} {g : TG} {tb : TS} {D : Ends} {σ : St} {H : Hp} (Pv : Nat → St → Hp → Prop) (h0 : Pv 0 σ H)
    (hs : ∀ i σ H, i < n → Pv i σ H → g (.int (lo + i)) σ H fun σ2 H2 => tb { D with nx := Pv (i + 1), ct := Pv (i + 1), bk := D.nx } σ2 H2) (hd : ∀ σ H, Pv n σ H → D.nx σ H) :
    ∃ W : Nat → Nat → St → Hp → Prop, (∃ m, W 0 m σ H) ∧ ∀ i m σ H, W i m σ H →
      ((Itr lo n).stop i H ∧ D.nx σ H) ∨ ((Itr lo n).go i H ∧ ∃ N : St → Hp → Prop, (∀ σ' H', N σ' H' → ∃ m', m' < m ∧ W (i + 1) m' σ' H') ∧ ∀ x H', (Itr lo n).yld i H x H' → g x σ H' fun σ2 H2 => tb { D with nx := N, ct := N, bk := D.nx } σ2 H2) := by
  refine ⟨fun i m σ H => m = n - i ∧ i ≤ n ∧ Pv i σ H, ⟨n, by simp, Nat.zero_le _, h0⟩, ?_⟩
  rintro i m σ H ⟨rfl, hi, p⟩
  by_cases hlt : i < n
  · refine .inr ⟨hlt, Pv (i + 1), fun σ' H' p' => ⟨n - (i + 1), by omega, rfl, hlt, p'⟩, fun x H' y => ?_⟩
    obtain ⟨e, y⟩ := y
    subst e y
    exact hs i σ _ hlt p
  · have e : i = n := by omega
    subst e
    exact .inl ⟨Nat.le_refl _, hd σ H p⟩
/-- while, by a word and a measure of the state -/
theorem while_by {c : TT} {tb : TS} {D : Ends} {σ : St} {H : Hp} (Pv : St → Hp → Prop) (μ : St → Hp → Nat) (h0 : Pv σ H)
    (hs : ∀ σ H, Pv σ H → c σ H fun b H1 => if b = true then tb { D with nx := fun σ' H' => Pv σ' H' ∧ μ σ' H' < μ σ H, ct := fun σ' H' => Pv σ' H' ∧ μ σ' H' < μ σ H, bk := D.nx } σ H1 else D.nx σ H1)
    (mono : ∀ σ H Q Q', (∀ b H1, Q b H1 → Q' b H1) → c σ H Q → c σ H Q') : tWhile c tb D σ H := by
  refine ⟨fun m σ H => m = μ σ H ∧ Pv σ H, ⟨_, rfl, h0⟩, ?_⟩
  rintro m σ H ⟨rfl, p⟩
  refine mono σ H _ _ (fun b H1 q => ?_) (hs σ H p)
  cases b with
  | true => exact ⟨_, fun σ' H' ⟨p', l⟩ => ⟨_, l, rfl, p'⟩, q⟩
  | false => exact q
end L2

namespace L2
open PySem PySem.Spec PyProof.Rows

abbrev R2 := V → V → Hp → VK → Prop
/-- a two-place operation on values: f is binaryOp op, inplaceOp op or compareOp op -/
def OpR (X : Cx) (f : Value → Value → Sem Value) (r : R2) : Prop :=
  ∀ (pins : List (Addr × Obj)) (s : Shared) (σ : St) (H : Hp) (x y : V) (v u : Value) (Q : VK), Inv X pins σ H s → RelV x v → RelV y u → r x y H Q →
    wpAny (model X.prog X.w) X.A (f v u) (EP X pins σ Q) X.xe s
/-- a one-place operation -/
def UnR (X : Cx) (f : Value → Sem Value) (r : V → Hp → VK → Prop) : Prop :=
  ∀ (pins : List (Addr × Obj)) (s : Shared) (σ : St) (H : Hp) (x : V) (v : Value) (Q : VK), Inv X pins σ H s → RelV x v → r x H Q →
    wpAny (model X.prog X.w) X.A (f v) (EP X pins σ Q) X.xe s
/-- a call of a value that is known (a builtin, a type) with values -/
def CallR (X : Cx) (f : Value) (r : List V → Hp → VK → Prop) : Prop :=
  ∀ (pins : List (Addr × Obj)) (s : Shared) (σ : St) (H : Hp) (xs : List V) (us : List Value) (Q : VK), Inv X pins σ H s → Vals xs us → r xs H Q →
    wpAny (model X.prog X.w) X.A (call f us) (EP X pins σ Q) X.xe s
/-- a value's truth -/
def TruR (X : Cx) (r : V → Hp → (Bool → Hp → Prop) → Prop) : Prop :=
  ∀ (pins : List (Addr × Obj)) (s : Shared) (σ : St) (H : Hp) (x : V) (v : Value) (Q : Bool → Hp → Prop), Inv X pins σ H s → RelV x v → r x H Q →
    wpAny (model X.prog X.w) X.A (truthy v) (TP X pins σ Q) X.xe s

def tOp (r : R2) (ta tb : TE) : TE := fun σ H Q => ta σ H fun x H1 => tb σ H1 fun y H2 => r x y H2 Q
def tUn (r : V → Hp → VK → Prop) (ta : TE) : TE := fun σ H Q => ta σ H fun x H1 => r x H1 Q
/-- ints in, under C, and a value out -/
def rI (C : Int → Int → Prop) (g : Int → Int → V) : R2 := fun x y H Q => ∃ i j, x = .int i ∧ y = .int j ∧ C i j ∧ Q (g i j) H
def rI0 (g : Int → Int → V) : R2 := fun x y H Q => ∃ i j, x = .int i ∧ y = .int j ∧ Q (g i j) H
def rU (g : Int → V) : V → Hp → VK → Prop := fun x H Q => ∃ i, x = .int i ∧ Q (g i) H

section
variable {X : Cx} {a b c : Expr} {ta tb tc : TE} {pos : Pos}

theorem binT (ha : PE X a ta) (hb : PE X b tb) {pins : List (Addr × Obj)} {s : Shared} {σ : St} {H : Hp} {R : V → V → Hp → Prop} (I : Inv X pins σ H s)
    (h : ta σ H fun x H1 => tb σ H1 fun y H2 => R x y H2) {Q : Value → Shared → Prop} {f : Value → Value → Sem Value}
    (hf : ∀ v u s2 x y H2, Inv X pins σ H2 s2 → RelV x v → RelV y u → R x y H2 → wpAny (model X.prog X.w) X.A (f v u) Q X.xe s2) :
    wpAny (model X.prog X.w) X.A (eval a X.env) (fun v s₁ => wpAny (model X.prog X.w) X.A (eval b X.env) (fun u s₂ => wpAny (model X.prog X.w) X.A (f v u) Q X.xe s₂) X.xe s₁) X.xe s := by
  refine thn (ha pins s σ H _ I h) fun v s1 ⟨x, H1, I1, r1, q1⟩ => ?_
  refine thn (hb pins s1 σ H1 _ I1 q1) fun u s2 ⟨y, H2, I2, r2, q2⟩ => ?_
  exact hf v u s2 x y H2 I2 r1 r2 q2

theorem pe_op {op : Operator} {r : R2} (ho : OpR X (binaryOp op) r) (ha : PE X a ta) (hb : PE X b tb) : PE X (.BinOp a op b pos) (tOp r ta tb) := by
  intro pins s σ H Q I h
  exact wpAny_BinOp (binT ha hb I h fun v u s2 x y H2 I2 rx ry q => ho pins s2 σ H2 x y v u Q I2 rx ry q)
theorem pe_un {op : UnaryOp} {r : V → Hp → VK → Prop} (ho : UnR X (unaryOp op) r) (ha : PE X a ta) : PE X (.UnaryOp op a pos) (tUn r ta) := by
  intro pins s σ H Q I h
  exact UnaryOp_ (thn (ha pins s σ H _ I h) fun v s1 ⟨x, H1, I1, r1, q1⟩ => ho pins s1 σ H1 x v Q I1 r1 q1)
/-- a op= e at a name: the name's slot i -/
theorem augR {op : Operator} {r : R2} (ho : OpR X (inplaceOp op) r) {pins : List (Addr × Obj)} {s : Shared} {σ : St} {H : Hp} {x y : V} {v u : Value} {Q : VK} (I : Inv X pins σ H s)
    (rx : RelV x v) (ry : RelV y u) (q : r x y H Q) : wpAny (model X.prog X.w) X.A (inplaceOp op v u) (EP X pins σ Q) X.xe s := ho pins s σ H x y v u Q I rx ry q

/-! ### ints -/
theorem opI {f : Value → Value → Sem Value} {C : Int → Int → Prop} {g : Int → Int → Int}
    (rule : ∀ (i j : Int) (t u : Tok) (s : Shared) (Q : Value → Shared → Prop) (E : Value → Shared → Prop), C i j → Q (.int (g i j) s.toks) { s with toks := s.toks + 1 } → wpAny (model X.prog X.w) X.A (f (.int i t) (.int j u)) Q E s) :
    OpR X f (rI C fun i j => .int (g i j)) := by
  intro pins s σ H x y v u Q I rx ry h
  obtain ⟨i, j, rfl, rfl, hc, q⟩ := h
  obtain ⟨t, rfl⟩ := rx
  obtain ⟨t', rfl⟩ := ry
  exact rule i j t t' s _ _ hc ⟨.int (g i j), H, I.tok _, ⟨_, rfl⟩, q⟩
theorem opI0 {f : Value → Value → Sem Value} {g : Int → Int → Int}
    (rule : ∀ (i j : Int) (t u : Tok) (s : Shared) (Q : Value → Shared → Prop) (E : Value → Shared → Prop), Q (.int (g i j) s.toks) { s with toks := s.toks + 1 } → wpAny (model X.prog X.w) X.A (f (.int i t) (.int j u)) Q E s) :
    OpR X f (rI0 fun i j => .int (g i j)) := by
  intro pins s σ H x y v u Q I rx ry h
  obtain ⟨i, j, rfl, rfl, q⟩ := h
  obtain ⟨t, rfl⟩ := rx
  obtain ⟨t', rfl⟩ := ry
  exact rule i j t t' s _ _ ⟨.int (g i j), H, I.tok _, ⟨_, rfl⟩, q⟩
theorem opB0 {f : Value → Value → Sem Value} {g : Int → Int → Bool}
    (rule : ∀ (i j : Int) (t u : Tok) (s : Shared) (Q : Value → Shared → Prop) (E : Value → Shared → Prop), Q (.bool (g i j)) s → wpAny (model X.prog X.w) X.A (f (.int i t) (.int j u)) Q E s) :
    OpR X f (rI0 fun i j => .bl (g i j)) := by
  intro pins s σ H x y v u Q I rx ry h
  obtain ⟨i, j, rfl, rfl, q⟩ := h
  obtain ⟨t, rfl⟩ := rx
  obtain ⟨t', rfl⟩ := ry
  exact rule i j t t' s _ _ ⟨.bl (g i j), H, I, rfl, q⟩

def CDiv (i j : Int) : Prop := 0 < j ∧ j < 1073741824
def CDivN (i j : Int) : Prop := j ≠ 0 ∧ j.natAbs < 1073741824
def CPow (i j : Int) : Prop := 0 ≤ j ∧ j ≤ 1000000 ∧ i.natAbs < 2 ^ 64
def CMul (i j : Int) : Prop := (-(2 ^ 64) < i ∧ i < 2 ^ 64) ∨ (-(2 ^ 64) < j ∧ j < 2 ^ 64)
theorem CMul.ok {i j : Int} (h : CMul i j) : IntMulOk i j := by
  rcases h with ⟨h1, h2⟩ | ⟨h1, h2⟩
  · exact .of_left (intBits_le_64 h1 h2)
  · exact .of_right (intBits_le_64 h1 h2)
theorem two_pow_nn (k : Nat) : (0 : Int) ≤ 2 ^ k := by
  rw [two_pow_cast]
  exact Int.natCast_nonneg _

theorem op_add : OpR X (binaryOp .Add) (rI0 fun i j => .int (i + j)) := opI0 fun _ _ _ _ _ _ _ q => add_int q
theorem op_sub : OpR X (binaryOp .Sub) (rI0 fun i j => .int (i - j)) := opI0 fun _ _ _ _ _ _ _ q => sub_int q
theorem op_mul : OpR X (binaryOp .Mult) (rI CMul fun i j => .int (i * j)) := opI fun _ _ _ _ _ _ _ hc q => mul_int q hc.ok
/-- // by a positive divisor -/
theorem op_fdiv : OpR X (binaryOp .FloorDiv) (rI CDiv fun i j => .int (i / j)) := opI fun i j _ _ _ _ _ hc q => by
  have h1 : (0 : Int) < j := hc.1
  have h2 : j < 1073741824 := hc.2
  exact floordiv_int (by omega) (by rw [Int.fdiv_eq_ediv_of_nonneg i (by omega)]; exact q) (.inl (PyProof.noPylong_small (by omega)))
theorem op_fdivN : OpR X (binaryOp .FloorDiv) (rI CDivN fun i j => .int (i.fdiv j)) := opI fun _ _ _ _ _ _ _ hc q => floordiv_int hc.1 q (.inl (PyProof.noPylong_small hc.2))
/-- % by a positive divisor of any size -/
theorem op_mod : OpR X (binaryOp .Mod) (rI (fun _ j => 0 < j) fun i j => .int (i % j)) := opI fun i j _ _ _ _ _ hc q => by
  have h1 : (0 : Int) < j := hc
  exact mod_int' (by omega) (by rw [Int.fmod_eq_emod_of_nonneg i (by omega)]; exact q)
theorem op_modN : OpR X (binaryOp .Mod) (rI (fun _ j => j ≠ 0) fun i j => .int (i.fmod j)) := opI fun _ _ _ _ _ _ _ hc q => mod_int' hc q
theorem op_pow : OpR X (binaryOp .Pow) (rI CPow fun i j => .int (i ^ j.toNat)) := opI fun _ _ _ _ _ _ _ hc q => pow_int_small hc.1 hc.2.1 hc.2.2 q
theorem op_shl : OpR X (binaryOp .LShift) (rI CPow fun i j => .int (i * 2 ^ j.toNat)) := opI fun _ _ _ _ _ _ _ hc q => lshift_int_small hc.1 hc.2.1 hc.2.2 q
theorem op_shr : OpR X (binaryOp .RShift) (rI (fun _ j => 0 ≤ j) fun i j => .int (i / 2 ^ j.toNat)) := opI fun i j _ _ _ _ _ hc q =>
  rshift_int hc (by rw [Int.fdiv_eq_ediv_of_nonneg i (two_pow_nn _)]; exact q)
theorem op_and : OpR X (binaryOp .BitAnd) (rI0 fun i j => .int (Builtin.bitAnd i j)) := opI0 fun _ _ _ _ _ _ _ q => and_int q
theorem op_or : OpR X (binaryOp .BitOr) (rI0 fun i j => .int (Builtin.bitOr i j)) := opI0 fun _ _ _ _ _ _ _ q => or_int q
theorem op_xor : OpR X (binaryOp .BitXor) (rI0 fun i j => .int (Builtin.bitXor i j)) := opI0 fun _ _ _ _ _ _ _ q => xor_int q

theorem iop_add : OpR X (inplaceOp .Add) (rI0 fun i j => .int (i + j)) := opI0 fun _ _ _ _ _ _ _ q => iadd_int q
theorem iop_sub : OpR X (inplaceOp .Sub) (rI0 fun i j => .int (i - j)) := opI0 fun _ _ _ _ _ _ _ q => isub_int q
theorem iop_mul : OpR X (inplaceOp .Mult) (rI CMul fun i j => .int (i * j)) := opI fun _ _ _ _ _ _ _ hc q => imul_int q hc.ok
theorem iop_fdiv : OpR X (inplaceOp .FloorDiv) (rI CDiv fun i j => .int (i / j)) := opI fun i j _ _ _ _ _ hc q => by
  have h1 : (0 : Int) < j := hc.1
  have h2 : j < 1073741824 := hc.2
  exact ifloordiv_int (by omega) (by rw [Int.fdiv_eq_ediv_of_nonneg i (by omega)]; exact q) (.inl (PyProof.noPylong_small (by omega)))
theorem iop_mod : OpR X (inplaceOp .Mod) (rI (fun _ j => 0 < j) fun i j => .int (i % j)) := opI fun i j _ _ _ _ _ hc q => by
  have h1 : (0 : Int) < j := hc
  exact imod_int (by omega) (by rw [Int.fmod_eq_emod_of_nonneg i (by omega)]; exact q)
theorem iop_shl : OpR X (inplaceOp .LShift) (rI CPow fun i j => .int (i * 2 ^ j.toNat)) := opI fun _ _ _ _ _ _ _ hc q => ilshift_int_small hc.1 hc.2.1 hc.2.2 q
theorem iop_shr : OpR X (inplaceOp .RShift) (rI (fun _ j => 0 ≤ j) fun i j => .int (i / 2 ^ j.toNat)) := opI fun i j _ _ _ _ _ hc q =>
  irshift_int hc (by rw [Int.fdiv_eq_ediv_of_nonneg i (two_pow_nn _)]; exact q)
theorem iop_and : OpR X (inplaceOp .BitAnd) (rI0 fun i j => .int (Builtin.bitAnd i j)) := opI0 fun _ _ _ _ _ _ _ q => iand_int q
theorem iop_or : OpR X (inplaceOp .BitOr) (rI0 fun i j => .int (Builtin.bitOr i j)) := opI0 fun _ _ _ _ _ _ _ q => ior_int q
theorem iop_xor : OpR X (inplaceOp .BitXor) (rI0 fun i j => .int (Builtin.bitXor i j)) := opI0 fun _ _ _ _ _ _ _ q => ixor_int q

theorem unI {f : Value → Sem Value} {g : Int → Int}
    (rule : ∀ (i : Int) (t : Tok) (s : Shared) (Q : Value → Shared → Prop) (E : Value → Shared → Prop), Q (.int (g i) s.toks) { s with toks := s.toks + 1 } → wpAny (model X.prog X.w) X.A (f (.int i t)) Q E s) :
    UnR X f (rU fun i => .int (g i)) := by
  intro pins s σ H x v Q I rx h
  obtain ⟨i, rfl, q⟩ := h
  obtain ⟨t, rfl⟩ := rx
  exact rule i t s _ _ ⟨.int (g i), H, I.tok _, ⟨_, rfl⟩, q⟩
theorem un_neg : UnR X (unaryOp .USub) (rU fun i => .int (-i)) := unI fun _ _ _ _ _ q => neg_int q
theorem un_inv : UnR X (unaryOp .Invert) (rU fun i => .int (Builtin.bitNot i)) := unI fun _ _ _ _ _ q => invert_int q

/-! ### bools among ints: n += (a < b) -/
theorem op_add_ib : OpR X (binaryOp .Add) (fun x y H Q => ∃ i k, x = .int i ∧ y = .bl k ∧ Q (.int (i + b2i k)) H) := by
  intro pins s σ H x y v u Q I rx ry h
  obtain ⟨i, k, rfl, rfl, q⟩ := h
  obtain ⟨t, rfl⟩ := rx
  cases ry
  exact add_int_bool ⟨.int (i + b2i k), H, I.tok _, ⟨_, rfl⟩, q⟩
end

/-! ### comparisons -/
/-- the scalars that == tells apart as data does -/
def scal : V → V → Bool
  | .non, .non => true | .non, .int _ => true | .int _, .non => true | .non, .bl _ => true | .bl _, .non => true | .non, .str _ => true | .str _, .non => true
  | .int _, .int _ => true | .bl _, .bl _ => true | .str _, .str _ => true | .byt _, .byt _ => true
  | .int _, .str _ => true | .str _, .int _ => true | .bl _, .str _ => true | .str _, .bl _ => true
  | _, _ => false
def rEq : R2 := fun x y H Q => scal x y = true ∧ Q (.bl (decide (x = y))) H
def rNe : R2 := fun x y H Q => scal x y = true ∧ Q (.bl (!decide (x = y))) H

theorem dec_int {i j : Int} : decide (V.int i = V.int j) = (i == j) := by
  rw [Bool.eq_iff_iff]
  simp
theorem dec_bl {i j : Bool} : decide (V.bl i = V.bl j) = (i == j) := by
  rw [Bool.eq_iff_iff]
  simp
theorem dec_str {i j : Str} : decide (V.str i = V.str j) = (i == j) := by
  rw [Bool.eq_iff_iff]
  simp
theorem dec_byt {i j : Array UInt8} : decide (V.byt i = V.byt j) = (i.toList == j.toList) := by
  rw [Bool.eq_iff_iff]
  cases i
  cases j
  simp

section
variable {X : Cx} {a b c : Expr} {ta tb tc : TE} {pos : Pos}
theorem fin_bl {pins : List (Addr × Obj)} {σ : St} {H : Hp} {s : Shared} {Q : VK} {k k' : Bool} (I : Inv X pins σ H s) (q : Q (.bl k) H) (e : k = k') : EP X pins σ Q (.bool k') s := by
  subst e
  exact ⟨.bl k, H, I, rfl, q⟩
theorem op_eq : OpR X (compareOp .Eq) rEq := by
  intro pins s σ H x y v u Q I rx ry h
  obtain ⟨hs, q⟩ := h
  cases x with
  | non =>
    cases rx
    cases y with
    | non => cases ry; exact PySem.EqNone.eq_none_none (fin_bl I q (by simp))
    | bl j => cases ry; exact PySem.EqNone.eq_none_bool (fin_bl I q (by simp))
    | int j => obtain ⟨t', rfl⟩ := ry; exact PySem.EqNone.eq_none_int (fin_bl I q (by simp))
    | str j => obtain ⟨t', rfl⟩ := ry; exact PySem.EqNone.eq_none_str (fin_bl I q (by simp))
    | _ => exact absurd (show false = true from hs) Bool.false_ne_true
  | bl i =>
    cases rx
    cases y with
    | non => cases ry; exact PySem.EqNone.eq_bool_none (fin_bl I q (by simp))
    | bl j => cases ry; exact eq_bool (fin_bl I q dec_bl)
    | str j => obtain ⟨t', rfl⟩ := ry; exact PySem.EqMixed.eq_bool_str (fin_bl I q (by simp))
    | _ => exact absurd (show false = true from hs) Bool.false_ne_true
  | int i =>
    obtain ⟨t, rfl⟩ := rx
    cases y with
    | non => cases ry; exact PySem.EqNone.eq_int_none (fin_bl I q (by simp))
    | int j => obtain ⟨t', rfl⟩ := ry; exact eq_int (fin_bl I q dec_int)
    | str j => obtain ⟨t', rfl⟩ := ry; exact PySem.EqMixed.eq_int_str (fin_bl I q (by simp))
    | _ => exact absurd (show false = true from hs) Bool.false_ne_true
  | str i =>
    obtain ⟨t, rfl⟩ := rx
    cases y with
    | non => cases ry; exact PySem.EqNone.eq_str_none (fin_bl I q (by simp))
    | bl j => cases ry; exact PySem.EqMixed.eq_str_bool (fin_bl I q (by simp))
    | int j => obtain ⟨t', rfl⟩ := ry; exact PySem.EqMixed.eq_str_int (fin_bl I q (by simp))
    | str j => obtain ⟨t', rfl⟩ := ry; exact eq_str (fin_bl I q dec_str)
    | _ => exact absurd (show false = true from hs) Bool.false_ne_true
  | byt i =>
    obtain ⟨t, rfl⟩ := rx
    cases y with
    | byt j => obtain ⟨t', rfl⟩ := ry; exact PySem.W.eq_bytes (fin_bl I q dec_byt)
    | _ => exact absurd (show false = true from hs) Bool.false_ne_true
  | _ => cases y <;> exact absurd (show false = true from hs) Bool.false_ne_true
theorem op_ne : OpR X (compareOp .NotEq) rNe := by
  intro pins s σ H x y v u Q I rx ry h
  obtain ⟨hs, q⟩ := h
  cases x with
  | non =>
    cases rx
    cases y with
    | non => cases ry; exact PySem.EqNone.ne_none_none (fin_bl I q (by simp))
    | bl j => cases ry; exact PySem.EqNone.ne_none_bool (fin_bl I q (by simp))
    | int j => obtain ⟨t', rfl⟩ := ry; exact PySem.EqNone.ne_none_int (fin_bl I q (by simp))
    | str j => obtain ⟨t', rfl⟩ := ry; exact PySem.EqNone.ne_none_str (fin_bl I q (by simp))
    | _ => exact absurd (show false = true from hs) Bool.false_ne_true
  | bl i =>
    cases rx
    cases y with
    | non => cases ry; exact PySem.EqNone.ne_bool_none (fin_bl I q (by simp))
    | bl j => cases ry; exact ne_bool (fin_bl I q (congrArg not dec_bl))
    | str j => obtain ⟨t', rfl⟩ := ry; exact PySem.EqMixed.ne_bool_str (fin_bl I q (by simp))
    | _ => exact absurd (show false = true from hs) Bool.false_ne_true
  | int i =>
    obtain ⟨t, rfl⟩ := rx
    cases y with
    | non => cases ry; exact PySem.EqNone.ne_int_none (fin_bl I q (by simp))
    | int j => obtain ⟨t', rfl⟩ := ry; exact ne_int (fin_bl I q (congrArg not dec_int))
    | str j => obtain ⟨t', rfl⟩ := ry; exact PySem.EqMixed.ne_int_str (fin_bl I q (by simp))
    | _ => exact absurd (show false = true from hs) Bool.false_ne_true
  | str i =>
    obtain ⟨t, rfl⟩ := rx
    cases y with
    | non => cases ry; exact PySem.EqNone.ne_str_none (fin_bl I q (by simp))
    | bl j => cases ry; exact PySem.EqMixed.ne_str_bool (fin_bl I q (by simp))
    | int j => obtain ⟨t', rfl⟩ := ry; exact PySem.EqMixed.ne_str_int (fin_bl I q (by simp))
    | str j => obtain ⟨t', rfl⟩ := ry; exact ne_str (fin_bl I q (congrArg not dec_str))
    | _ => exact absurd (show false = true from hs) Bool.false_ne_true
  | byt i =>
    obtain ⟨t, rfl⟩ := rx
    cases y with
    | byt j => obtain ⟨t', rfl⟩ := ry; exact PySem.W.ne_bytes (fin_bl I q (congrArg not dec_byt))
    | _ => exact absurd (show false = true from hs) Bool.false_ne_true
  | _ => cases y <;> exact absurd (show false = true from hs) Bool.false_ne_true

theorem op_lt : OpR X (compareOp .Lt) (rI0 fun i j => .bl (decide (i < j))) := opB0 fun _ _ _ _ _ _ _ q => lt_int q
theorem op_le : OpR X (compareOp .LtE) (rI0 fun i j => .bl (decide (i ≤ j))) := opB0 fun _ _ _ _ _ _ _ q => le_int q
theorem op_gt : OpR X (compareOp .Gt) (rI0 fun i j => .bl (decide (j < i))) := opB0 fun _ _ _ _ _ _ _ q => gt_int q
theorem op_ge : OpR X (compareOp .GtE) (rI0 fun i j => .bl (decide (j ≤ i))) := opB0 fun _ _ _ _ _ _ _ q => ge_int q
theorem op_lt_str : OpR X (compareOp .Lt) (fun x y H Q => ∃ i j, x = .str i ∧ y = .str j ∧ Q (.bl (decide (i.cps.toList < j.cps.toList))) H) := by
  intro pins s σ H x y v u Q I rx ry h
  obtain ⟨i, j, rfl, rfl, q⟩ := h
  obtain ⟨t, rfl⟩ := rx
  obtain ⟨t', rfl⟩ := ry
  exact lt_str (fin_bl I q rfl)
/-- the one string within the other -/
theorem op_in_str : OpR X (compareOp .In) (fun x y H Q => ∃ i j, x = .str i ∧ y = .str j ∧ Q (.bl (!(Builtin.Str.occurrences j i 0 j.length 1).isEmpty)) H) := by
  intro pins s σ H x y v u Q I rx ry h
  obtain ⟨i, j, rfl, rfl, q⟩ := h
  obtain ⟨t, rfl⟩ := rx
  obtain ⟨t', rfl⟩ := ry
  exact in_str (fin_bl I q rfl)

/-- is None, is not None: the right side a value none -/
theorem op_isN : OpR X (compareOp .Is) (fun x y H Q => y = .non ∧ Q (.bl (decide (x = .non))) H) := by
  intro pins s σ H x y v u Q I rx ry h
  obtain ⟨rfl, q⟩ := h
  cases ry
  refine is_none_gen (fin_bl I q ?_)
  cases x <;> first
    | (cases rx; rfl)
    | (obtain ⟨t, rfl⟩ := rx; rfl)
theorem op_notN : OpR X (compareOp .IsNot) (fun x y H Q => y = .non ∧ Q (.bl (!decide (x = .non))) H) := by
  intro pins s σ H x y v u Q I rx ry h
  obtain ⟨rfl, q⟩ := h
  cases ry
  refine isnot_none_gen (fin_bl I q ?_)
  cases x <;> first
    | (cases rx; rfl)
    | (obtain ⟨t, rfl⟩ := rx; rfl)

theorem op_notin_str : OpR X (compareOp .NotIn) (fun x y H Q => ∃ i j, x = .str i ∧ y = .str j ∧ Q (.bl (!(!(Builtin.Str.occurrences j i 0 j.length 1).isEmpty))) H) := by
  intro pins s σ H x y v u Q I rx ry h
  obtain ⟨i, j, rfl, rfl, q⟩ := h
  obtain ⟨t, rfl⟩ := rx
  obtain ⟨t', rfl⟩ := ry
  exact notIn_str (fin_bl I q rfl)
/-- is, is not of two objects that are tracked lists or instances -/
def isObj : HO → Bool
  | .lst _ => true
  | .ins _ _ _ => true
  | _ => false
theorem obj_there {pins : List (Addr × Obj)} {s : Shared} {σ : St} {H : Hp} {a : Addr} {o : HO} (I : Inv X pins σ H s) (h : H a = some o) (p : isObj o = true) : ∃ ob, s.heap.get? a = some ob ∧ ob.cls ≠ .type "tuple" := by
  cases o with
  | lst xs =>
    obtain ⟨_, its, n, _, e⟩ : xs.length ≤ sizeLine ∧ ∃ (its : List Value) (n : Nat), Vals xs its ∧ s.heap.get? a = some { cls := .type "list", data := .seq its.toArray n } := I.hok a _ h
    exact ⟨_, e, (by show Value.type "list" ≠ .type "tuple"; decide +kernel)⟩
  | ins C dx fs =>
    have x := I.hok a _ h
    obtain ⟨_, _, _, e, _⟩ := x
    exact ⟨_, e, (by show Value.ref C ≠ .type "tuple"; exact fun z => by cases z)⟩
  | _ => exact absurd (show false = true from p) Bool.false_ne_true
theorem op_is_ref : OpR X (compareOp .Is) (fun x y H Q => ∃ a b oa ob, x = .ref a ∧ y = .ref b ∧ H a = some oa ∧ isObj oa = true ∧ H b = some ob ∧ isObj ob = true ∧ Q (.bl (decide (a = b))) H) := by
  intro pins s σ H x y v u Q I rx ry h
  obtain ⟨a, b, oa, ob, rfl, rfl, ha, pa, hb, pb, q⟩ := h
  cases rx
  cases ry
  obtain ⟨o1, e1, n1⟩ := obj_there I ha pa
  obtain ⟨o2, e2, _⟩ := obj_there I hb pb
  by_cases z : a = b
  · subst z
    exact wpAny_is_ref_self (fin_bl I q (by simp))
  · exact wpAny_is_ref_other z e1 e2 n1 (fin_bl I q (by simp [z]))
theorem op_isnot_ref : OpR X (compareOp .IsNot) (fun x y H Q => ∃ a b oa ob, x = .ref a ∧ y = .ref b ∧ H a = some oa ∧ isObj oa = true ∧ H b = some ob ∧ isObj ob = true ∧ Q (.bl (!decide (a = b))) H) := by
  intro pins s σ H x y v u Q I rx ry h
  obtain ⟨a, b, oa, ob, rfl, rfl, ha, pa, hb, pb, q⟩ := h
  cases rx
  cases ry
  obtain ⟨o1, e1, n1⟩ := obj_there I ha pa
  obtain ⟨o2, e2, _⟩ := obj_there I hb pb
  by_cases z : a = b
  · subst z
    exact wpAny_isNot_ref_self (fin_bl I q (by simp))
  · exact wpAny_isNot_ref_other z e1 e2 n1 (fin_bl I q (by simp [z]))

/-- two rules for one operation: by cases -/
theorem OpR.or {f : Value → Value → Sem Value} {r r' : R2} (h : OpR X f r) (h' : OpR X f r') : OpR X f (fun x y H Q => r x y H Q ∨ r' x y H Q) := by
  intro pins s σ H x y v u Q I rx ry q
  rcases q with q | q
  · exact h pins s σ H x y v u Q I rx ry q
  · exact h' pins s σ H x y v u Q I rx ry q

theorem nomark (b : Expr) {op : CmpOp} (h : op ≠ .In := by decide) (h2 : op ≠ .NotIn := by decide) : behindInMarks op b = false := by
  have e1 : (op == CmpOp.In) = false := by cases op <;> first | rfl | exact absurd rfl h
  have e2 : (op == CmpOp.NotIn) = false := by cases op <;> first | rfl | exact absurd rfl h2
  cases b <;> simp [behindInMarks, e1, e2]
/-- a comparison as a value; hm: nomark b, or (for in, not in) by with_unfolding_all rfl -/
theorem pe_cmpR {op : CmpOp} {r : R2} (ho : OpR X (compareOp op) r) (ha : PE X a ta) (hb : PE X b tb) (hm : behindInMarks op b = false) : PE X (.Compare a [op] [b] pos) (tOp r ta tb) := by
  intro pins s σ H Q I h
  exact wpAny_Compare1 (binT ha hb I h fun v u s2 x y H2 I2 rx ry q => ho pins s2 σ H2 x y v u Q I2 rx ry q) hm
/-- a reading of a value as a test -/
def tTest (t : TE) : TT := fun σ H Q => t σ H fun x H' => ∃ k, x = .bl k ∧ Q k H'
theorem pt_cmpR {op : CmpOp} {r : R2} (ho : OpR X (compareOp op) r) (ha : PE X a ta) (hb : PE X b tb) (hm : behindInMarks op b = false) : PT X (.Compare a [op] [b] pos) (tTest (tOp r ta tb)) := by
  intro pins s σ H Q I h
  refine wpAny_isTrue_Compare1 (thn (ha pins s σ H _ I h) fun v s1 ⟨x, H1, I1, r1, q1⟩ => thn (hb pins s1 σ H1 _ I1 q1) fun u s2 ⟨y, H2, I2, r2, q2⟩ =>
    thn (ho pins s2 σ H2 x y v u _ I2 r1 r2 q2) fun c s3 ⟨z, H3, I3, r3, k, e, q3⟩ => ?_) hm
  subst e
  cases r3
  exact wpAny_truthy_bool ⟨H3, I3, q3⟩
/-- a op1 b op2 c -/
def tChain (r r' : R2) (ta tb tc : TE) : TE := fun σ H Q => ta σ H fun x H1 => tb σ H1 fun y H2 => r x y H2 fun z H3 => ∃ k, z = .bl k ∧
  (if k = true then tc σ H3 fun w' H4 => r' y w' H4 Q else Q (.bl false) H3)
theorem pe_chain {op op' : CmpOp} {r r' : R2} (ho : OpR X (compareOp op) r) (ho' : OpR X (compareOp op') r') (ha : PE X a ta) (hb : PE X b tb) (hc : PE X c tc)
    (hm : lastMarks [op, op'] [b, c] = false := by with_unfolding_all rfl) : PE X (.Compare a [op, op'] [b, c] pos) (tChain r r' ta tb tc) := by
  intro pins s σ H Q I h
  refine Compare_chain (thn (ha pins s σ H _ I h) fun v s1 ⟨x, H1, I1, r1, q1⟩ => chain_link (thn (hb pins s1 σ H1 _ I1 q1) fun u s2 ⟨y, H2, I2, r2, q2⟩ =>
    thn (ho pins s2 σ H2 x y v u _ I2 r1 r2 q2) fun d s3 ⟨z, H3, I3, r3, k, e, q3⟩ => ?_)) hm
  subst e
  cases r3
  refine wpAny_truthy_bool ?_
  cases k with
  | false => exact ite_ff ⟨.bl false, H3, I3, rfl, q3⟩
  | true => exact ite_tt (chain_last (thn (hc pins s3 σ H3 _ I3 q3) fun w' s4 ⟨z', H4, I4, r4, q4⟩ => ho' pins s4 σ H4 y z' u w' Q I4 r2 r4 q4))
theorem pt_chain {op op' : CmpOp} {r r' : R2} (ho : OpR X (compareOp op) r) (ho' : OpR X (compareOp op') r') (ha : PE X a ta) (hb : PE X b tb) (hc : PE X c tc)
    (hm : lastMarks [op, op'] [b, c] = false := by with_unfolding_all rfl) : PT X (.Compare a [op, op'] [b, c] pos) (tTest (tChain r r' ta tb tc)) := by
  intro pins s σ H Q I h
  refine isTrue_chain (thn (ha pins s σ H _ I h) fun v s1 ⟨x, H1, I1, r1, q1⟩ => test_link (thn (hb pins s1 σ H1 _ I1 q1) fun u s2 ⟨y, H2, I2, r2, q2⟩ =>
    thn (ho pins s2 σ H2 x y v u _ I2 r1 r2 q2) fun d s3 ⟨z, H3, I3, r3, k, e, q3⟩ => ?_)) hm
  subst e
  cases r3
  refine wpAny_truthy_bool ?_
  cases k with
  | false =>
    obtain ⟨k', e', q'⟩ := q3
    cases e'
    exact ite_ff ⟨H3, I3, q'⟩
  | true =>
    refine ite_tt (test_last (thn (hc pins s3 σ H3 _ I3 q3) fun w' s4 ⟨z', H4, I4, r4, q4⟩ => thn (ho' pins s4 σ H4 y z' u w' _ I4 r2 r4 q4) fun d' s5 ⟨z2, H5, I5, r5, k2, e2, q5⟩ => ?_))
    subst e2
    cases r5
    exact wpAny_truthy_bool ⟨H5, I5, q5⟩

/-! ### truth -/
/-- a value's truth by the abstract heap -/
def TruV (K : PySem.W.Frag) (x : V) (H : Hp) (k : Bool) : Prop :=
  match x with
  | .non => k = false
  | .bl b => k = b
  | .int i => k = (i != 0)
  | .str y => y.length ≤ sizeLine ∧ k = ((y.length : Int) != 0)
  | .byt y => y.size ≤ sizeLine ∧ k = ((y.size : Int) != 0)
  | .ref p => (∃ xs, SqL K H p xs ∧ k = !xs.isEmpty) ∨ (∃ xs, SqT K H p xs ∧ k = !xs.isEmpty) ∨ ∃ kvs, H p = some (.dK kvs) ∧ k = !kvs.isEmpty
  | _ => False
theorem isEmpty_kv {κ : Type} {kvs : List (κ × V)} {vs : List (κ × Value)} (r : KV kvs vs) : (!vs.isEmpty) = !kvs.isEmpty := by
  cases r <;> rfl
theorem isEmpty_of {xs : List V} {its : List Value} (r : Vals xs its) : (!its.toArray.isEmpty) = !xs.isEmpty := by
  cases r <;> simp
theorem line63 : (sizeLine : Nat) < 2 ^ 63 := by rw [sizeLine_eq]; decide
theorem tru_ok : TruR X (fun x H Q => ∃ k, TruV X.K x H k ∧ Q k H) := by
  intro pins s σ H x v Q I rx h
  obtain ⟨k, e, q⟩ := h
  have hl := line63
  have hs : sizeLine = 16777216 := sizeLine_eq
  cases x with
  | non =>
    cases rx
    have e' : k = false := e
    subst e'
    exact truthy_none ⟨H, I, q⟩
  | bl b =>
    cases rx
    have e' : k = b := e
    subst e'
    exact wpAny_truthy_bool ⟨H, I, q⟩
  | int i =>
    obtain ⟨t, rfl⟩ := rx
    have e' : k = (i != 0) := e
    subst e'
    exact PySem.P.truthy_int ⟨H, I, q⟩
  | str y =>
    obtain ⟨t, rfl⟩ := rx
    obtain ⟨hy, e'⟩ : y.length ≤ sizeLine ∧ k = ((y.length : Int) != 0) := e
    subst e'
    exact PySem.P.truthy_str (by omega) ⟨H, I.tok _, q⟩
  | byt y =>
    obtain ⟨t, rfl⟩ := rx
    obtain ⟨hy, e'⟩ : y.size ≤ sizeLine ∧ k = ((y.size : Int) != 0) := e
    subst e'
    exact PySem.W.truthy_bytes (by omega) ⟨H, I.tok _, q⟩
  | ref p =>
    cases rx
    have e' : (∃ xs, SqL X.K H p xs ∧ k = !xs.isEmpty) ∨ (∃ xs, SqT X.K H p xs ∧ k = !xs.isEmpty) ∨ ∃ kvs, H p = some (.dK kvs) ∧ k = !kvs.isEmpty := e
    rcases e' with ⟨xs, hx, e'⟩ | ⟨xs, hx, e'⟩ | ⟨kvs, hx, e'⟩
    · subst e'
      obtain ⟨its, r, pl, hz⟩ := I.list hx
      have hlen := r.length
      exact wpAny_truthy_list pl.isList (by simp only [List.size_toArray]; omega) ⟨H, I.tok _, by rw [isEmpty_of r]; exact q⟩
    · subst e'
      obtain ⟨its, r, pl, hz⟩ := I.tuple hx
      have hlen := r.length
      exact truthy_tuple pl (by simp only [List.size_toArray]; omega) ⟨H, I.tok _, by rw [isEmpty_of r]; exact q⟩
    · subst e'
      obtain ⟨hz, hS, vs, r, m⟩ : kvs.length ≤ sizeLine ∧ (p == sysModules) = false ∧ ∃ vs, KV kvs vs ∧ s.heap.DictOf (mixKind X.prog X.w) p vs := I.hok p _ hx
      have hlen : kvs.length = vs.length := Paired.length r
      exact wpAny_truthy_dict hS m (by omega) ⟨H, I.tok _, by rw [isEmpty_kv r]; exact q⟩
  | _ => exact (show False from e).elim
/-- any expression whose test is its value's truth (a name, a call, a subscript, a field ..: he by fun _ => rfl) -/
theorem pt_truth (ha : PE X a ta) (he : ∀ whole, isTrue a X.env whole = (do let v ← whole; standAt a.pos; holding [v] (truthy v))) :
    PT X a (fun σ H Q => ta σ H fun x H' => ∃ k, TruV X.K x H' k ∧ Q k H') := by
  intro pins s σ H Q I h
  exact isTrue_plain (thn (ha pins s σ H _ I h) fun v s1 ⟨x, H1, I1, r1, q1⟩ => tru_ok pins s1 σ H1 x v Q I1 r1 q1) (he _)

/-! ### strs and bytes -/
theorem pe_byt {x : List UInt8} {k : Nat} : PE X (.Constant (.bytes x) k pos) (fun _ H Q => Q (.byt x.toArray) H) := fun _ _ _ H _ I h => PySem.W.Constant_bytes ⟨.byt x.toArray, H, I.tok _, ⟨_, rfl⟩, h⟩
theorem op_add_str : OpR X (binaryOp .Add) (fun x y H Q => ∃ i j, x = .str i ∧ y = .str j ∧ i.length + j.length ≤ sizeLine ∧ Q (.str (i ++ j)) H) := by
  intro pins s σ H x y v u Q I rx ry h
  obtain ⟨i, j, rfl, rfl, hz, q⟩ := h
  obtain ⟨t, rfl⟩ := rx
  obtain ⟨t', rfl⟩ := ry
  exact add_str (fun t' tk => ⟨.str (i ++ j), H, I.tok _, ⟨_, rfl⟩, q⟩) hz
theorem iop_add_str : OpR X (inplaceOp .Add) (fun x y H Q => ∃ i j, x = .str i ∧ y = .str j ∧ i.length + j.length ≤ sizeLine ∧ Q (.str (i ++ j)) H) := by
  intro pins s σ H x y v u Q I rx ry h
  obtain ⟨i, j, rfl, rfl, hz, q⟩ := h
  obtain ⟨t, rfl⟩ := rx
  obtain ⟨t', rfl⟩ := ry
  exact iadd_str (fun t' tk => ⟨.str (i ++ j), H, I.tok _, ⟨_, rfl⟩, q⟩) hz
theorem op_add_byt : OpR X (binaryOp .Add) (fun x y H Q => ∃ i j, x = .byt i ∧ y = .byt j ∧ i.size + j.size ≤ 16777216 ∧ Q (.byt (i ++ j)) H) := by
  intro pins s σ H x y v u Q I rx ry h
  obtain ⟨i, j, rfl, rfl, hz, q⟩ := h
  obtain ⟨t, rfl⟩ := rx
  obtain ⟨t', rfl⟩ := ry
  exact PySem.W.KBy.add_bytes hz (fun t' tk => ⟨.byt (i ++ j), H, I.tok _, ⟨_, rfl⟩, q⟩)

def PlainIxT (b : Expr) : Prop := ∀ o i, subscripted b false o i = operate [o, i] (getItem o i)
/-- s[i], 0 ≤ i < len -/
theorem pe_item_str (ha : PE X a ta) (hb : PE X b tb) (hs : PlainIxT b) :
    PE X (.Subscript a b pos) (tOp (fun x y H Q => ∃ z i c, x = .str z ∧ y = .int i ∧ 0 ≤ i ∧ i < 2 ^ 63 ∧ i < z.length ∧ z.cps[i.toNat]? = some c ∧ Q (.str ⟨#[c]⟩) H) ta tb) := by
  intro pins s σ H Q I h
  refine Subscript_ (binT ha hb I h fun v u s2 x y H2 I2 rx ry q => ?_)
  obtain ⟨z, i, c, rfl, rfl, h0, h63, h1, hc, q⟩ := q
  obtain ⟨t, rfl⟩ := rx
  obtain ⟨t', rfl⟩ := ry
  have e : seqIndex? i z.length = some i.toNat := PySem.StrLaws.seqIndex_nonneg h0 h1
  exact tail_any (typeIs_str s2 z t) slot_str_getitem.lookup (getItem_str (c := c) (by
    have e1 : decide (i < -(2 ^ 63 : Int)) = false := decide_eq_false (by omega)
    have e2 : decide (i ≥ 2 ^ 63) = false := decide_eq_false (by omega)
    rw [e1, e2] <;> rfl) (by rw [e]; exact hc) ⟨.str ⟨#[c]⟩, H2, I2.tok _, ⟨_, rfl⟩, q⟩) (hs _ _)
/-- b[i], 0 ≤ i < len -/
theorem pe_item_byt (ha : PE X a ta) (hb : PE X b tb) (hs : PlainIxT b) :
    PE X (.Subscript a b pos) (tOp (fun x y H Q => ∃ (z : List UInt8) (i : Int), x = .byt z.toArray ∧ y = .int i ∧ z.length ≤ sizeLine ∧ 0 ≤ i ∧ i < z.length ∧ Q (.int ((z.getD i.toNat 0).toNat : Nat)) H) ta tb) := by
  intro pins s σ H Q I h
  refine Subscript_ (binT ha hb I h fun v u s2 x y H2 I2 rx ry q => ?_)
  obtain ⟨z, i, rfl, rfl, hz, h0, h1, q⟩ := q
  obtain ⟨t, rfl⟩ := rx
  obtain ⟨t', rfl⟩ := ry
  have hl : sizeLine = 16777216 := sizeLine_eq
  exact tail_any (PySem.W.typeIs_bytes s2 z.toArray t) PySem.W.FB.slot_bytes_getitem.lookup (PySem.W.getItem_bytes (by omega) h0 h1 ⟨.int ((z.getD i.toNat 0).toNat : Nat), H2, I2.tok _, ⟨_, rfl⟩, q⟩) (hs _ _)

/-! ### scalar builtins, by CallR -/
theorem vals1 {x : V} {us : List Value} (r : Vals [x] us) : ∃ u, us = [u] ∧ RelV x u := by
  cases r with
  | cons r1 r2 => cases r2; exact ⟨_, rfl, r1⟩
theorem vals2 {x y : V} {us : List Value} (r : Vals [x, y] us) : ∃ u w', us = [u, w'] ∧ RelV x u ∧ RelV y w' := by
  cases r with
  | cons r1 r2 =>
    cases r2 with
    | cons r3 r4 => cases r4; exact ⟨_, _, rfl, r1, r3⟩
theorem call_abs : CallR X (.builtin "abs") (fun xs H Q => ∃ i, xs = [.int i] ∧ Q (.int (if i < 0 then -i else i)) H) := by
  intro pins s σ H xs us Q I r h
  obtain ⟨i, rfl, q⟩ := h
  obtain ⟨u, rfl, t, rfl⟩ := vals1 r
  exact call_abs_int fun u tk => ⟨.int (if i < 0 then -i else i), H, I.tok _, ⟨_, rfl⟩, q⟩
theorem call_max2 (hc : X.calm = true) : CallR X (.builtin "max") (fun xs H Q => ∃ i j, xs = [.int i, .int j] ∧ Q (.int (if j > i then j else i)) H) := by
  intro pins s σ H xs us Q I r h
  obtain ⟨i, j, rfl, q⟩ := h
  obtain ⟨u, w', rfl, ⟨t, rfl⟩, ⟨t', rfl⟩⟩ := vals2 r
  refine max_two_ints (I.ok.hd hc) fun h' tk k => ⟨_, H, I.kept k, ?_, q⟩
  by_cases hj : j > i
  · rw [if_pos hj, if_pos hj]; exact ⟨_, rfl⟩
  · rw [if_neg hj, if_neg hj]; exact ⟨_, rfl⟩
theorem call_min2 (hc : X.calm = true) : CallR X (.builtin "min") (fun xs H Q => ∃ i j, xs = [.int i, .int j] ∧ Q (.int (if j < i then j else i)) H) := by
  intro pins s σ H xs us Q I r h
  obtain ⟨i, j, rfl, q⟩ := h
  obtain ⟨u, w', rfl, ⟨t, rfl⟩, ⟨t', rfl⟩⟩ := vals2 r
  refine min_two_ints (I.ok.hd hc) fun h' tk k => ⟨_, H, I.kept k, ?_, q⟩
  by_cases hj : j < i
  · rw [if_pos hj, if_pos hj]; exact ⟨_, rfl⟩
  · rw [if_neg hj, if_neg hj]; exact ⟨_, rfl⟩
theorem call_int1 : CallR X (.type "int") (fun xs H Q => (∃ i, xs = [.int i] ∧ Q (.int i) H) ∨ ∃ k, xs = [.bl k] ∧ Q (.int (if k then 1 else 0)) H) := by
  intro pins s σ H xs us Q I r h
  rcases h with ⟨i, rfl, q⟩ | ⟨k, rfl, q⟩
  · obtain ⟨u, rfl, t, rfl⟩ := vals1 r
    exact call_int_int ⟨.int i, H, I, ⟨_, rfl⟩, q⟩
  · obtain ⟨u, rfl, r1⟩ := vals1 r
    cases r1
    exact call_int_bool ⟨.int (if k then 1 else 0), H, I.tok _, ⟨_, rfl⟩, q⟩
theorem call_bool1 : CallR X (.type "bool") (fun xs H Q => (∃ i, xs = [.int i] ∧ Q (.bl (i != 0)) H) ∨ ∃ k, xs = [.bl k] ∧ Q (.bl k) H) := by
  intro pins s σ H xs us Q I r h
  rcases h with ⟨i, rfl, q⟩ | ⟨k, rfl, q⟩
  · obtain ⟨u, rfl, t, rfl⟩ := vals1 r
    exact call_bool_int ⟨.bl (i != 0), H, I, rfl, q⟩
  · obtain ⟨u, rfl, r1⟩ := vals1 r
    cases r1
    exact call_bool_bool ⟨.bl k, H, I, rfl, q⟩
theorem call_str_int : CallR X (.type "str") (fun xs H Q => ∃ i, xs = [.int i] ∧ i.natAbs.log2 < 1920 ∧ Q (.str (toString i)) H) := by
  intro pins s σ H xs us Q I r h
  obtain ⟨i, rfl, hz, q⟩ := h
  obtain ⟨u, rfl, t, rfl⟩ := vals1 r
  exact PySem.P.str_of_int hz ⟨.str _, H, I.tok _, ⟨_, rfl⟩, q⟩
theorem call_ord : CallR X (.builtin "ord") (fun xs H Q => ∃ x, xs = [.str x] ∧ x.length = 1 ∧ Q (.int (x.cps.getD 0 0 : Nat)) H) := by
  intro pins s σ H xs us Q I r h
  obtain ⟨x, rfl, hz, q⟩ := h
  obtain ⟨u, rfl, t, rfl⟩ := vals1 r
  exact ord_of_one hz ⟨.int _, H, I.tok _, ⟨_, rfl⟩, q⟩
theorem call_chr : CallR X (.builtin "chr") (fun xs H Q => ∃ i, xs = [.int i] ∧ 0 ≤ i ∧ i ≤ 1114111 ∧ Q (.str ⟨#[i.toNat]⟩) H) := by
  intro pins s σ H xs us Q I r h
  obtain ⟨i, rfl, h0, h1, q⟩ := h
  obtain ⟨u, rfl, t, rfl⟩ := vals1 r
  exact chr_of_range h0 h1 ⟨.str _, H, I.tok _, ⟨_, rfl⟩, q⟩
/-- len of a str, a bytes, a list, a tuple -/
def LenV (K : PySem.W.Frag) (x : V) (H : Hp) (n : Nat) : Prop :=
  match x with
  | .str y => y.length ≤ sizeLine ∧ n = y.length
  | .byt y => y.size ≤ sizeLine ∧ n = y.size
  | .ref p => (∃ xs, SqL K H p xs ∧ n = xs.length) ∨ ∃ xs, SqT K H p xs ∧ n = xs.length
  | _ => False
theorem call_len : CallR X (.builtin "len") (fun xs H Q => ∃ x n, xs = [x] ∧ LenV X.K x H n ∧ Q (.int n) H) := by
  intro pins s σ H xs us Q I r h
  obtain ⟨x, n, rfl, e, q⟩ := h
  obtain ⟨u, rfl, rx⟩ := vals1 r
  have hl := line63
  have hs : sizeLine = 16777216 := sizeLine_eq
  cases x with
  | str y =>
    obtain ⟨t, rfl⟩ := rx
    obtain ⟨hy, e'⟩ : y.length ≤ sizeLine ∧ n = y.length := e
    subst e'
    exact len_str (by omega) ⟨.int _, H, I.tok _, ⟨_, rfl⟩, q⟩
  | byt y =>
    obtain ⟨t, rfl⟩ := rx
    obtain ⟨hy, e'⟩ : y.size ≤ sizeLine ∧ n = y.size := e
    subst e'
    exact PySem.W.len_bytes (by omega) ⟨.int _, H, I.tok _, ⟨_, rfl⟩, q⟩
  | ref p =>
    cases rx
    have e' : (∃ xs, SqL X.K H p xs ∧ n = xs.length) ∨ ∃ xs, SqT X.K H p xs ∧ n = xs.length := e
    rcases e' with ⟨xs, hx, e'⟩ | ⟨xs, hx, e'⟩
    · subst e'
      obtain ⟨its, r', pl, hz⟩ := I.list hx
      have hlen := r'.length
      exact Calls.call_len_list pl.isList (by simp only [List.size_toArray]; omega) ⟨.int xs.length, H, I.tok _, ⟨_, by simp only [List.size_toArray]; rw [hlen]⟩, q⟩
    · subst e'
      obtain ⟨its, r', pl, hz⟩ := I.tuple hx
      have hlen := r'.length
      exact len_tuple pl (by simp only [List.size_toArray]; omega) ⟨.int xs.length, H, I.tok _, ⟨_, by simp only [List.size_toArray]; rw [hlen]⟩, q⟩
  | _ => exact (show False from e).elim
/-- divmod: a new tuple -/
theorem call_divmod : CallR X (.builtin "divmod") (fun xs H Q => ∃ i j, xs = [.int i, .int j] ∧ CDiv i j ∧ ∀ p, H p = none → Q (.ref p) (upd H p (.tup [.int (i / j), .int (i % j)]))) := by
  intro pins s σ H xs us Q I r h
  obtain ⟨i, j, rfl, ⟨h1, h2⟩, q⟩ := h
  obtain ⟨u, w', rfl, ⟨t, rfl⟩, ⟨t', rfl⟩⟩ := vals2 r
  refine divmod_int (by omega) ?_ (.inl (PyProof.noPylong_small (by omega)))
  rw [Int.fdiv_eq_ediv_of_nonneg i (by omega), Int.fmod_eq_emod_of_nonneg i (by omega)]
  have hn : H s.heap.objs.size = none := I.hok.fresh (Nat.le_refl _)
  refine ⟨.ref s.heap.objs.size, _, ?_, rfl, q _ hn⟩
  refine I.laid (fun b o e => Heap.get?_push_of_some _ e) (Nat.le_refl _) ⟨by simp only [List.length_cons, List.length_nil]; rw [sizeLine_eq]; decide, [.int (i / j) s.toks, .int (i % j) (s.toks + 1)], .cons ⟨_, rfl⟩ (.cons ⟨_, rfl⟩ .nil), ?_⟩
  exact ⟨_, Heap.get?_push_size s.heap rfl, rfl, 0, rfl⟩
end
end L2

namespace L2
open PySem PySem.Spec PyProof.Rows

/-! ### an instance, its attributes a map -/
structure ObjM (h : Heap) (x dx C : Addr) (mA : Str → Option Value) : Prop where
  obj : h.get? x = some (PySem.W.instObj C dx)
  ns : h.Ns1 dx mA
  ne : dx ≠ x

theorem lookIn_ns {h : Heap} {dx : Addr} {mA : Str → Option Value} (n : h.Ns1 dx mA) : ∃ od, h.get? dx = some od ∧ ∀ name, PySem.W.lookIn name od = some (mA name) := by
  obtain ⟨o, es, ep, ho, hd, hk, _, hm⟩ := n
  refine ⟨o, ho, fun name => ?_⟩
  have e := hm name
  unfold nsFind findBy at e
  rw [← Array.find?_toList] at e
  unfold PySem.W.lookIn
  rw [hd]
  dsimp only
  split
  · rename_i y q
    rw [q] at e
    exact congrArg some e
  · rename_i q
    rw [q] at e
    have a : es.toList.any (·.refKey) = false := by
      rw [List.any_eq_false]
      intro y hy
      obtain ⟨z, t, hkey⟩ := hk y (Array.mem_toList_iff.mp hy)
      simp [DictEntry.refKey, hkey]
    have a' : ¬ es.toList.any (·.refKey) = true := by rw [a]; exact Bool.false_ne_true
    rw [if_neg a']
    exact congrArg some e

theorem ObjM.look {h : Heap} {x dx C : Addr} {mA : Str → Option Value} (I : ObjM h x dx C mA) : ∃ od, PySem.W.InstAt h x (PySem.W.instObj C dx) C (some od) ∧ ∀ name, PySem.W.lookIn name od = some (mA name) :=
  let ⟨od, ho, hl⟩ := lookIn_ns I.ns
  ⟨od, ⟨I.obj, rfl, rfl, ho⟩, hl⟩

section
variable {prog : Program} {w : World} {A : Around} {E : Value → Shared → Prop} {s : Shared} {K : PySem.W.Frag} {x dx C f : Addr} {mA : Str → Option Value} {name : Str} {v : Value}

theorem get_map {expr : Bool} {Q : Value → Shared → Prop} (X : K.In s.heap) (I : ObjM s.heap x dx C mA) (hg : PySem.W.plainGet K C name = true) (hh : PySem.W.hasDictIn K C = true)
    (ha : PySem.W.findIn K (.ref C) name = some none) (hv : mA name = some v) (hv' : PySem.W.handedIn v = true) (h : Q v { s with toks := s.toks + 1 }) :
    wpAny (model prog w) A (getAttr (.ref x) name expr) Q E s := by
  obtain ⟨od, J, hl⟩ := I.look
  exact PySem.W.get_value X J (PySem.W.plainGet_of hg).1 (PySem.W.findObj_own hh ha rfl (by rw [hl, hv])) hv' h

theorem get_const {expr : Bool} {a : Value} {Q : Value → Shared → Prop} (X : K.In s.heap) (I : ObjM s.heap x dx C mA) (hg : PySem.W.plainGet K C name = true) (hh : PySem.W.hasDictIn K C = true)
    (ha : PySem.W.findIn K (.ref C) name = some (some a)) (hn : PySem.W.specialIn K a "__get__" = some none) (hc : PySem.W.copiedNames.contains name = false) (hv : mA name = none) (hv' : PySem.W.handedIn a = true)
    (h : Q a { s with toks := s.toks + 1 }) : wpAny (model prog w) A (getAttr (.ref x) name expr) Q E s := by
  obtain ⟨od, J, hl⟩ := I.look
  exact PySem.W.get_value X J (PySem.W.plainGet_of hg).1 (PySem.W.findObj_cls hh ha hn hv' hc (by rw [hl, hv])) hv' h

theorem get_meth {pl : Sem Bool} {Q : Value × List Value → Shared → Prop} (X : K.In s.heap) (I : ObjM s.heap x dx C mA) (hg : PySem.W.plainGet K C name = true)
    (hf : PySem.W.findIn K (.ref C) name = some (some (.ref f))) (ht : PySem.W.isFn K (.ref f) = true) (hv : mA name = none) (h : Q (.ref f, [.ref x]) s) :
    wpAny (model prog w) A (getMethod (.ref x) name pl) Q E s := by
  obtain ⟨od, J, hl⟩ := I.look
  exact PySem.W.method_fn X J (PySem.W.plainGet_of hg).1 (PySem.W.plainGet_of hg).2 hf (beq_iff_eq.mp ht) (by show (PySem.W.lookIn name od).map (·.isSome) = some false; rw [hl, hv]; rfl) h

theorem set_map {ns : List Str} {Q : Unit → Shared → Prop} (X : K.In s.heap) (I : ObjM s.heap x dx C mA)
    (hs : PySem.W.findIn K (.ref C) "__setattr__" = some (some (.builtin "object.__setattr__"))) (hp : PySem.W.plainOver K C = true) (ht : PySem.W.takerIn K C name = some none) (hh : PySem.W.hasDictIn K C = true)
    (hw : PySem.Within mA ns) (hsz : ns.length ≤ sizeLine)
    (h : ∀ h', ObjM h' x dx C (fun y => if y = name then some v else mA y) → Heap.SameBut dx s.heap h' → Q () { s with heap := h', toks := s.toks + 2 }) :
    wpAny (model prog w) A (setAttr (.ref x) name v) Q E s := by
  obtain ⟨od, J, hl⟩ := I.look
  refine PySem.W.set_plain X J hs (PySem.W.osa_open (s := { s with toks := s.toks + 1 }) (r := none) X J hp ht fun b => ?_)
  obtain ⟨cd, hc, hd'⟩ := PySem.W.any_some hh
  have hx : s.heap.get? x = some ⟨.ref C, some dx, .plain, #[]⟩ := I.obj
  refine wpAny_bind (wpAny_pure (wpAny_bind (wpAny_bind (wpAny_loadPart hx (wpAny_bind (PySem.W.Looks.here (s := { s with toks := s.toks + 1 }) (PySem.W.looks_clsIn X hc) ?_))))))
  rw [hd']
  refine wpAny_pure (a := some dx) (wpAny_bind (wpAny_pure (wpAny_bind ?_)))
  refine wpAny_nsSet1 (s := { s with toks := s.toks + 1 }) I.ns fun h' hn2 hs2 => ?_
  obtain ⟨oD, esD, epD, hoD, hdD, hcD⟩ := hn2.count (PySem.Within.cons name v hw)
  refine wpAny_bind (wpAny_lookBehind hoD (by rw [hdD]; exact pastItsLine_dict (Nat.le_trans hcD (by rw [List.length_cons]; omega))) ?_)
  exact wpAny_pure (h _ ⟨(hs2.2 _ (Ne.symm I.ne)).trans I.obj, hn2, I.ne⟩ hs2)

/-- C(..): the dict at the heap's end, the instance behind it; then its __init__ -/
theorem make_map {R : Result → Shared → Prop} {vs : List Value} {kw : List (Str × Value)} (X : K.In s.heap) (hm : PySem.W.makesIn K C = true)
    (hi : PySem.W.findIn K (.ref C) "__init__" = some (some (.ref f))) (hf : PySem.W.typeIn K (.ref f) = some (.type "function"))
    (h : codeAny (model prog w) (A.under (.builtin "type.__call__" ⟨.ref C :: vs, kw⟩)) (.call (.ref f) ⟨.ref (s.heap.objs.size + 1) :: vs, kw⟩) (PySem.W.InitBack (s.heap.objs.size + 1) R)
      { s with heap := (s.heap.push PySem.W.emptyDict).push (PySem.W.instObj C s.heap.objs.size) }) :
    codeAny (model prog w) A (.call (.ref C) ⟨vs, kw⟩) R s := by
  obtain ⟨hh, g, d, t, os⟩ := s
  exact PySem.W.make_core (PySem.W.makes_of X hm) (PySem.W.looks_findIn X hi) (fun self => PySem.W.bind_fn X self hf) (.inl rfl) h
/-- C() where there is no __init__ but object's -/
theorem make_map0 {R : Result → Shared → Prop} (X : K.In s.heap) (hm : PySem.W.makesIn K C = true)
    (hi : PySem.W.findIn K (.ref C) "__init__" = some (some (.builtin "object.__init__")))
    (hb : ∀ self, PySem.W.Looks (model prog w) s.heap (bindSpecial (.builtin "object.__init__") self) (.builtin "object.__init__", [self]))
    (h : codeAny (model prog w) (A.under (.builtin "type.__call__" ⟨[.ref C], []⟩)) (.call (.builtin "object.__init__") ⟨[.ref (s.heap.objs.size + 1)], []⟩) (PySem.W.InitBack (s.heap.objs.size + 1) R)
      { s with heap := (s.heap.push PySem.W.emptyDict).push (PySem.W.instObj C s.heap.objs.size) }) :
    codeAny (model prog w) A (.call (.ref C) ⟨[], []⟩) R s := by
  obtain ⟨hh, g, d, t, os⟩ := s
  exact PySem.W.make_core (PySem.W.makes_of X hm) (PySem.W.looks_findIn X hi) hb (.inr ⟨rfl, rfl⟩) h
end

/-! ### the attributes as a list of pairs -/
def putF (f : Str) (v : V) : List (Str × V) → List (Str × V)
  | [] => [(f, v)]
  | (g, x) :: r => if g = f then (g, v) :: r else (g, x) :: putF f v r
theorem lookup_putF (f g : Str) (v : V) : ∀ fs : List (Str × V), (putF f v fs).lookup g = if g = f then some v else fs.lookup g
  | [] => by
    show List.lookup g [(f, v)] = _
    by_cases h : g = f
    · have hb : (g == f) = true := beq_iff_eq.mpr h
      simp only [List.lookup, hb, if_pos h]
    · have hb : (g == f) = false := beq_eq_false_iff_ne.mpr h
      simp only [List.lookup, hb, if_neg h]
  | (k, x) :: r => by
    have ih := lookup_putF f g v r
    rw [show putF f v ((k, x) :: r) = (if k = f then (k, v) :: r else (k, x) :: putF f v r) from rfl]
    by_cases hk : k = f
    · rw [if_pos hk]
      by_cases h : g = k
      · have hb : (g == k) = true := beq_iff_eq.mpr h
        simp only [List.lookup, hb, if_pos (h.trans hk)]
      · have hb : (g == k) = false := beq_eq_false_iff_ne.mpr h
        simp only [List.lookup, hb, if_neg (fun e : g = f => h (e.trans hk.symm))]
    · rw [if_neg hk]
      by_cases h : g = k
      · have hb : (g == k) = true := beq_iff_eq.mpr h
        simp only [List.lookup, hb, if_neg (fun e : g = f => hk (h.symm.trans e))]
      · have hb : (g == k) = false := beq_eq_false_iff_ne.mpr h
        simp only [List.lookup, hb]
        exact ih
theorem keys_putF (f : Str) (v : V) : ∀ fs : List (Str × V), f ∈ (putF f v fs).map (·.1) ∧ ∀ g, g ∈ fs.map (·.1) → g ∈ (putF f v fs).map (·.1)
  | [] => ⟨by simp [putF], fun g h => by simp at h⟩
  | (k, x) :: r => by
    obtain ⟨i1, i2⟩ := keys_putF f v r
    rw [show putF f v ((k, x) :: r) = (if k = f then (k, v) :: r else (k, x) :: putF f v r) from rfl]
    by_cases hk : k = f
    · rw [if_pos hk]
      subst hk
      exact ⟨by simp, fun g h => by simpa using h⟩
    · rw [if_neg hk]
      refine ⟨?_, fun g h => ?_⟩
      · rw [List.map_cons]
        exact List.mem_cons_of_mem _ i1
      · rw [List.map_cons] at h ⊢
        rcases List.mem_cons.mp h with e | e
        · exact List.mem_cons.mpr (.inl e)
        · exact List.mem_cons_of_mem _ (i2 g e)
theorem length_putF (f : Str) (v : V) : ∀ fs : List (Str × V), (putF f v fs).length ≤ fs.length + 1
  | [] => by simp [putF]
  | (k, x) :: r => by
    have ih := length_putF f v r
    rw [show putF f v ((k, x) :: r) = (if k = f then (k, v) :: r else (k, x) :: putF f v r) from rfl]
    by_cases hk : k = f
    · rw [if_pos hk, List.length_cons, List.length_cons]; omega
    · rw [if_neg hk, List.length_cons, List.length_cons]; omega

theorem RelO.some_of {v : V} {o : Option Value} (r : RelO (some v) o) : ∃ u, o = some u ∧ RelV v u := by
  cases o with
  | none => exact (show False from r).elim
  | some u => exact ⟨u, rfl, r⟩
theorem RelO.none_of {o : Option Value} (r : RelO none o) : o = none := by
  cases o with
  | none => rfl
  | some u => exact (show False from r).elim
theorem handed_of {v : V} {u : Value} (r : RelV v u) : PySem.W.handedIn u = true := by
  cases v with
  | non => cases (show u = Value.none from r); rfl
  | bl b => cases (show u = Value.bool b from r); rfl
  | int i => obtain ⟨t, e⟩ := (show ∃ t, u = Value.int i t from r); cases e; rfl
  | str x => obtain ⟨t, e⟩ := (show ∃ t, u = Value.str x t from r); cases e; rfl
  | byt b => obtain ⟨t, e⟩ := (show ∃ t, u = Value.bytes b t from r); cases e; rfl
  | flt b => obtain ⟨t, e⟩ := (show ∃ t, u = Value.float b t from r); cases e; rfl
  | ref a => cases (show u = Value.ref a from r); rfl
  | ty n => cases (show u = Value.type n from r); rfl

section
variable {P : Program} {w : World} {H H' : Hp} {h h' : Heap} {a C dx : Addr} {fs fs' : List (Str × V)}
theorem ins_get (hok : HOk P w H h) (e : H a = some (.ins C dx fs)) : ∃ mA, ObjM h a dx C mA ∧ (∀ f, RelO (fs.lookup f) (mA f)) ∧ PySem.Within mA (fs.map (·.1)) ∧ fs.length ≤ 1000 ∧ H dx = some (.own a) := by
  obtain ⟨d, z, ne, ob, mA, n, r, q⟩ := (show ObjOk P w H h a (.ins C dx fs) from hok a _ e)
  exact ⟨mA, ⟨ob, n, ne⟩, r, q, z, d⟩
end

/-! ### what of the text a class must have -/
structure Cls (K : PySem.W.Frag) (C : Addr) : Prop where
  pg : PySem.W.plainGet K C Str.empty = true
  hd : PySem.W.hasDictIn K C = true
  po : PySem.W.plainOver K C = true
  sa : PySem.W.findIn K (.ref C) "__setattr__" = some (some (.builtin "object.__setattr__"))
theorem Cls.get {K : PySem.W.Frag} {C : Addr} (c : Cls K C) (f : Str) : PySem.W.plainGet K C f = true := c.pg
/-- no class of it has the name -/
def NoAttr (K : PySem.W.Frag) (C : Addr) (f : Str) : Prop := PySem.W.findIn K (.ref C) f = some none
theorem NoAttr.taker {K : PySem.W.Frag} {C : Addr} {f : Str} (n : NoAttr K C f) : PySem.W.takerIn K C f = some none := by
  unfold PySem.W.takerIn
  rw [show PySem.W.findIn K (.ref C) f = some none from n]
  rfl
/-- a constant of the class -/
structure Con (K : PySem.W.Frag) (C : Addr) (f : Str) (v : V) (u : Value) : Prop where
  at_ : PySem.W.findIn K (.ref C) f = some (some u)
  rel : RelV v u
  get : PySem.W.specialIn K u "__get__" = some none
  cp : PySem.W.copiedNames.contains f = false
/-- a method: a plain def of the class or of one above it -/
structure Meth (K : PySem.W.Frag) (C : Addr) (m : Str) (f : Addr) : Prop where
  at_ : PySem.W.findIn K (.ref C) m = some (some (.ref f))
  fn : PySem.W.isFn K (.ref f) = true
  kp : PySem.W.keepIn K (.ref f) = true

section
variable {X : Cx} {pins : List (Addr × Obj)} {σ : St} {H : Hp} {s : Shared} {a C dx : Addr} {fs : List (Str × V)} {f : Str} {v : V} {A : Around} {E : Value → Shared → Prop}

theorem getattr_ok {b : Bool} {Q : Value → Shared → Prop} (I : Inv X pins σ H s) (e : H a = some (.ins C dx fs)) (c : Cls X.K C) (n : NoAttr X.K C f) (l : fs.lookup f = some v)
    (h : ∀ u s', Inv X pins σ H s' → RelV v u → Q u s') : wpAny (model X.prog X.w) A (getAttr (.ref a) f b) Q E s := by
  obtain ⟨mA, O, r, _, _, _⟩ := ins_get I.hok e
  obtain ⟨u, hu, ru⟩ := RelO.some_of (v := v) (o := mA f) (by rw [← l]; exact r f)
  exact get_map I.kIn O (c.get f) c.hd n hu (handed_of ru) (h u _ (I.tok _) ru)

theorem getcon_ok {b : Bool} {u : Value} {Q : Value → Shared → Prop} (I : Inv X pins σ H s) (e : H a = some (.ins C dx fs)) (c : Cls X.K C) (k : Con X.K C f v u) (l : fs.lookup f = none)
    (h : ∀ s', Inv X pins σ H s' → Q u s') : wpAny (model X.prog X.w) A (getAttr (.ref a) f b) Q E s := by
  obtain ⟨mA, O, r, _, _, _⟩ := ins_get I.hok e
  have hn : mA f = none := RelO.none_of (by rw [← l]; exact r f)
  exact get_const I.kIn O (c.get f) c.hd k.at_ k.get k.cp hn (handed_of k.rel) (h _ (I.tok _))

theorem getmeth_ok {m : Str} {g : Addr} {pl : Sem Bool} {Q : Value × List Value → Shared → Prop} (I : Inv X pins σ H s) (e : H a = some (.ins C dx fs)) (c : Cls X.K C) (k : Meth X.K C m g) (l : fs.lookup m = none)
    (h : Q (.ref g, [.ref a]) s) : wpAny (model X.prog X.w) A (getMethod (.ref a) m pl) Q E s := by
  obtain ⟨mA, O, r, _, _, _⟩ := ins_get I.hok e
  have hn : mA m = none := RelO.none_of (by rw [← l]; exact r m)
  exact get_meth I.kIn O (c.get m) k.at_ k.fn hn h

theorem setattr_ok {y : V} {u : Value} {Q : Unit → Shared → Prop} (I : Inv X pins σ H s) (e : H a = some (.ins C dx fs)) (c : Cls X.K C) (n : NoAttr X.K C f) (hl : fs.length < 1000) (ry : RelV y u)
    (h : ∀ s', Inv X pins σ (upd H a (.ins C dx (putF f y fs))) s' → Q () s') : wpAny (model X.prog X.w) A (setAttr (.ref a) f u) Q E s := by
  obtain ⟨mA, O, r, wi, _, ho⟩ := ins_get I.hok e
  have hz : (fs.map (·.1)).length ≤ sizeLine := by rw [List.length_map, sizeLine_eq]; omega
  refine set_map I.kIn O c.sa c.po n.taker c.hd wi hz fun h' O' sb => h _ ?_
  have hd : ∃ o, h'.get? dx = some o := let ⟨o, _, _, e', _⟩ := O'.ns; ⟨o, e'⟩
  refine I.write (x := a) (e := dx) (by rw [e]; exact True.intro) (.inr ho) (fun b q hb z => (sb.2 b hb).trans z) hd ?_
  refine ⟨by rw [upd_ne O.ne]; exact ho, ?_, O.ne, O'.obj, _, O'.ns, fun g => ?_, fun g hg => ?_⟩
  · have := length_putF f y fs; omega
  · show RelO ((putF f y fs).lookup g) (if g = f then some u else mA g)
    rw [lookup_putF]
    by_cases q : g = f
    · rw [if_pos q, if_pos q]; exact ry
    · rw [if_neg q, if_neg q]; exact r g
  · by_cases q : g = f
    · rw [q]; exact (keys_putF f y fs).1
    · refine (keys_putF f y fs).2 g (wi g fun z => hg ?_)
      show (if g = f then some u else mA g) = none
      rw [if_neg q]; exact z

/-- a new instance, tracked, without attributes -/
theorem Inv.made (I : Inv X pins σ H s) : Inv X pins σ (upd (upd H s.heap.objs.size (.own (s.heap.objs.size + 1))) (s.heap.objs.size + 1) (.ins C s.heap.objs.size []))
    { s with heap := (s.heap.push PySem.W.emptyDict).push (PySem.W.instObj C s.heap.objs.size) } := by
  have e1 : (s.heap.push PySem.W.emptyDict).get? s.heap.objs.size = some PySem.W.emptyDict := Heap.get?_push_size s.heap rfl
  have e2 : ((s.heap.push PySem.W.emptyDict).push (PySem.W.instObj C s.heap.objs.size)).get? (s.heap.objs.size + 1) = some (PySem.W.instObj C s.heap.objs.size) := by
    have := Heap.get?_push_size (s.heap.push PySem.W.emptyDict) (o := PySem.W.instObj C s.heap.objs.size) rfl
    rwa [Heap.size_push] at this
  have e3 : (s.heap.push PySem.W.emptyDict).Ns s.heap.objs.size (fun _ => none) := ⟨PySem.W.emptyDict, #[], _, e1, rfl, (fun e he => absurd he (by simp)), fun _ => rfl⟩
  have I1 := I.laid (a := s.heap.objs.size) (o := .own (s.heap.objs.size + 1)) (h' := s.heap.push PySem.W.emptyDict) (t' := s.toks) (fun b u q => Heap.get?_push_of_some _ q) (Nat.le_refl _) ⟨_, e1⟩
  refine I1.laid (a := s.heap.objs.size + 1) (o := .ins C s.heap.objs.size []) (t' := s.toks) (fun b u q => Heap.get?_push_of_some _ q) (Nat.le_of_eq (Heap.size_push _ _)) ?_
  have ne : s.heap.objs.size ≠ s.heap.objs.size + 1 := Nat.ne_of_lt (Nat.lt_succ_self _)
  refine ⟨by rw [upd_ne ne, upd_same], Nat.zero_le _, ne, e2, fun _ => none, (Heap.Ns1.of_empty e3).at fun o q => Heap.get?_push_of_some _ q, fun _ => True.intro, fun y hy => absurd rfl hy⟩

/-- e.f where nothing but the object is asked: through attributeBase (super) and the last hold -/
theorem attr_of {prog : Program} {w : World} {env : Env} {e : Expr} {f : Str} {pos : Pos} {s : Shared} {Q : Value → Shared → Prop} (hb : attributeBase e f env (eval e env) = eval e env)
    (h : wpAny (model prog w) A (eval e env) (fun o s₁ => wpAny (model prog w) A (getAttr o f true) Q E s₁) E s) : wpAny (model prog w) A (eval (.Attribute e f pos) env) Q E s :=
  Attribute_any_ h (by rw [arm_eval_Attribute, hb])
end

/-! ### readings and rules -/
/-- e.f, an attribute of the instance -/
def tFld (K : PySem.W.Frag) (ta : TE) (f : Str) : TE := fun σ H Q => ta σ H fun x H1 => ∃ a C dx fs v, x = .ref a ∧ H1 a = some (.ins C dx fs) ∧ Cls K C ∧ NoAttr K C f ∧ fs.lookup f = some v ∧ Q v H1
/-- e.f, a constant of the class -/
def tCon (K : PySem.W.Frag) (ta : TE) (f : Str) : TE := fun σ H Q => ta σ H fun x H1 => ∃ a C dx fs v u, x = .ref a ∧ H1 a = some (.ins C dx fs) ∧ Cls K C ∧ Con K C f v u ∧ fs.lookup f = none ∧ Q v H1
/-- e.f = value -/
def sFld (K : PySem.W.Frag) (ta tv : TE) (f : Str) : TS := fun D σ H => tv σ H fun y H1 => ta σ H1 fun x H2 => ∃ a C dx fs, x = .ref a ∧ H2 a = some (.ins C dx fs) ∧ Cls K C ∧ NoAttr K C f ∧ fs.length < 1000 ∧
  D.nx σ (upd H2 a (.ins C dx (putF f y fs)))
/-- an augmented operator on two values -/
def InOp (X : Cx) (op : Operator) (rd : V → V → Hp → VK → Prop) : Prop :=
  ∀ (pins : List (Addr × Obj)) (s : Shared) (σ : St) (H : Hp) (x y : V) (u v : Value) (Q : VK), Inv X pins σ H s → RelV x u → RelV y v → rd x y H Q → wpAny (model X.prog X.w) X.A (inplaceOp op u v) (EP X pins σ Q) X.xe s
/-- e.f op= value -/
def sFldAug (K : PySem.W.Frag) (ta tv : TE) (rd : V → V → Hp → VK → Prop) (f : Str) : TS := fun D σ H => ta σ H fun x H1 => ∃ a C dx fs v, x = .ref a ∧ H1 a = some (.ins C dx fs) ∧ Cls K C ∧ NoAttr K C f ∧ fs.lookup f = some v ∧
  tv σ H1 fun y H2 => rd v y H2 fun z H3 => ∃ dx' fs', H3 a = some (.ins C dx' fs') ∧ fs'.length < 1000 ∧ D.nx σ (upd H3 a (.ins C dx' (putF f z fs')))

section
variable {X : Cx} {o e value : Expr} {f : Str} {pos pos' tpos : Pos} {ta tv : TE}
theorem pe_fld (he : PE X e ta) (hb : attributeBase e f X.env (eval e X.env) = eval e X.env) : PE X (.Attribute e f pos) (tFld X.K ta f) := by
  intro pins s σ H Q I h
  refine attr_of hb (thn (he pins s σ H _ I h) fun u s1 ⟨x, H1, I1, rx, a, C, dx, fs, v, ex, ea, c, n, l, q⟩ => ?_)
  subst ex
  obtain rfl : u = Value.ref a := rx
  exact getattr_ok I1 ea c n l fun u' s2 I2 ru => ⟨v, H1, I2, ru, q⟩
theorem pe_con (he : PE X e ta) (hb : attributeBase e f X.env (eval e X.env) = eval e X.env) : PE X (.Attribute e f pos) (tCon X.K ta f) := by
  intro pins s σ H Q I h
  refine attr_of hb (thn (he pins s σ H _ I h) fun u s1 ⟨x, H1, I1, rx, a, C, dx, fs, v, u0, ex, ea, c, k, l, q⟩ => ?_)
  subst ex
  obtain rfl : u = Value.ref a := rx
  exact getcon_ok I1 ea c k l fun s2 I2 => ⟨v, H1, I2, k.rel, q⟩
theorem ps_fld (ha : PE X o ta) (hv : PE X value tv) (hs : swapsWith value (some (.Attribute o f pos')) pos.line X.env = pure false) : PS X (.Assign [.Attribute o f pos'] value pos) (sFld X.K ta tv f) := by
  intro pins s σ H D I h
  refine plainObj_wpAny_Assign_Attribute (thn (hv pins s σ H _ I h) fun u s1 ⟨y, H1, I1, ry, q⟩ => thn (ha pins s1 σ H1 _ I1 q) fun ov s2 ⟨x, H2, I2, rx, a, C, dx, fs, ex, ea, c, n, l, q2⟩ => ?_) hs
  subst ex
  obtain rfl : ov = Value.ref a := rx
  exact setattr_ok I2 ea c n l ry fun s3 I3 => ⟨σ, _, I3, q2⟩
theorem ps_fldaug {op : Operator} {rd : V → V → Hp → VK → Prop} (ha : PE X o ta) (hv : PE X value tv) (hop : InOp X op rd) : PS X (.AugAssign (.Attribute o f tpos) op value pos) (sFldAug X.K ta tv rd f) := by
  intro pins s σ H D I h
  refine wpAny_AugAssign_AttributeAny (thn (ha pins s σ H _ I h) fun ov s1 ⟨x, H1, I1, rx, a, C, dx, fs, v, ex, ea, c, n, l, q⟩ => ?_)
  subst ex
  obtain rfl : ov = Value.ref a := rx
  refine getattr_ok I1 ea c n l fun u s2 I2 ru => thn (hv pins s2 σ H1 _ I2 q) fun w3 s3 ⟨y, H2, I3, ry, q3⟩ => thn (hop pins s3 σ H2 v y u w3 _ I3 ru ry q3) fun w4 s4 ⟨z, H3, I4, rz, dx', fs', ea', l', q4⟩ => ?_
  exact setattr_ok I4 ea' c n l' rz fun s5 I5 => ⟨σ, _, I5, q4⟩
def rAdd : V → V → Hp → VK → Prop := fun x y H Q => ∃ i j, x = .int i ∧ y = .int j ∧ Q (.int (i + j)) H
def rSub : V → V → Hp → VK → Prop := fun x y H Q => ∃ i j, x = .int i ∧ y = .int j ∧ Q (.int (i - j)) H
theorem in_add : InOp X .Add rAdd := by
  rintro pins s σ H x y u v Q I rx ry ⟨i, j, rfl, rfl, q⟩
  obtain ⟨t, rfl⟩ := (show ∃ t, u = Value.int i t from rx)
  obtain ⟨t', rfl⟩ := (show ∃ t', v = Value.int j t' from ry)
  exact PyProof.Rows.iadd_int ⟨.int (i + j), H, I.tok _, ⟨_, rfl⟩, q⟩
theorem in_sub : InOp X .Sub rSub := by
  rintro pins s σ H x y u v Q I rx ry ⟨i, j, rfl, rfl, q⟩
  obtain ⟨t, rfl⟩ := (show ∃ t, u = Value.int i t from rx)
  obtain ⟨t', rfl⟩ := (show ∃ t', v = Value.int j t' from ry)
  exact PyProof.Rows.isub_int ⟨.int (i - j), H, I.tok _, ⟨_, rfl⟩, q⟩

/-- what is between an instance and its method: the tree of a method call -/
theorem methcall_of {pl : Sem Bool} {m : Str} {apos : Pos} {args : List Expr} {pins : List (Addr × Obj)} {s : Shared} {σ : St} {H : Hp} {Q : Value → Shared → Prop} {te : TE} (he : PE X e te) (I : Inv X pins σ H s)
    (h : te σ H fun x H1 => ∃ a C dx fs g, x = .ref a ∧ H1 a = some (.ins C dx fs) ∧ Cls X.K C ∧ Meth X.K C m g ∧ fs.lookup m = none ∧
      ∀ s1, Inv X pins σ H1 s1 → wpAny (model X.prog X.w) X.A (callWith pos (.ref g) [.ref a] (backTo pos (starEach args X.env)) (backToKw pos (keywordEach [] X.env))) Q X.xe s1)
    (ht : eval (.Call (.Attribute e m apos) args [] pos) X.env = (do
      let ov ← eval e X.env
      standAt apos.atName
      let (f, first) ← holding [ov] (getMethod ov m pl)
      callWith pos f first (backTo pos (starEach args X.env)) (backToKw pos (keywordEach [] X.env)))) :
    wpAny (model X.prog X.w) X.A (eval (.Call (.Attribute e m apos) args [] pos) X.env) Q X.xe s := by
  refine PySem.W.methodCall_KW (pl := pl) (thn (he pins s σ H _ I h) fun u s1 ⟨x, H1, I1, rx, a, C, dx, fs, g, ex, ea, c, k, l, q⟩ => ?_) ht
  subst ex
  obtain rfl : u = Value.ref a := rx
  exact getmeth_ok I1 ea c k l (q s1 I1)
end

/-! ### isinstance -/
section
variable {X : Cx} {pins : List (Addr × Obj)} {σ : St} {H : Hp} {s : Shared} {A : Around} {E : Value → Shared → Prop} {Q : Value → Shared → Prop} {c : Value} {b : Bool}
/-- the type of a value, as the fragment's deciders take it; for an instance its class -/
inductive TyOf (K : PySem.W.Frag) (H : Hp) : V → Value → Prop where
  | non : TyOf K H .non (.type "NoneType")
  | bl (x : Bool) : TyOf K H (.bl x) (.type "bool")
  | int (i : Int) : TyOf K H (.int i) (.type "int")
  | str (x : Str) : TyOf K H (.str x) (.type "str")
  | flt (x : UInt64) : TyOf K H (.flt x) (.type "float")
  | lst {a : Addr} {xs : List V} (e : H a = some (.lst xs)) : TyOf K H (.ref a) (.type "list")
  | frz {a : Addr} {o : Obj} {xs : List V} (e : H a = some (.frz o (.lst xs))) : TyOf K H (.ref a) (.type "list")
  | tup {a : Addr} {xs : List V} (e : H a = some (.tup xs)) : TyOf K H (.ref a) (.type "tuple")
  | dK {a : Addr} {kvs : List (Key × V)} (e : H a = some (.dK kvs)) : TyOf K H (.ref a) (.type "dict")
  | dT {a : Addr} {kvs : List (List Key × V)} (e : H a = some (.dT kvs)) : TyOf K H (.ref a) (.type "dict")
  | ins {a C dx : Addr} {fs : List (Str × V)} (e : H a = some (.ins C dx fs)) (cl : Cls K C) (ha : PySem.W.findIn K (.ref C) "__class__" = some (some (.builtin "object.__class__")))
      (hn : PySem.W.specialIn K (.builtin "object.__class__") "__get__" = some (some (.builtin "getset_descriptor.__get__"))) (htk : PySem.W.takesIn K (.builtin "object.__class__") = some true)
      (hm : PySem.W.mroIn K C (.type "object") = some true) : TyOf K H (.ref a) (.ref C)
/-- isinstance(x, c) for one class c, a built-in or an own one: kitOne's answer -/
theorem isinst_ok {x : V} {u t : Value} (I : Inv X pins σ H s) (rx : RelV x u) (ty : TyOf X.K H x t) (e : PySem.W.kitOne X.K t c = some b) (h : ∀ tk, Q (.bool b) { s with toks := tk }) :
    wpAny (model X.prog X.w) A (call (.builtin "isinstance") [u, c]) Q E s := by
  cases ty with
  | non => cases (show u = Value.none from rx); exact PySem.W.kia_one PySem.W.kitx_none I.kIn True.intro e (fun z => nomatch z) h
  | bl y => cases (show u = Value.bool y from rx); exact PySem.W.kia_one PySem.W.kitx_bool I.kIn True.intro e (fun z => nomatch z) h
  | int i => obtain ⟨t, q⟩ := (show ∃ t, u = Value.int i t from rx); cases q; exact PySem.W.kia_one PySem.W.kitx_int I.kIn True.intro e (fun z => nomatch z) h
  | str y => obtain ⟨t, q⟩ := (show ∃ t, u = Value.str y t from rx); cases q; exact PySem.W.kia_one PySem.W.kitx_str I.kIn True.intro e (fun z => nomatch z) h
  | flt y => obtain ⟨t, q⟩ := (show ∃ t, u = Value.float y t from rx); cases q; exact PySem.W.kia_one PySem.W.kitx_float I.kIn True.intro e (fun z => nomatch z) h
  | @lst a xs ea =>
    cases (show u = Value.ref a from rx)
    obtain ⟨_, _, n, _, h1⟩ := (show ObjOk X.prog X.w H s.heap a (.lst xs) from I.hok a _ ea)
    exact PySem.W.kia_one PySem.W.kitx_list I.kIn ⟨_, h1, rfl⟩ e (fun z => nomatch z) h
  | @frz a ob xs ea =>
    cases (show u = Value.ref a from rx)
    obtain ⟨_, _, _, n, _, h1⟩ := (show ObjOk X.prog X.w H s.heap a (.frz ob (.lst xs)) from I.hok a _ ea)
    exact PySem.W.kia_one PySem.W.kitx_list I.kIn ⟨_, h1, rfl⟩ e (fun z => nomatch z) h
  | @tup a xs ea =>
    cases (show u = Value.ref a from rx)
    obtain ⟨_, _, _, p⟩ := (show ObjOk X.prog X.w H s.heap a (.tup xs) from I.hok a _ ea)
    obtain ⟨o, h1, h2, _⟩ := p
    exact PySem.W.kia_one PySem.W.kitx_tuple I.kIn ⟨o, h1, h2⟩ e (fun z => nomatch z) h
  | @dK a kvs ea =>
    cases (show u = Value.ref a from rx)
    obtain ⟨_, _, vs, _, p⟩ := (show ObjOk X.prog X.w H s.heap a (.dK kvs) from I.hok a _ ea)
    obtain ⟨o, es, ep, h1, h2, _⟩ := p
    exact PySem.W.kia_one PySem.W.kitx_dict I.kIn ⟨o, h1, h2.1⟩ e (fun z => nomatch z) h
  | @dT a kvs ea =>
    cases (show u = Value.ref a from rx)
    obtain ⟨_, _, xs, _, o, es, ep, h1, h2, _⟩ := (show ObjOk X.prog X.w H s.heap a (.dT kvs) from I.hok a _ ea)
    exact PySem.W.kia_one PySem.W.kitx_dict I.kIn ⟨o, h1, h2.1⟩ e (fun z => nomatch z) h
  | @ins a C dx fs ea cl ha hn htk hm =>
    cases (show u = Value.ref a from rx)
    obtain ⟨mA, O, _⟩ := ins_get I.hok ea
    obtain ⟨od, J, _⟩ := O.look
    exact PySem.W.kia_one (PySem.W.kitx_own (cl.get _) cl.hd ha hn htk hm) I.kIn J e (fun z => nomatch z) h
end
end L2

namespace L2
open PySem PySem.Spec PyProof.Rows

/-! ### room -/
structure Room (k : Nat) (A : Around) : Prop where
  hd : A.handled = none
  dp : A.depth + 3 * k + 5 < recursionLimit
  un : A.units + 16 * k + 200 < cLine
theorem Room.mono {j k : Nat} {A : Around} (r : Room k A) (h : j ≤ k) : Room j A := ⟨r.hd, by have := r.dp; omega, by have := r.un; omega⟩
theorem Room.deeper {k : Nat} {A : Around} (r : Room (k + 1) A) (env : Env) : Room k (A.deeper env) :=
  ⟨r.hd, by have := r.dp; show A.depth + 1 + 3 * k + 5 < _; omega, by have := r.un; show A.units + 3 + 16 * k + 200 < _; omega⟩
theorem Room.in1 {k : Nat} {A : Around} (r : Room (k + 1) A) : Room k A.in1 :=
  ⟨r.hd, by have := r.dp; show A.depth + 3 * k + 5 < _; omega, by have := r.un; show A.units + 1 + 16 * k + 200 < _; omega⟩
theorem make_depth {A : Around} {C : Addr} {us : List Value} {kw : List (Str × Value)} : (A.under (.builtin "type.__call__" ⟨.ref C :: us, kw⟩)).depth = A.depth + 1 := by
  first | rfl | simp [Around.under, Code.weight, Code.isCreation, Code.isGuard, Code.isCaller, Code.frames, Code.isFrame, guardIds]
theorem make_units {A : Around} {C : Addr} {us : List Value} {kw : List (Str × Value)} : (A.under (.builtin "type.__call__" ⟨.ref C :: us, kw⟩)).units = A.units + 1 := by
  first | rfl | simp [Around.under, Code.cUnits, Code.frames, Code.isFrame]
theorem Room.make {k : Nat} {A : Around} (r : Room (k + 1) A) (C : Addr) (us : List Value) (kw : List (Str × Value)) : Room k (A.under (.builtin "type.__call__" ⟨.ref C :: us, kw⟩)) :=
  ⟨r.hd, by have := r.dp; rw [make_depth]; omega, by have := r.un; rw [make_units]; omega⟩
theorem Room.depth {k : Nat} {A : Around} (r : Room k A) : A.depth < recursionLimit := by have := r.dp; omega
theorem Room.units {k : Nat} {A : Around} (r : Room k A) : A.units + 64 < cLine := by have := r.un; omega
theorem Room.units0 {k : Nat} {A : Around} (r : Room k A) : A.units < cLine := by have := r.un; omega

/-! ### argument lists and displays -/
def tNil : TA := fun _ H Q => Q [] H
def tCons (ta : TE) (tr : TA) : TA := fun σ H Q => ta σ H fun x H1 => tr σ H1 fun xs H2 => Q (x :: xs) H2
section
variable {X : Cx} {e : Expr} {es : List Expr} {te : TE} {t : TA} {pos : Pos}
theorem pa_nil : PA X [] tNil := fun _ _ _ _ H Q I h => Calls.spliced_nil ⟨[], H, I, .nil, h⟩
theorem pa_cons (ha : PE X e te) (hr : PA X es t) (hs : starEach (e :: es) X.env = (false, eval e X.env) :: starEach es X.env := by rfl) : PA X (e :: es) (tCons te t) := by
  intro pos pins s σ H Q I h
  rw [hs]
  show wpAny _ _ (spliced ((false, eval e X.env) :: backTo pos (starEach es X.env))) _ _ s
  refine Calls.spliced_cons (thn (ha pins s σ H _ I h) fun u s1 ⟨x, H1, I1, r1, q1⟩ => ?_)
  exact thn (hr pos pins s1 σ H1 _ I1 q1) fun us s2 ⟨xs, H2, I2, r2, q2⟩ => ⟨x :: xs, H2, I2, .cons r1 r2, q2⟩

/-- a tuple, a list of written items -/
def tTup (t : TA) : TE := fun σ H Q => t σ H fun xs H1 => xs.length ≤ sizeLine ∧ ∀ p, H1 p = none → Q (.ref p) (upd H1 p (.tup xs))
def tLst (t : TA) : TE := fun σ H Q => t σ H fun xs H1 => xs.length ≤ sizeLine ∧ ∀ p, H1 p = none → Q (.ref p) (upd H1 p (.lst xs))
theorem pe_tup {x1} (h : PA X es t) : PE X (.Tuple es x1 pos) (tTup t) := by
  intro pins s σ H Q I hq
  refine wpAny_Tuple_spliced (thn (h pos pins s σ H _ I hq) fun us s1 ⟨xs, H1, I1, r, z, q⟩ => ⟨by rw [← r.length]; exact z, ?_⟩)
  have hf : H1 s1.heap.objs.size = none := I1.hok.fresh (Nat.le_refl _)
  refine ⟨.ref s1.heap.objs.size, upd H1 s1.heap.objs.size (.tup xs), I1.laid (t' := s1.toks) (fun b u e => Heap.get?_push_of_some _ e) (Nat.le_refl _) ?_, rfl, q _ hf⟩
  exact ⟨z, us, r, ⟨_, Heap.get?_push_size _ rfl, rfl, _, rfl⟩⟩
theorem pe_lst (h : PA X es t) : PE X (.List es pos) (tLst t) := by
  intro pins s σ H Q I hq
  refine wpAny_List_spliced (thn (h pos pins s σ H _ I hq) fun us s1 ⟨xs, H1, I1, r, z, q⟩ => ⟨by rw [← r.length]; exact z, ?_⟩)
  have hf : H1 s1.heap.objs.size = none := I1.hok.fresh (Nat.le_refl _)
  refine ⟨.ref s1.heap.objs.size, upd H1 s1.heap.objs.size (.lst xs), I1.laid (t' := s1.toks) (fun b u e => Heap.get?_push_of_some _ e) (Nat.le_refl _) ?_, rfl, q _ hf⟩
  exact ⟨z, us, 0, r, Heap.get?_push_size _ rfl⟩
end

/-! ### what a def promises -/
/-- a def's promise: the bound arguments in the parameters' order, the heap, the wanted end, the wanted exception -/
abbrev Sp := List V → Hp → VK → XK → Prop
/-- how an exception lies behind a call (file 08 gives it): the callers' frames, abstract heap and state ahead of the call, the wish, the exception, the state -/
abbrev CXT := List Env → Hp → Shared → XK → Value → Shared → Prop

/-- the state at a call -/
structure Env0 (P : Program) (w : World) (K : PySem.W.Frag) (mg : Str → Option Value) (base : Heap) (A : Around) (outer : List Env) (s : Shared) (H : Hp) : Prop where
  frames : A.frames = some outer
  mod : Mod K mg base
  bs : ∀ b o, base.get? b = some o → s.heap.get? b = some o ∧ H b = none
  bsz : base.objs.size ≤ s.heap.objs.size
  funs : s.heap.FunFrames base outer
  frf : ∀ b ∈ frs outer, H b = none
  hok : HOk P w H s.heap
  bare : AllBare s.gens
/-- a call's end -/
def CE (outer : List Env) (P : Program) (w : World) (H : Hp) (s : Shared) (Q : VK) (u : Value) (s' : Shared) : Prop :=
  ∃ v H', s'.os = s.os ∧ AllBare s'.gens ∧ Un (frs outer) [] H H' s.heap s'.heap ∧ HOk P w H' s'.heap ∧ RelV v u ∧ Q v H'
def CR (CX : CXT) (outer : List Env) (P : Program) (w : World) (H : Hp) (s : Shared) (Q : VK) (E : XK) (r : Result) (s' : Shared) : Prop :=
  match r with
  | .ok (.ret u) => CE outer P w H s Q u s'
  | .ok _ => False
  | .error e => CX outer H s E e s'
structure FnOk (P : Program) (w : World) (K : PySem.W.Frag) (mg : Str → Option Value) (base : Heap) (CX : CXT) (k : Nat) (f : Addr) (fd : FuncData) (ps : List Str) (sp : Sp) : Prop where
  len : ∀ vs H Q E, sp vs H Q E → vs.length = ps.length
  run : ∀ (A : Around) (outer : List Env) (s : Shared) (H : Hp) (args : Args) (us : List Value) (vs : List V) (Q : VK) (E : XK), Room k A → Env0 P w K mg base A outer s H → BindsTo s fd args (ps.zip us) → Vals vs us → sp vs H Q E →
    codeAny (model P w) A (.call (.ref f) args) (CR CX outer P w H s Q E) s
theorem FnOk.mono {P : Program} {w : World} {K : PySem.W.Frag} {mg : Str → Option Value} {base : Heap} {CX : CXT} {j k : Nat} {f : Addr} {fd : FuncData} {ps : List Str} {sp : Sp} (F : FnOk P w K mg base CX j f fd ps sp) (h : j ≤ k) :
    FnOk P w K mg base CX k f fd ps sp := ⟨F.len, fun A outer s H args us vs Q E hr => F.run A outer s H args us vs Q E (hr.mono h)⟩
/-- a weaker promise -/
theorem FnOk.imp {P : Program} {w : World} {K : PySem.W.Frag} {mg : Str → Option Value} {base : Heap} {CX : CXT} {k : Nat} {f : Addr} {fd : FuncData} {ps : List Str} {sp sp' : Sp} (F : FnOk P w K mg base CX k f fd ps sp)
    (h : ∀ vs H Q E, sp' vs H Q E → sp vs H Q E) : FnOk P w K mg base CX k f fd ps sp' :=
  ⟨fun vs H Q E q => F.len vs H Q E (h _ _ _ _ q), fun A outer s H args us vs Q E hr he hb hv hs => F.run A outer s H args us vs Q E hr he hb hv (h _ _ _ _ hs)⟩

theorem Env0.make {P : Program} {w : World} {K : PySem.W.Frag} {mg : Str → Option Value} {base : Heap} {A : Around} {outer : List Env} {s : Shared} {H : Hp} (e : Env0 P w K mg base A outer s H) (C : Addr) (us : List Value) (kw : List (Str × Value)) :
    Env0 P w K mg base (A.under (.builtin "type.__call__" ⟨.ref C :: us, kw⟩)) outer s H := ⟨by first | exact e.frames | (simpa [Around.under, Code.envs, Code.isFrame, pushEnvs] using e.frames), e.mod, e.bs, e.bsz, e.funs, e.frf, e.hok, e.bare⟩
theorem Env0.in1 {P : Program} {w : World} {K : PySem.W.Frag} {mg : Str → Option Value} {base : Heap} {A : Around} {outer : List Env} {s : Shared} {H : Hp} (e : Env0 P w K mg base A outer s H) :
    Env0 P w K mg base A.in1 outer s H := ⟨e.frames, e.mod, e.bs, e.bsz, e.funs, e.frf, e.hok, e.bare⟩

section
variable {X : Cx} {pins : List (Addr × Obj)} {σ : St} {H : Hp} {s s' : Shared}
/-- from a body: what a callee wants -/
theorem Inv.env0 (I : Inv X pins σ H s) : Env0 X.prog X.w X.K X.mg X.base X.A X.stack s H :=
  ⟨I.ok.frames, I.ok.mod, I.bs, Nat.le_trans I.ok.bsz I.sz, I.stack, I.stkFree, I.hok, I.bare⟩
/-- behind a call -/
theorem Inv.after {Q : VK} {u : Value} (I : Inv X pins σ H s) (h : CE X.stack X.prog X.w H s Q u s') : EP X pins σ Q u s' := by
  obtain ⟨v, H', os, bare, un, hok, r, q⟩ := h
  obtain ⟨hh, g, d, t, os'⟩ := s'
  obtain rfl : os' = s.os := os
  exact ⟨v, H', I.call (h' := hh) (g' := g) (d' := d) (t' := t) (ch := []) un hok bare (fun b z => absurd z (by simp)), r, q⟩
end

/-! ### calls -/
/-- f(..): the written arguments, then the defaults dvs; E: what is wanted of an exception -/
def tCall (sp : Sp) (dvs : List V) (E : XK) (t : TA) : TE := fun σ H Q => t σ H fun vs H1 => sp (vs ++ dvs) H1 Q E
/-- o.m(..) of an instance of the class at C -/
def tMeth (C : Addr) (m : Str) (sp : Sp) (dvs : List V) (E : XK) (ta : TE) (t : TA) : TE := fun σ H Q => ta σ H fun x H1 => ∃ a dx fs, x = .ref a ∧ H1 a = some (.ins C dx fs) ∧ fs.lookup m = none ∧
  t σ H1 fun vs H2 => sp (x :: (vs ++ dvs)) H2 Q E
/-- C(..): a new instance and its dict, then __init__ -/
def tMake (C : Addr) (sp : Sp) (dvs : List V) (E : XK) (t : TA) : TE := fun σ H Q => t σ H fun vs H1 => ∀ x dx, H1 x = none → H1 dx = none → dx ≠ x →
  sp (.ref x :: (vs ++ dvs)) (upd (upd H1 dx (.own x)) x (.ins C dx [])) (fun v H2 => v = .non ∧ Q (.ref x) H2) E

/-- how the parameters are bound: us the positional arguments, kw the keywords' values by name, ds the defaults that fill up -/
def Binds (K : PySem.W.Frag) (fd : FuncData) (ps : List Str) (ds : List Value) : Prop :=
  ∀ (s : Shared) (us : List Value), K.In s.heap → (us ++ ds).length = ps.length → BindsTo s fd ⟨us, []⟩ (ps.zip (us ++ ds))
/-- every parameter is given -/
theorem Binds.all {K : PySem.W.Frag} {fd : FuncData} {ps : List Str} (h : ∀ us : List Value, us.length = ps.length → bindArgs fd ⟨us, []⟩ = pure (ps.zip us)) : Binds K fd ps [] := fun s us _ hl => by
  rw [List.append_nil] at hl ⊢
  exact .of_eq (h us hl)

/-- an exception of a callee reaches what this body wants of exceptions -/
def Passes (CX : CXT) (X : Cx) (E : XK) : Prop := ∀ (pins : List (Addr × Obj)) (σ : St) (H : Hp) (s : Shared) (e : Value) (s' : Shared), Inv X pins σ H s → CX X.stack H s E e s' → X.xe e s'

section
variable {X : Cx} {CX : CXT} {k : Nat} {f C : Addr} {fd : FuncData} {ps : List Str} {sp : Sp} {dvs : List V} {ds : List Value} {E : XK} {x m : Str} {p pos apos : Pos} {e o : Expr} {es : List Expr} {ta : TE} {t : TA}

/-- the callee runs -/
theorem run_fn {pins : List (Addr × Obj)} {σ : St} {H : Hp} {s : Shared} {Q : VK} {us : List Value} {vs : List V} (F : FnOk X.prog X.w X.K X.mg X.base CX k f fd ps sp) (hr : Room k X.A) (hb : Binds X.K fd ps ds) (hd : Vals dvs ds) (hx : Passes CX X E)
    (I : Inv X pins σ H s) (r : Vals vs us) (h : sp (vs ++ dvs) H Q E) : wpAny (model X.prog X.w) X.A (call (.ref f) us) (EP X pins σ Q) X.xe s := by
  have r2 : Vals (vs ++ dvs) (us ++ ds) := r.append hd
  have hl : (us ++ ds).length = ps.length := by rw [← r2.length]; exact F.len _ _ _ _ h
  refine wpAny_call (codeAny_mono (F.run X.A X.stack s H ⟨us, []⟩ (us ++ ds) (vs ++ dvs) Q E hr I.env0 (hb s us I.kIn hl) r2 h) fun r s' hq => ?_)
  cases r with
  | error e => exact hx pins σ H s e s' I hq
  | ok fl =>
    cases fl with
    | ret u => exact I.after hq
    | next => exact False.elim hq
    | brk => exact False.elim hq
    | cont => exact False.elim hq

theorem pe_call (F : FnOk X.prog X.w X.K X.mg X.base CX k f fd ps sp) (hr : Room k X.A) (hg : Gl X x) (hm : X.mg x = some (.ref f)) (hk : PySem.W.keepIn X.K (.ref f) = true) (hb : Binds X.K fd ps ds) (hd : Vals dvs ds) (hx : Passes CX X E)
    (ha : PA X (e :: es) t) (hdb : (x == ("__debug__" : Str)) = false := by decide) (he : starEach (e :: es) X.env = (false, eval e X.env) :: starEach es X.env := by rfl) (hpl : (backTo pos (starEach es X.env)).any (·.1) = false := by rfl) :
    PE X (.Call (.Name x p) (e :: es) [] pos) (tCall sp dvs E t) := by
  intro pins s σ H Q I h
  refine wpAny_Call_Name_kw (ld_glob I hg hm ?_ hdb)
  refine PySem.W.callWith_K (h₀ := X.base) I.ok.mod.kin hk (thn (ha pos pins s σ H _ I h) fun us s1 ⟨vs, H1, I1, r, q⟩ => ⟨I1.kIn, ?_⟩) he hpl
  exact run_fn F hr hb hd hx I1 r q
theorem pe_call0 (F : FnOk X.prog X.w X.K X.mg X.base CX k f fd ps sp) (hr : Room k X.A) (hg : Gl X x) (hm : X.mg x = some (.ref f)) (hk : PySem.W.keepIn X.K (.ref f) = true) (hb : Binds X.K fd ps ds) (hd : Vals dvs ds) (hx : Passes CX X E)
    (hdb : (x == ("__debug__" : Str)) = false := by decide) : PE X (.Call (.Name x p) [] [] pos) (tCall sp dvs E tNil) := by
  intro pins s σ H Q I h
  refine wpAny_Call_Name_kw (ld_glob I hg hm ?_ hdb)
  exact PySem.W.callWith_K0 I.kIn hk (run_fn (us := []) F hr hb hd hx I .nil h)

/-- o.m(e, ..) -/
theorem pe_meth {pl : Sem Bool} (he : PE X o ta) (c : Cls X.K C) (hm : Meth X.K C m f) (F : FnOk X.prog X.w X.K X.mg X.base CX k f fd ps sp) (hr : Room k X.A) (hb : Binds X.K fd ps ds) (hd : Vals dvs ds) (hx : Passes CX X E) (ha : PA X (e :: es) t)
    (hst : starEach (e :: es) X.env = (false, eval e X.env) :: starEach es X.env := by rfl) (hpl : (backTo pos (starEach es X.env)).any (·.1) = false := by rfl)
    (ht : eval (.Call (.Attribute o m apos) (e :: es) [] pos) X.env = (do
      let ov ← eval o X.env
      standAt apos.atName
      let (f, first) ← holding [ov] (getMethod ov m pl)
      callWith pos f first (backTo pos (starEach (e :: es) X.env)) (backToKw pos (keywordEach [] X.env))) := by rfl) :
    PE X (.Call (.Attribute o m apos) (e :: es) [] pos) (tMeth C m sp dvs E ta t) := by
  intro pins s σ H Q I h
  refine PySem.W.methodCall_KW (pl := pl) (thn (he pins s σ H _ I h) fun u s1 ⟨x, H1, I1, rx, a, dx, fs, ex, ea, l, q⟩ => ?_) ht
  subst ex
  obtain rfl : u = Value.ref a := rx
  refine getmeth_ok I1 ea c hm l ?_
  refine PySem.W.callWith_K (first := [.ref a]) (h₀ := X.base) I.ok.mod.kin hm.kp (thn (ha pos pins s1 σ H1 _ I1 q) fun us s2 ⟨vs, H2, I2, r, q2⟩ => ⟨I2.kIn, ?_⟩) hst hpl
  exact run_fn (us := .ref a :: us) (vs := .ref a :: vs) F hr hb hd hx I2 (.cons rfl r) q2
/-- o.m() -/
theorem pe_meth0 {pl : Sem Bool} (he : PE X o ta) (c : Cls X.K C) (hm : Meth X.K C m f) (F : FnOk X.prog X.w X.K X.mg X.base CX k f fd ps sp) (hr : Room k X.A) (hb : Binds X.K fd ps ds) (hd : Vals dvs ds) (hx : Passes CX X E)
    (ht : eval (.Call (.Attribute o m apos) [] [] pos) X.env = (do
      let ov ← eval o X.env
      standAt apos.atName
      let (f, first) ← holding [ov] (getMethod ov m pl)
      callWith pos f first (backTo pos (starEach [] X.env)) (backToKw pos (keywordEach [] X.env))) := by rfl) :
    PE X (.Call (.Attribute o m apos) [] [] pos) (tMeth C m sp dvs E ta tNil) := by
  intro pins s σ H Q I h
  refine PySem.W.methodCall_KW (pl := pl) (thn (he pins s σ H _ I h) fun u s1 ⟨x, H1, I1, rx, a, dx, fs, ex, ea, l, q⟩ => ?_) ht
  subst ex
  obtain rfl : u = Value.ref a := rx
  refine getmeth_ok I1 ea c hm l ?_
  exact PySem.W.callWith_K0 (first := [.ref a]) I1.kIn hm.kp (run_fn (us := [.ref a]) (vs := [.ref a]) F hr hb hd hx I1 (.cons rfl .nil) q)

/-- what a class must have to be made -/
structure Mk (K : PySem.W.Frag) (C f : Addr) : Prop where
  makes : PySem.W.makesIn K C = true
  init : PySem.W.findIn K (.ref C) "__init__" = some (some (.ref f))
  fn : PySem.W.isFn K (.ref f) = true
  kp : PySem.W.keepIn K (.ref C) = true

theorem run_make {pins : List (Addr × Obj)} {σ : St} {H : Hp} {s : Shared} {Q : VK} {us : List Value} {vs : List V} (M : Mk X.K C f) (F : FnOk X.prog X.w X.K X.mg X.base CX k f fd ps sp) (hr : Room (k + 1) X.A) (hb : Binds X.K fd ps ds) (hd : Vals dvs ds)
    (hx : Passes CX X E) (I : Inv X pins σ H s) (r : Vals vs us)
    (h : ∀ x dx, H x = none → H dx = none → dx ≠ x → sp (.ref x :: (vs ++ dvs)) (upd (upd H dx (.own x)) x (.ins C dx [])) (fun v H2 => v = .non ∧ Q (.ref x) H2) E) :
    wpAny (model X.prog X.w) X.A (call (.ref C) us) (EP X pins σ Q) X.xe s := by
  have hq := h (s.heap.objs.size + 1) s.heap.objs.size (I.hok.fresh (Nat.le_succ _)) (I.hok.fresh (Nat.le_refl _)) (Nat.ne_of_lt (Nat.lt_succ_self _))
  have I2 := Inv.made (C := C) I
  have r2 : Vals (V.ref (s.heap.objs.size + 1) :: (vs ++ dvs)) (Value.ref (s.heap.objs.size + 1) :: (us ++ ds)) := .cons rfl (r.append hd)
  have hl : (Value.ref (s.heap.objs.size + 1) :: us ++ ds).length = ps.length := by
    have e := r2.length
    rw [F.len _ _ _ _ hq] at e
    exact e.symm
  refine wpAny_call (make_map (f := f) I.kIn M.makes M.init (beq_iff_eq.mp M.fn) (codeAny_mono (F.run _ X.stack _ _ ⟨Value.ref (s.heap.objs.size + 1) :: us, []⟩ (Value.ref (s.heap.objs.size + 1) :: (us ++ ds)) _ _ E (hr.make C us [])
    (I2.env0.make C us []) (hb _ (Value.ref (s.heap.objs.size + 1) :: us) I2.kIn hl) r2 hq) fun r s' hq' => ?_))
  cases r with
  | error e => exact hx pins σ _ _ e s' I2 hq'
  | ok fl =>
    cases fl with
    | ret u =>
      obtain ⟨v, H', I3, rv, ev, q3⟩ := I2.after hq'
      subst ev
      exact ⟨rv, ⟨V.ref (s.heap.objs.size + 1), H', I3, rfl, q3⟩⟩
    | next => exact False.elim hq'
    | brk => exact False.elim hq'
    | cont => exact False.elim hq'
theorem pe_make (M : Mk X.K C f) (F : FnOk X.prog X.w X.K X.mg X.base CX k f fd ps sp) (hr : Room (k + 1) X.A) (hg : Gl X x) (hm : X.mg x = some (.ref C)) (hb : Binds X.K fd ps ds) (hd : Vals dvs ds) (hx : Passes CX X E)
    (ha : PA X (e :: es) t) (hdb : (x == ("__debug__" : Str)) = false := by decide) (he : starEach (e :: es) X.env = (false, eval e X.env) :: starEach es X.env := by rfl) (hpl : (backTo pos (starEach es X.env)).any (·.1) = false := by rfl) :
    PE X (.Call (.Name x p) (e :: es) [] pos) (tMake C sp dvs E t) := by
  intro pins s σ H Q I h
  refine wpAny_Call_Name_kw (ld_glob I hg hm ?_ hdb)
  refine PySem.W.callWith_K (h₀ := X.base) I.ok.mod.kin M.kp (thn (ha pos pins s σ H _ I h) fun us s1 ⟨vs, H1, I1, r, q⟩ => ⟨I1.kIn, ?_⟩) he hpl
  exact run_make M F hr hb hd hx I1 r q
theorem pe_make0 (M : Mk X.K C f) (F : FnOk X.prog X.w X.K X.mg X.base CX k f fd ps sp) (hr : Room (k + 1) X.A) (hg : Gl X x) (hm : X.mg x = some (.ref C)) (hb : Binds X.K fd ps ds) (hd : Vals dvs ds) (hx : Passes CX X E)
    (hdb : (x == ("__debug__" : Str)) = false := by decide) : PE X (.Call (.Name x p) [] [] pos) (tMake C sp dvs E tNil) := by
  intro pins s σ H Q I h
  refine wpAny_Call_Name_kw (ld_glob I hg hm ?_ hdb)
  exact PySem.W.callWith_K0 I.kIn M.kp (run_make (us := []) M F hr hb hd hx I .nil h)
end

/-! ### keywords -/
/-- the values of the keywords, from the left -/
def PK (X : Cx) (kws : List Keyword) (t : TA) : Prop :=
  ∀ (pos : Pos) (pins : List (Addr × Obj)) (s : Shared) (σ : St) (H : Hp) (Q : List V → Hp → Prop), Inv X pins σ H s → t σ H Q → wpAny (model X.prog X.w) X.A (evalAll ((backToKw pos (keywordEach kws X.env)).map (·.2))) (AP X pins σ Q) X.xe s
section
variable {X : Cx} {CX : CXT} {k : Nat} {f C : Addr} {fd : FuncData} {ps ks : List Str} {sp : Sp} {E : XK} {x m : Str} {p pos apos kpos : Pos} {e o : Expr} {es : List Expr} {kws : List Keyword} {te ta : TE} {t tk : TA} {nm : Option Str}
theorem pk_nil : PK X [] tNil := fun _ _ _ _ H Q I h => wpAny_evalAll_nil ⟨[], H, I, .nil, h⟩
theorem pk_cons (ha : PE X e te) (hr : PK X kws t) : PK X (⟨nm, e, kpos⟩ :: kws) (tCons te t) := by
  intro pos pins s σ H Q I h
  show wpAny _ _ (evalAll ((do let v ← eval e X.env; standAt pos; pure v) :: (backToKw pos (keywordEach kws X.env)).map (·.2))) _ _ s
  refine wpAny_evalAll_cons (wpAny_bind (thn (ha pins s σ H _ I h) fun u s1 ⟨x, H1, I1, r1, q1⟩ => wpAny_bind (wpAny_standAt (wpAny_pure ?_))))
  exact thn (hr pos pins s1 σ H1 _ I1 q1) fun us s2 ⟨xs, H2, I2, r2, q2⟩ => ⟨x :: xs, H2, I2, .cons r1 r2, q2⟩

/-- how a call with keywords binds: g puts the positional values us and the keywords' values ws (names ks) in the parameters' order, defaults among them -/
structure KBinds (K : PySem.W.Frag) (fd : FuncData) (ps ks : List Str) (g : List Value → List Value → List Value) (gV : List V → List V → List V) : Prop where
  to : ∀ (s : Shared) (us ws : List Value), K.In s.heap → (g us ws).length = ps.length → BindsTo s fd ⟨us, ks.zip ws⟩ (ps.zip (g us ws))
  rel : ∀ {vs : List V} {us : List Value} {zs : List V} {ws : List Value}, Vals vs us → Vals zs ws → Vals (gV vs zs) (g us ws)
def tCallK (sp : Sp) (gV : List V → List V → List V) (E : XK) (t tk : TA) : TE := fun σ H Q => t σ H fun vs H1 => tk σ H1 fun zs H2 => sp (gV vs zs) H2 Q E
variable {g : List Value → List Value → List Value} {gV : List V → List V → List V}
theorem run_fnk {pins : List (Addr × Obj)} {σ : St} {H : Hp} {s : Shared} {Q : VK} {us ws : List Value} {vs zs : List V} (F : FnOk X.prog X.w X.K X.mg X.base CX k f fd ps sp) (hr : Room k X.A) (hb : KBinds X.K fd ps ks g gV) (hx : Passes CX X E)
    (I : Inv X pins σ H s) (r : Vals vs us) (rz : Vals zs ws) (h : sp (gV vs zs) H Q E) : wpAny (model X.prog X.w) X.A (call (.ref f) us (ks.zip ws)) (EP X pins σ Q) X.xe s := by
  have r2 := hb.rel r rz
  have hl : (g us ws).length = ps.length := by rw [← r2.length]; exact F.len _ _ _ _ h
  refine wpAny_call (codeAny_mono (F.run X.A X.stack s H ⟨us, ks.zip ws⟩ (g us ws) (gV vs zs) Q E hr I.env0 (hb.to s us ws I.kIn hl) r2 h) fun r s' hq => ?_)
  cases r with
  | error e => exact hx pins σ H s e s' I hq
  | ok fl =>
    cases fl with
    | ret u => exact I.after hq
    | next => exact False.elim hq
    | brk => exact False.elim hq
    | cont => exact False.elim hq
/-- f(e, .., k = v, ..) -/
theorem pe_callK (F : FnOk X.prog X.w X.K X.mg X.base CX k f fd ps sp) (hr : Room k X.A) (hg : Gl X x) (hm : X.mg x = some (.ref f)) (hk : PySem.W.keepIn X.K (.ref f) = true) (hb : KBinds X.K fd ps ks g gV) (hx : Passes CX X E)
    (ha : PA X (e :: es) t) (hkw : PK X kws tk) (hall : (backToKw pos (keywordEach kws X.env)).all (·.1.isSome) = true := by rfl) (hks : (backToKw pos (keywordEach kws X.env)).filterMap (·.1) = ks := by rfl)
    (hdb : (x == ("__debug__" : Str)) = false := by decide) (he : starEach (e :: es) X.env = (false, eval e X.env) :: starEach es X.env := by rfl)
    (hpl : ((backTo pos (starEach (e :: es) X.env)).any (·.1) || (backToKw pos (keywordEach kws X.env)).any (·.1.isNone)) = false := by rfl) :
    PE X (.Call (.Name x p) (e :: es) kws pos) (tCallK sp gV E t tk) := by
  intro pins s σ H Q I h
  refine wpAny_Call_Name_kw (ld_glob I hg hm ?_ hdb)
  refine PySem.W.callWith_KW (h₀ := X.base) I.ok.mod.kin hk hall (thn (ha pos pins s σ H _ I h) fun us s1 ⟨vs, H1, I1, r, q⟩ => ?_) hpl he
  refine thn (hkw pos pins s1 σ H1 _ I1 q) fun ws s2 ⟨zs, H2, I2, rz, q2⟩ => ⟨I2.kIn, ?_⟩
  rw [hks]
  exact run_fnk F hr hb hx I2 r rz q2
end

/-! ### a def's body keeps its promise -/
/-- names: the parameters first -/
structure FnScope (N P : List Str) (sc : Scope) : Prop where
  kind : sc.kind = .function
  co : sc.isCoroutine = false
  gen : sc.isGenerator = false
  nd : N.Nodup
  pre : N.take P.length = P
  par : ∀ x ∈ P, sc.names.lookup x = some .local ∨ sc.names.lookup x = some .cell
  nofree : ∀ y ∈ sc.names, y.2 ≠ .free

theorem bindL_out {kindOf : Str → Option NameKind} {x : Str} : ∀ {binds : List (Str × Value)} {m : Str → Option Value}, (∀ v, (x, v) ∉ binds) → bindL kindOf binds m x = m x
  | [], _, _ => rfl
  | (n, v) :: r, m, h => by
    unfold bindL
    rw [bindL_out fun w hw => h w (List.mem_cons_of_mem _ hw)]
    split
    · have : x ≠ n := by rintro rfl; exact h v List.mem_cons_self
      simp [this]
    · rfl
theorem bindC_out {kindOf : Str → Option NameKind} {x : Str} : ∀ {binds : List (Str × Value)} {m : Str → Option Value}, (∀ v, (x, v) ∉ binds) → bindC kindOf binds m x = m x
  | [], _, _ => rfl
  | (n, v) :: r, m, h => by
    unfold bindC
    rw [bindC_out fun w hw => h w (List.mem_cons_of_mem _ hw)]
    split
    · rfl
    · have : x ≠ n := by rintro rfl; exact h v List.mem_cons_self
      simp [this]
theorem bindL_get {kindOf : Str → Option NameKind} {x : Str} {v : Value} : ∀ {P : List Str} {vs : List Value} {i : Nat} {m : Str → Option Value}, P.Nodup → P[i]? = some x → vs[i]? = some v → kindOf x = some .local →
    bindL kindOf (P.zip vs) m x = some v
  | [], _, _, _, _, h, _, _ => by simp at h
  | _ :: _, [], _, _, _, _, h, _ => by simp at h
  | p :: P, w :: vs, 0, m, nd, h1, h2, hk => by
    simp at h1 h2; subst h1; subst h2
    show bindL kindOf ((p, w) :: P.zip vs) m p = _
    unfold bindL
    rw [bindL_out fun v hv => (List.nodup_cons.mp nd).1 (List.of_mem_zip hv).1, if_pos hk]
    simp
  | p :: P, w :: vs, i + 1, m, nd, h1, h2, hk => by
    show bindL kindOf ((p, w) :: P.zip vs) m x = _
    unfold bindL
    exact bindL_get (i := i) (List.nodup_cons.mp nd).2 (by simpa using h1) (by simpa using h2) hk
theorem bindC_get {kindOf : Str → Option NameKind} {x : Str} {v : Value} : ∀ {P : List Str} {vs : List Value} {i : Nat} {m : Str → Option Value}, P.Nodup → P[i]? = some x → vs[i]? = some v → kindOf x ≠ some .local →
    bindC kindOf (P.zip vs) m x = some v
  | [], _, _, _, _, h, _, _ => by simp at h
  | _ :: _, [], _, _, _, _, h, _ => by simp at h
  | p :: P, w :: vs, 0, m, nd, h1, h2, hk => by
    simp at h1 h2; subst h1; subst h2
    show bindC kindOf ((p, w) :: P.zip vs) m p = _
    unfold bindC
    rw [bindC_out fun v hv => (List.nodup_cons.mp nd).1 (List.of_mem_zip hv).1, if_neg hk]
    simp
  | p :: P, w :: vs, i + 1, m, nd, h1, h2, hk => by
    show bindC kindOf ((p, w) :: P.zip vs) m x = _
    unfold bindC
    exact bindC_get (i := i) (List.nodup_cons.mp nd).2 (by simpa using h1) (by simpa using h2) hk

/-- the names' values at the entry -/
def start (N : List Str) (vs : List V) : St := vs.map some ++ List.replicate (N.length - vs.length) none

/-- the context of a def's body, at its entry; an exception leaves the frame, then lies as CX says -/
def cxOf (CX : CXT) (P : Program) (w : World) (K : PySem.W.Frag) (mg : Str → Option Value) (base : Heap) (N : List Str) (qual : Str) (scope : Scope) (f : Addr) (cd : Value) (A : Around) (outer : List Env) (s : Shared) (H : Hp) (E : XK) : Cx where
  prog := P
  w := w
  K := K
  mg := mg
  base := base
  A := A.deeper (envOfC qual scope s.heap.objs.size f cd)
  N := N
  s₀ := s
  H₀ := H
  env := envOfC qual scope s.heap.objs.size f cd
  outer := outer
  stack := envOfC qual scope s.heap.objs.size f cd :: outer
  ex := []
  calm := true
  fn := fun _ => true
  pn := []
  xe := fun e s' => wpAny (model P w) (A.deeper (envOfC qual scope s.heap.objs.size f cd)) (leaving (envOfC qual scope s.heap.objs.size f cd) e) (fun _ s'' => CX outer H s E e s'') (fun e' s'' => CX outer H s E e' s'') s'

theorem cell_has {sc : Scope} {n : Nat} {x : Str} (h : sc.names.lookup x = some .cell) : ∃ c, (cellsFrom n sc.names []).lookup x = some c := by
  have q := PySem.W.cellsFrom_some sc.names n [] (.inl h)
  exact Option.isSome_iff_exists.mp q

theorem inv_start {CX : CXT} {P : Program} {w : World} {K : PySem.W.Frag} {mg : Str → Option Value} {base : Heap} {N ps : List Str} {qual : Str} {scope : Scope} {f : Addr} {cd : Value} {A : Around} {outer : List Env} {s s1 : Shared} {H : Hp} {E : XK} {us : List Value} {vs : List V}
    (S : FnScope N ps scope) (hd : A.handled = none) (e0 : Env0 P w K mg base A outer s H) (hl : vs.length = ps.length) (r : Vals vs us)
    (x : InCallC s s.heap.objs.size (bindL (envOfC qual scope s.heap.objs.size f cd).kindOf (ps.zip us) fun _ => none) (cellsFrom (s.heap.objs.size + 1) scope.names []) (bindC (envOfC qual scope s.heap.objs.size f cd).kindOf (ps.zip us) fun _ => none) s1) :
    Inv (cxOf CX P w K mg base N qual scope f cd A outer s H E) [] (start N vs) H s1 := by
  have hpl : ps.length ≤ N.length := by have := congrArg List.length S.pre; rw [List.length_take] at this; omega
  obtain ⟨h1, tk, rfl, hk⟩ := x.done
  have noA : ∀ b : Addr, b ∉ (cxOf CX P w K mg base N qual scope f cd A outer s H E).ex := fun b z => absurd (show b ∈ ([] : List Addr) from z) (by simp)
  refine ⟨⟨e0.mod, S.kind, rfl, rfl, Nat.le_refl _, fun y z c h1 h2 => ?_, fun y hy => ?_, fun y c _ h => ?_, fun _ => hd, Around.frames_deeper e0.frames, .inr ⟨rfl, rfl⟩, fun b z => absurd z (noA b), e0.bs, e0.bsz, fun b _ _ => noA b, fun b z => absurd z (noA b), e0.funs, e0.frf⟩,
    rfl, e0.bare, Un.kept hk, ⟨_, x.toInCall.ns, fun i y v h1 h2 h3 => ?_⟩, fun y c h => ⟨_, x.cell y c h⟩, e0.hok.fresh (Nat.le_refl _), fun y c h => ?_, fun p hp => absurd (show p ∈ ([] : List (Addr × Obj)) from hp) (by simp), e0.hok.kept hk, ?_⟩
  · exact name_of_addr x.apart (PySem.mem_of_lookup h1) (PySem.mem_of_lookup h2)
  · have hy : scope.names.lookup y = some .cell ∨ scope.names.lookup y = some .free := hy
    rcases hy with hy | hy
    · exact cell_has hy
    · exact absurd rfl (S.nofree _ (PySem.mem_of_lookup hy))
  · exact Nat.le_of_lt (x.above y c (PySem.mem_of_lookup h))
  · have hi : i < vs.length := by
      unfold start at h2
      by_cases hi : i < vs.length
      · exact hi
      · rw [List.getElem?_append_right (by simpa using hi)] at h2
        rw [List.getElem?_replicate] at h2
        split at h2 <;> cases h2
    have ha : vs[i]? = some v := by
      unfold start at h2
      rw [List.getElem?_append_left (by simpa using hi), List.getElem?_map] at h2
      cases e : vs[i]? with
      | none => rw [e] at h2; cases h2
      | some a => rw [e] at h2; cases h2; rfl
    obtain ⟨u, hu, rv⟩ := r.get ha
    have hp : ps[i]? = some y := by
      rw [← S.pre, List.getElem?_take_of_lt (by omega)]; exact h1
    have ndP : ps.Nodup := by rw [← S.pre]; exact S.nd.sublist (List.take_sublist _ _)
    refine ⟨u, rv, ?_⟩
    rcases S.par y (List.mem_of_getElem? hp) with k | k
    · exact .inl ⟨k, bindL_get ndP hp hu k⟩
    · obtain ⟨c, e⟩ := cell_has (n := s.heap.objs.size + 1) k
      refine .inr ⟨.inl k, c, e, ?_⟩
      have q := x.cell y c e
      rw [bindC_get ndP hp hu (by show scope.names.lookup y ≠ _; rw [k]; decide)] at q
      exact q
  · exact e0.hok.fresh (Nat.le_of_lt (x.above y c (PySem.mem_of_lookup h)))
  · unfold start
    show _ = N.length
    rw [List.length_append, List.length_map, List.length_replicate]
    omega

/-- THE RULE: a def (or a method) of the text, by its body. The body's reading t is chosen for each entry; it is run at the parameters' values -/
theorem fn_of {CX : CXT} {P : Program} {w : World} {K : PySem.W.Frag} {mg : Str → Option Value} {base : Heap} {k : Nat} {f : Addr} {name qual : Str} {params : Arguments} {body : List Stmt} {scope : Scope} {dV kV doc pm cdv ct oc : Value} {an od : Option Addr}
    {osl : Array (Option Value)} {N ps : List Str} {sp : Sp} (lk : K.lookup f = some ⟨oc, od, .func (PySem.W.fnOf name qual params body scope dV kV doc pm an cdv ct), osl⟩) (hcd : PySem.W.codeIn K cdv qual = true) (S : FnScope N ps scope)
    (len : ∀ vs H Q E, sp vs H Q E → vs.length = ps.length)
    (hbody : ∀ (A : Around) (outer : List Env) (s : Shared) (H : Hp) (vs : List V) (Q : VK) (E : XK), Room k (A.deeper (envOfC qual scope s.heap.objs.size f cdv)) → sp vs H Q E →
      ∃ t, PSs (cxOf CX P w K mg base N qual scope f cdv A outer s H E) body t ∧ t { nx := fun _ H' => Q .non H', rt := Q } (start N vs) H) :
    FnOk P w K mg base CX (k + 1) f (PySem.W.fnOf name qual params body scope dV kV doc pm an cdv ct) ps sp := by
  refine ⟨len, fun A outer s H args us vs Q E hr e0 hb r hsp => ?_⟩
  have hl := len _ _ _ _ hsp
  have KX : K.In s.heap := e0.mod.kin.keeps fun b o e => (e0.bs b o e).1
  have lim : s.heap.NoLimit := e0.mod.nolimit.keeps fun b o e => (e0.bs b o e).1
  have hkind : ∀ y ∈ ps.zip us, scope.names.lookup y.1 = some .local ∨ (scope.names.lookup y.1 = some .cell ∧ ((cellsFrom (s.heap.objs.size + 1) scope.names []).lookup y.1).isSome = true) := fun ⟨n, v⟩ hy => by
    rcases S.par n (List.of_mem_zip hy).1 with q | q
    · exact .inl q
    · exact .inr ⟨q, PySem.W.cellsFrom_some _ _ _ (.inl q)⟩
  refine codeAny_call_function hr.depth (KX _ _ lk) rfl S.co S.gen rfl (PySem.W.codeRec_of KX hcd) (hb _ _ _ _ ?_)
  refine wpAny_newFunctionEnv_cells S.kind hkind fun env he s1 x => ?_
  subst he
  refine ⟨lim.keeps x.toInCall.keep, codeAny_func ?_⟩
  obtain ⟨t, ht, hq⟩ := hbody A outer s H vs Q E (hr.deeper _) hsp
  have I : Inv (cxOf CX P w K mg base N qual scope f cdv A outer s H E) [] (start N vs) H s1 := inv_start S hr.hd e0 hl r x
  refine wpAny_mono (ht [] s1 (start N vs) H _ I hq) (fun fl s' hs => ?_) fun e s' hs => hs
  have fin : ∀ {σ' : St} {H' : Hp} {v : V} {u : Value}, Inv (cxOf CX P w K mg base N qual scope f cdv A outer s H E) [] σ' H' s' → RelV v u → Q v H' → CE outer P w H s Q u s' :=
    fun {σ' H' v u} J rv q => ⟨v, H', J.os, J.bare, J.base, J.hok, rv, q⟩
  cases fl with
  | ret u =>
    obtain ⟨v, σ', H', J, rv, q⟩ := hs
    exact fin J rv q
  | next =>
    obtain ⟨σ', H', J, q⟩ := hs
    exact fin (v := V.non) (u := Value.none) J rfl q
  | brk =>
    obtain ⟨_, _, _, q⟩ := hs
    exact False.elim q
  | cont =>
    obtain ⟨_, _, _, q⟩ := hs
    exact False.elim q
end L2

namespace L2
open PySem PySem.Spec PyProof.Rows
section
variable {X : Cx} {x : Str} {p pos : Pos} {e : Expr} {es : List Expr} {t : TA} {id T : String} {r : List V → Hp → VK → Prop}

def tCB (r : List V → Hp → VK → Prop) (t : TA) : TE := fun σ H Q => t σ H fun vs H1 => r vs H1 Q
/-- f(e, ..), f a built-in function -/
theorem pe_callB (hc : CallR X (.builtin id) r) (hg : Gl X x) (hm : X.mg x = none) (hv : bootBuiltins x = some (.builtin id)) (ha : PA X (e :: es) t) (hn : x ≠ "__name__" := by decide) (hdb : (x == ("__debug__" : Str)) = false := by decide)
    (he : starEach (e :: es) X.env = (false, eval e X.env) :: starEach es X.env := by rfl) (hpl : (backTo pos (starEach es X.env)).any (·.1) = false := by rfl) : PE X (.Call (.Name x p) (e :: es) [] pos) (tCB r t) := by
  intro pins s σ H Q I h
  refine wpAny_Call_Name_kw (ld_blt I hg hm hv ?_ hn hdb)
  exact PyProof.Rows.callWith_builtin1 (thn (ha pos pins s σ H _ I h) fun us s1 ⟨vs, H1, I1, r1, q1⟩ => hc pins s1 σ H1 vs us Q I1 r1 q1) he hpl
/-- T(e, ..), T a built-in type -/
theorem pe_callTy (hc : CallR X (.type T) r) (hg : Gl X x) (hm : X.mg x = none) (hv : bootBuiltins x = some (.type T)) (ha : PA X (e :: es) t) (hn : x ≠ "__name__" := by decide) (hdb : (x == ("__debug__" : Str)) = false := by decide)
    (he : starEach (e :: es) X.env = (false, eval e X.env) :: starEach es X.env := by rfl) (hpl : (backTo pos (starEach es X.env)).any (·.1) = false := by rfl) : PE X (.Call (.Name x p) (e :: es) [] pos) (tCB r t) := by
  intro pins s σ H Q I h
  refine wpAny_Call_Name_kw (ld_blt I hg hm hv ?_ hn hdb)
  exact PyProof.Rows.callWith_type1 (thn (ha pos pins s σ H _ I h) fun us s1 ⟨vs, H1, I1, r1, q1⟩ => hc pins s1 σ H1 vs us Q I1 r1 q1) he hpl
/-- T() -/
theorem pe_callTy0 (hc : CallR X (.type T) r) (hg : Gl X x) (hm : X.mg x = none) (hv : bootBuiltins x = some (.type T)) (hn : x ≠ "__name__" := by decide) (hdb : (x == ("__debug__" : Str)) = false := by decide) :
    PE X (.Call (.Name x p) [] [] pos) (tCB r tNil) := by
  intro pins s σ H Q I h
  refine wpAny_Call_Name_kw (ld_blt I hg hm hv ?_ hn hdb)
  exact PyProof.Rows.callWith_type0 (hc pins s σ H [] [] Q I .nil h)
end
end L2

namespace HT
open PySem PyProof.Rows

/-- t < u of tuples of ints -/
def lexLt : List Int → List Int → Bool
  | [], [] => false
  | [], _ :: _ => true
  | _ :: _, [] => false
  | x :: xs, y :: ys => if x = y then lexLt xs ys else decide (x < y)
theorem lexLt_cons (x y : Int) (xs ys : List Int) : lexLt (x :: xs) (y :: ys) = if x = y then lexLt xs ys else decide (x < y) := rfl
theorem lexLt_nil_nil : lexLt [] [] = false := rfl
theorem lexLt_nil_cons (y : Int) (ys : List Int) : lexLt [] (y :: ys) = true := rfl
theorem lexLt_cons_nil (x : Int) (xs : List Int) : lexLt (x :: xs) [] = false := rfl

theorem eqAt_int (A : Around) (s : Shared) (a : Int) (t : Tok) (c : Int) (u : Tok) : ∃ e, SeqAt.EqAt A s (.int a t) (.int c u) e ∧ (e = true ↔ a = c) :=
  ⟨(a == c), SeqAt.EqAt.int_int a t c u, by simp⟩
theorem rcLt_int (A : Around) (s : Shared) (a : Int) (t : Tok) (c : Int) (u : Tok) (prog : Program) (w : World) (E : Value → Shared → Prop) (Q : Value → Shared → Prop) (h : Q (.bool (decide (a < c))) s) :
    wpAny (model prog w) A (richCompare .Lt (.int a t) (.int c u)) Q E s :=
  (PyProof.Rows.lt_int h : wpAny (model prog w) A (compareOp .Lt (.int a t) (.int c u)) Q E s)

section
open PySem.SeqAt
open PySem.AutoSeq1 (wpAny_loadPart')
open PySem.MeetsSeq PySem.MeetsSeq2 PySem.MeetsSeq3

theorem tuple_lt_ints (l b : Addr) (items items2 : Array Value) (n n2 : Nat) (dd dd2 : Option Addr) (sl sl2 : Array (Option Value)) (ns ms : List Int) (hi : IntsAre items.toList ns) (hj : IntsAre items2.toList ms) :
    Meets (Builtin.«tuple.__lt__» ⟨[.ref l, .ref b], []⟩)
      (fun _ R s => s.heap.get? l = some { cls := .type "tuple", dict := dd, data := .seq items n, slots := sl } ∧ s.heap.get? b = some { cls := .type "tuple", dict := dd2, data := .seq items2 n2, slots := sl2 } ∧
        R (.ok (.ret (.bool (lexLt ns ms)))) s) :=
  .of_wp fun prog w A R s h => by
    obtain ⟨hp, g, d, tk, os⟩ := s; obtain ⟨hl, hb, h⟩ := h
    have f2 := AutoSeq1.sub_tuple_tuple
    have z1 : items.size = ns.length := by rw [← hi.length]; simp
    have z2 : items2.size = ms.length := by rw [← hj.length]; simp
    wp_walk using wpAny_loadPart' hl, wpAny_loadPart' hb, wpAny_forIn_list _ (fun rest b s' => b.1 = none ∧ s' = ⟨hp, g, d, tk, os⟩ ∧ ∃ (vs ws : List Value) (ns' ms' : List Int), rest = vs.zip ws ∧
      IntsAre vs ns' ∧ IntsAre ws ms' ∧ ns'.length + items2.size = ms'.length + items.size ∧ R (.ok (.ret (.bool (lexLt ns' ms')))) ⟨hp, g, d, tk, os⟩) _
    case turn =>
      rintro ⟨y, x⟩ rest b s' ⟨hb', rfl, vs, ws, ns', ms', hz, hvi, hwi, hlen, hR⟩
      cases hvi with
      | nil => rw [List.zip_nil_left] at hz; cases hz
      | cons a t hvi' =>
        cases hwi with
        | nil => rw [List.zip_nil_right] at hz; cases hz
        | cons c u hwi' =>
          rw [List.zip_cons_cons] at hz
          injection hz with hyx hrest
          injection hyx with hy hx
          subst hy hx
          rw [lexLt_cons] at hR
          simp only [List.length_cons] at hlen
          obtain ⟨e, he, hiff⟩ := eqAt_int A.in1 ⟨hp, g, d, tk, os⟩ a t c u
          refine wpAny_bind (he prog w _ _ ?_)
          cases e with
          | true =>
            rw [if_pos (hiff.mp rfl)] at hR
            wp_walk
            exact ⟨rfl, rfl, _, _, _, _, hrest, hvi', hwi', by omega, hR⟩
          | false =>
            rw [if_neg (fun q => absurd (hiff.mpr q) Bool.false_ne_true)] at hR
            have hri := rcLt_int A.in1 ⟨hp, g, d, tk, os⟩ a t c u prog w
            wp_walk using hri
            exact ⟨_, rfl, by simpa using hR⟩
    case fin =>
      rintro ⟨b1, b2⟩ s' ⟨hb', rfl, vs, ws, ns', ms', hz, hvi, hwi, hlen, hR⟩
      simp only at hb'
      subst hb'
      have hv : lexLt ns' ms' = decide (items.size < items2.size) := by
        cases hvi with
        | nil =>
          cases hwi with
          | nil =>
            simp only [List.length_nil] at hlen
            rw [lexLt_nil_nil]
            exact (decide_eq_false (by omega)).symm
          | cons c u hw =>
            simp only [List.length_nil, List.length_cons] at hlen
            rw [lexLt_nil_cons]
            exact (decide_eq_true (by omega)).symm
        | cons a t hv =>
          cases hwi with
          | nil =>
            simp only [List.length_nil, List.length_cons] at hlen
            rw [lexLt_cons_nil]
            exact (decide_eq_false (by omega)).symm
          | cons c u hw =>
            rw [List.zip_cons_cons] at hz
            cases hz
      rw [hv] at hR
      wp_walk
      exact ⟨_, rfl, by simpa [Builtin.Tuple.tupleCompareSizes] using hR⟩
    case h =>
      exact ⟨rfl, rfl, items.toList, items2.toList, ns, ms, rfl, hi, hj, by omega, h⟩
end

section
variable {prog : Program} {w : World} {A : Around} {E : Value → Shared → Prop} {s : Shared}

theorem lt_tupInts {l b : Addr} {items items2 : Array Value} {ns ms : List Int} {Q : Value → Shared → Prop} (hl : IsTup s.heap l items) (hb : IsTup s.heap b items2) (hi : IntsAre items.toList ns) (hj : IntsAre items2.toList ms)
    (hu : A.units < cLine) (h : Q (.bool (lexLt ns ms)) s) : wpAny (model prog w) A (compareOp .Lt (.ref l) (.ref b)) Q E s := by
  obtain ⟨⟨cls, dd, data, sl⟩, ho, hc, n, hd⟩ := id hl
  obtain ⟨⟨cls2, dd2, data2, sl2⟩, ho2, hc2, n2, hd2⟩ := id hb
  simp only at hc hd hc2 hd2
  subst hc hd hc2 hd2
  exact richCompare_meets_room (op := .Lt) ⟨_, ho, rfl⟩ ⟨_, ho2, rfl⟩ PySem.F.slot_tuple_lt PySem.F.entry_tuple_lt (PySem.F.args_tuple_lt_2 _ _) (tuple_lt_ints l b items items2 n n2 dd dd2 sl sl2 ns ms hi hj)
    ⟨ho, ho2, show Value.bool (lexLt ns ms) ≠ Value.notImplemented ∧ Q (.bool (lexLt ns ms)) s from ⟨(fun x => nomatch x), h⟩⟩ hu

/-- t + u, t not empty -/
theorem cat_tup {t b : Addr} {vs ws : List Value} {Q : Value → Shared → Prop} (ht : IsTup s.heap t vs.toArray) (hb : IsTup s.heap b ws.toArray) (hv : vs ≠ [])
    (h1 : ws = [] → Q (.ref t) s) (h2 : ws ≠ [] → Q (.ref s.heap.objs.size) { s with heap := s.heap.push { cls := .type "tuple", data := .seq (vs ++ ws).toArray } })
    (hsz : vs.length + ws.length ≤ sizeLine) : wpAny (model prog w) A (binaryOp .Add (.ref t) (.ref b)) Q E s := by
  obtain ⟨⟨cls, dd, data, sl⟩, ho, hc, n, hd⟩ := id ht
  obtain ⟨⟨cls2, dd2, data2, sl2⟩, ho2, hc2, n2, hd2⟩ := id hb
  simp only at hc hd hc2 hd2
  subst hc hd hc2 hd2
  have e : vs.toArray ++ ws.toArray = (vs ++ ws).toArray := by simp
  by_cases hw : ws = []
  · exact concat_meets ⟨_, ho, rfl⟩ ⟨_, ho2, rfl⟩ noFill_tuple_add seq_tuple_add PySem.F.slot_tuple_add PySem.F.entry_tuple_add (PySem.F.args_tuple_add_2 _ _)
      (tuple_addW1 t b vs.toArray ws.toArray n n2 dd dd2 sl sl2 (by simpa using hv) (by simp [hw])) ⟨ho, ho2, h1 hw⟩
  · refine concat_meets ⟨_, ho, rfl⟩ ⟨_, ho2, rfl⟩ noFill_tuple_add seq_tuple_add PySem.F.slot_tuple_add PySem.F.entry_tuple_add (PySem.F.args_tuple_add_2 _ _)
      (tuple_addW2 t b vs.toArray ws.toArray n n2 dd dd2 sl sl2 (by simpa using hv) (by simpa using hw) (by rw [List.size_toArray, List.size_toArray]; exact hsz)) ⟨ho, ho2, ?_⟩
    rw [e]
    exact h2 hw

/-! ### t[a:b], not the whole -/
/-- a slice's bound as a place among n (d where it is left out) -/
def sIx (n d : Nat) : Option Int → Nat
  | none => d
  | some v => if v < 0 then (v + (n : Int)).toNat else min v.toNat n
theorem sIx_none (n d : Nat) : sIx n d none = d := rfl
theorem sIx_nat (n d k : Nat) : sIx n d (some (k : Int)) = min k n := by
  show (if (k : Int) < 0 then ((k : Int) + (n : Int)).toNat else min (k : Int).toNat n) = min k n
  rw [if_neg (by omega), Int.toNat_natCast]
theorem sIx_le (n d : Nat) (hd : d ≤ n) (o : Option Int) : sIx n d o ≤ n := by
  cases o with
  | none => exact hd
  | some v =>
    show (if v < 0 then (v + (n : Int)).toNat else min v.toNat n) ≤ n
    by_cases hv : v < 0
    · rw [if_pos hv]; omega
    · rw [if_neg hv]; exact Nat.min_le_right _ _
theorem clip_eq (v : Int) (n d : Nat) : (if v < 0 then max (v + (n : Int)) 0 else min v (n : Int)) = ((sIx n d (some v) : Nat) : Int) := by
  show (if v < 0 then max (v + (n : Int)) 0 else min v (n : Int)) = (((if v < 0 then (v + (n : Int)).toNat else min v.toNat n) : Nat) : Int)
  by_cases hv : v < 0
  · simp only [if_pos hv]; omega
  · simp only [if_neg hv]; omega
theorem adjust_gen (lo hi : Option Int) (n : Nat) : Builtin.Slice.sliceAdjust lo hi 1 (n : Int) = (((sIx n 0 lo : Nat) : Int), ((sIx n n hi : Nat) : Int)) := by
  have h1 : ¬ ((1 : Int) < 0) := by omega
  unfold Builtin.Slice.sliceAdjust
  simp only [h1, if_false]
  refine Prod.ext ?_ ?_
  · cases lo with
    | none => rfl
    | some v => exact clip_eq v n 0
  · cases hi with
    | none => rfl
    | some v => exact clip_eq v n n
theorem places_gen (i j : Nat) : Builtin.Slice.slicePlaces (i : Int) (j : Int) 1 = j - i := by
  unfold Builtin.Slice.slicePlaces
  have h1 : (1 : Int) > 0 := by omega
  simp only [h1, if_true, Int.ediv_one]
  split <;> omega
theorem slicePart_ {v : Value} {o : Option Int} {Q : Option Int → Shared → Prop} (p : IsPart v o) (h : Q o s) : wpAny (model prog w) A (Builtin.Slice.slicePartIndex v) Q E s := by
  cases p with
  | none => exact slicePart_none h
  | int i t => exact slicePart_int h
theorem sliceApplied_gen {sl : Addr} {vl vu : Value} {lo hi : Option Int} {n : Nat} {Q : Int × Int × Nat → Shared → Prop} (hs : s.heap.IsSliceOf sl vl vu .none) (pl : IsPart vl lo) (pu : IsPart vu hi)
    (h : Q (((sIx n 0 lo : Nat) : Int), 1, sIx n n hi - sIx n 0 lo) s) : wpAny (model prog w) A (Builtin.Slice.sliceApplied (.ref sl) (pure (n : Int))) Q E s := by
  obtain ⟨os, hos, hcs, hds⟩ := id hs
  unfold Builtin.Slice.sliceApplied Builtin.Slice.sliceFields
  refine wpAny_bind (wpAny_bind (wpAny_field hos hds (x := vl) rfl (wpAny_bind (wpAny_field hos hds (x := vu) rfl (wpAny_bind (wpAny_field hos hds (x := .none) rfl (wpAny_pure ?_)))))))
  refine wpAny_bind (slicePart_none ?_)
  show wpAny _ _ (if ((1 : Int) == 0) = true then _ else _) _ _ s
  rw [if_neg (by decide)]
  refine wpAny_bind (slicePart_ pl (wpAny_bind (slicePart_ pu (wpAny_bind (wpAny_pure ?_)))))
  show wpAny _ _ (match Builtin.Slice.sliceAdjust lo hi 1 (n : Int) with | (lo, hi) => pure (lo, (1 : Int), Builtin.Slice.slicePlaces lo hi 1)) _ _ s
  rw [adjust_gen lo hi n]
  show wpAny _ _ (pure (((sIx n 0 lo : Nat) : Int), (1 : Int), Builtin.Slice.slicePlaces ((sIx n 0 lo : Nat) : Int) ((sIx n n hi : Nat) : Int) 1)) _ _ s
  rw [places_gen]
  exact wpAny_pure h
theorem pick_gen (xs : Array Value) (i k : Nat) : ((List.range k).filterMap fun (m : Nat) => xs[((i : Int) + (m : Int) * 1).toNat]?).toArray = ((xs.toList.drop i).take k).toArray := by
  have e : (fun (m : Nat) => xs[((i : Int) + (m : Int) * 1).toNat]?) = fun m => xs[i + m]? := by
    funext m
    have : ((i : Int) + (m : Int) * 1).toNat = i + m := by omega
    rw [this]
  rw [e]
  have := pick_run xs i k
  rw [List.filterMap_map] at this
  have e2 : ((fun x => xs[x]?) ∘ fun x => i + x) = fun m => xs[i + m]? := rfl
  rw [e2] at this
  rw [this]

theorem getItem_tuple_cut {t sl : Addr} {items : Array Value} {vl vu : Value} {lo hi : Option Int} {Q : Value → Shared → Prop} (ht : IsTup s.heap t items) (hs : s.heap.IsSliceOf sl vl vu .none) (pl : IsPart vl lo) (pu : IsPart vu hi)
    (hw : ¬ (sIx items.size 0 lo = 0 ∧ sIx items.size items.size hi = items.size))
    (h : Q (.ref s.heap.objs.size) { s with heap := s.heap.push { cls := .type "tuple", data := .seq ((items.toList.drop (sIx items.size 0 lo)).take (sIx items.size items.size hi - sIx items.size 0 lo)).toArray } })
    (hsz : items.size ≤ sizeLine) : wpAny (model prog w) A (getItem (.ref t) (.ref sl)) Q E s := by
  have htake : sizeOk (.seq ((items.toList.drop (sIx items.size 0 lo)).take (sIx items.size items.size hi - sIx items.size 0 lo)).toArray) := by
    show ((items.toList.drop (sIx items.size 0 lo)).take (sIx items.size items.size hi - sIx items.size 0 lo)).toArray.size ≤ sizeLine
    rw [List.size_toArray, List.length_take, List.length_drop, Array.length_toList]
    omega
  have hj : sIx items.size items.size hi ≤ items.size := sIx_le _ _ (Nat.le_refl _) hi
  obtain ⟨os, hos, hcs, hds⟩ := id hs
  have hTs : s.TypeIs (.ref sl) "slice" := ⟨os, hos, hcs⟩
  unfold getItem
  try with_reducible refine wpAny_holding ?_
  first | refine wpAny_bind (wpAny_pure ?_) | skip
  refine wpAny_bind (wpAny_sequenceKey ht.typeIs (by decide) ?_)
  refine wpAny_bind (wpAny_callSpecial?_slot (name := Str.ofString "__getitem__") ht.typeIs PyProof.Rows.slot_tuple_getitem
    (wpAny_call_entry PyProof.Rows.slot_tuple_getitem ht.typeIs entry_tuple_getitem ?_ (args_tuple_getitem _ _)))
  show wpAny _ _ (Builtin.Tuple.tupleItemsOf (.ref t) >>= _) _ _ s
  refine wpAny_bind (tupleItemsOf_ ht ?_)
  refine wpAny_bind (wpAny_typeOf hTs ?_)
  rw [if_pos (by decide)]
  refine wpAny_bind (sliceApplied_gen hs pl pu ?_)
  have hno : ¬ ((((sIx items.size 0 lo : Nat) : Int) == 0 && (1 : Int) == 1 && (sIx items.size items.size hi - sIx items.size 0 lo) == items.size) = true) := by
    intro q
    rw [Bool.and_eq_true, Bool.and_eq_true] at q
    have q1 : ((sIx items.size 0 lo : Nat) : Int) = 0 := eq_of_beq q.1.1
    have q2 : sIx items.size items.size hi - sIx items.size 0 lo = items.size := eq_of_beq q.2
    exact hw ⟨by omega, by omega⟩
  show wpAny _ _ (if (((sIx items.size 0 lo : Nat) : Int) == 0 && (1 : Int) == 1 && (sIx items.size items.size hi - sIx items.size 0 lo) == items.size) = true then _ else _) _ _ s
  rw [if_neg hno, pick_gen]
  first
    | exact wpAny_bind (m := Builtin.Tuple.tupleExact _) (wpAny_newObj_type (wpAny_pure ⟨_, rfl, wpAny_pure h⟩) htake)
    | exact wpAny_bind (m := Builtin.Tuple.tupleExact _) (wpAny_newObj_type (wpAny_bind (wpAny_pure (wpAny_pure ⟨_, rfl, wpAny_pure h⟩))) htake)
    | exact wpAny_bind (wpAny_bind (m := Builtin.Tuple.tupleExact _) (wpAny_newObj_type (wpAny_pure (wpAny_pure ⟨_, rfl, wpAny_pure h⟩)) htake))
    | exact wpAny_bind (wpAny_bind (m := Builtin.Tuple.tupleExact _) (wpAny_newObj_type (wpAny_pure ⟨_, rfl, wpAny_pure h⟩) htake))
end
end HT

namespace L2
open PySem PySem.Spec PyProof.Rows

/-! ### the parts of a slice -/
abbrev TO := St → Hp → (Option Int → Hp → Prop) → Prop
/-- a slice's part (left out, or an int) -/
def PO (X : Cx) (e : Option Expr) (t : TO) : Prop :=
  ∀ (pins : List (Addr × Obj)) (s : Shared) (σ : St) (H : Hp) (Q : Option Int → Hp → Prop), Inv X pins σ H s → t σ H Q →
    wpAny (model X.prog X.w) X.A (evalPart e X.env) (fun u s' => ∃ o H', Inv X pins σ H' s' ∧ IsPart u o ∧ Q o H') X.xe s
def tNoPart : TO := fun _ H Q => Q none H
def tPart (t : TE) : TO := fun σ H Q => t σ H fun x H1 => ∃ i, x = .int i ∧ Q (some i) H1

theorem intsAre_of {ns : List Int} : ∀ {us : List Value}, Vals (ns.map V.int) us → IntsAre us ns := by
  induction ns with
  | nil => intro us r; rw [List.map_nil] at r; cases r; exact .nil
  | cons n ns ih =>
    intro us r
    rw [List.map_cons] at r
    cases r with
    | cons r1 r2 =>
      obtain ⟨t, e⟩ := r1
      subst e
      exact .cons n t (ih r2)

section
variable {X : Cx} {e : Expr} {te : TE} {lo hi : Option Expr} {tl th : TO} {pos p2 : Pos}

theorem po_none : PO X none tNoPart := by
  intro pins s σ H Q I h
  rw [evalPart_none]
  exact wpAny_pure ⟨none, H, I, .none, h⟩
theorem po_some (h : PE X e te) : PO X (some e) (tPart te) := by
  intro pins s σ H Q I hw
  rw [evalPart_some]
  refine thn (h pins s σ H _ I hw) fun u s1 ⟨x, H1, I1, r1, q1⟩ => ?_
  obtain ⟨i, rfl, q⟩ := q1
  obtain ⟨t, rfl⟩ := r1
  exact ⟨some i, H1, I1, .int i t, q⟩

/-- what a slice of a value is, by values: the slice object stands at sl -/
def SlR (X : Cx) (r : V → Option Int → Option Int → Hp → VK → Prop) : Prop :=
  ∀ (pins : List (Addr × Obj)) (s : Shared) (σ : St) (H : Hp) (x : V) (v vl vu : Value) (lo hi : Option Int) (sl : Addr) (Q : VK), Inv X pins σ H s → RelV x v → s.heap.IsSliceOf sl vl vu .none → IsPart vl lo → IsPart vu hi → r x lo hi H Q →
    ∃ T id, typeLookup (.type T) "__getitem__" = pure (some (.builtin id)) ∧ s.TypeIs v T ∧ wpAny (model X.prog X.w) X.A (getItem v (.ref sl)) (EP X pins σ Q) X.xe s
theorem SlR.or {r r' : V → Option Int → Option Int → Hp → VK → Prop} (h : SlR X r) (h' : SlR X r') : SlR X (fun x lo hi H Q => r x lo hi H Q ∨ r' x lo hi H Q) := by
  intro pins s σ H x v vl vu lo hi sl Q I rx hs pl pu q
  rcases q with q | q
  · exact h pins s σ H x v vl vu lo hi sl Q I rx hs pl pu q
  · exact h' pins s σ H x v vl vu lo hi sl Q I rx hs pl pu q
def tSl (r : V → Option Int → Option Int → Hp → VK → Prop) (te : TE) (tl th : TO) : TE := fun σ H Q => te σ H fun x H1 => tl σ H1 fun l H2 => th σ H2 fun u H3 => r x l u H3 Q
/-- a[lo:hi], any a -/
theorem pe_slice {r : V → Option Int → Option Int → Hp → VK → Prop} (hr : SlR X r) (he : PE X e te) (hl : PO X lo tl) (hu : PO X hi th) : PE X (.Subscript e (.Slice lo hi none p2) pos) (tSl r te tl th) := by
  intro pins s σ H Q I h
  refine Subscript_ (thn (he pins s σ H _ I h) fun v s1 ⟨x, H1, I1, r1, q1⟩ => ?_)
  refine wpAny_Slice (thn (hl pins s1 σ H1 _ I1 q1) fun vl s2 ⟨l, H2, I2, pl, q2⟩ => thn (hu pins s2 σ H2 _ I2 q2) fun vu s3 ⟨u, H3, I3, pu, q3⟩ => ?_)
  rw [evalPart_none]
  refine wpAny_pure ?_
  have I4 : Inv X pins σ H3 { s3 with heap := s3.heap.push { cls := .type "slice", data := .fields #[vl, vu, .none] } } := I3.kept (t' := s3.toks) fun b ob q => Heap.get?_push_of_some _ q
  obtain ⟨T, id, hT, ht, hg⟩ := hr pins { s3 with heap := s3.heap.push { cls := .type "slice", data := .fields #[vl, vu, .none] } } σ H3 x v vl vu l u s3.heap.objs.size Q I4 r1 (Heap.IsSliceOf.new ..) pl pu q3
  show wpAny (model X.prog X.w) X.A (subscriptTail e (.Slice lo hi none p2) v (.ref s3.heap.objs.size)) (EP X pins σ Q) X.xe { s3 with heap := s3.heap.push { cls := .type "slice", data := .fields #[vl, vu, .none] } }
  exact tail_any (ops := [.ref s3.heap.objs.size, v]) ht hT hg (by with_unfolding_all rfl)

/-- the items of xs[lo:hi] -/
def cutV (xs : List V) (lo hi : Option Int) : List V := (xs.drop (HT.sIx xs.length 0 lo)).take (HT.sIx xs.length xs.length hi - HT.sIx xs.length 0 lo)
theorem cutV_length (xs : List V) (lo hi : Option Int) : (cutV xs lo hi).length ≤ xs.length := by
  unfold cutV
  rw [List.length_take, List.length_drop]
  omega
/-- t[lo:hi], not the whole of it (the whole would be t itself) -/
def rSlT (K : PySem.W.Frag) : V → Option Int → Option Int → Hp → VK → Prop := fun x lo hi H Q => ∃ a xs, x = .ref a ∧ SqT K H a xs ∧
  ¬ (HT.sIx xs.length 0 lo = 0 ∧ HT.sIx xs.length xs.length hi = xs.length) ∧ ∀ p, H p = none → Q (.ref p) (upd H p (.tup (cutV xs lo hi)))
theorem sl_tup : SlR X (rSlT X.K) := by
  intro pins s σ H x v vl vu lo hi sl Q I rx hs pl pu h
  obtain ⟨a, xs, rfl, hx, hw, q⟩ := h
  cases rx
  obtain ⟨its, r, ht, hz⟩ := I.tuple hx
  have hlen : its.toArray.size = xs.length := by rw [List.size_toArray]; exact r.length.symm
  refine ⟨"tuple", _, PyProof.Rows.slot_tuple_getitem.lookup, ht.typeIs, ?_⟩
  refine HT.getItem_tuple_cut ht hs pl pu (by rw [hlen]; exact hw) ?_ (by rw [hlen]; exact hz)
  rw [hlen]
  refine ⟨.ref s.heap.objs.size, _, I.laid (t' := s.toks) (o := .tup (cutV xs lo hi)) (fun b ob q => Heap.get?_push_of_some _ q) (Nat.le_refl _) ?_, rfl, q _ (I.hok.fresh (Nat.le_refl _))⟩
  exact ⟨Nat.le_trans (cutV_length xs lo hi) hz, _, (r.drop (HT.sIx xs.length 0 lo)).take (HT.sIx xs.length xs.length hi - HT.sIx xs.length 0 lo), IsTup.new _ _⟩

/-! ### t < u, t + u -/
def rLtT (K : PySem.W.Frag) : R2 := fun x y H Q => ∃ a b ns ms, x = .ref a ∧ y = .ref b ∧ SqT K H a (ns.map V.int) ∧ SqT K H b (ms.map V.int) ∧ Q (.bl (HT.lexLt ns ms)) H
theorem op_ltT (hu : X.A.units < cLine) : OpR X (compareOp .Lt) (rLtT X.K) := by
  intro pins s σ H x y v u Q I rx ry h
  obtain ⟨a, b, ns, ms, rfl, rfl, ha, hb, q⟩ := h
  cases rx
  cases ry
  obtain ⟨its, r1, p1, _⟩ := I.tuple ha
  obtain ⟨its2, r2, p2, _⟩ := I.tuple hb
  have i1 : IntsAre its.toArray.toList ns := intsAre_of r1
  have i2 : IntsAre its2.toArray.toList ms := intsAre_of r2
  exact HT.lt_tupInts p1 p2 i1 i2 hu ⟨.bl (HT.lexLt ns ms), H, I, rfl, q⟩
/-- t + u, t not empty: u empty gives t itself -/
def rCatT (K : PySem.W.Frag) : R2 := fun x y H Q => ∃ a b xs ys, x = .ref a ∧ y = .ref b ∧ SqT K H a xs ∧ SqT K H b ys ∧ xs ≠ [] ∧ xs.length + ys.length ≤ sizeLine ∧
  (ys = [] → Q (.ref a) H) ∧ (ys ≠ [] → ∀ p, H p = none → Q (.ref p) (upd H p (.tup (xs ++ ys))))
theorem Vals.nil_iff {xs : List V} {us : List Value} (r : Vals xs us) : us = [] ↔ xs = [] := by
  cases r with
  | nil => simp
  | cons _ _ => simp
theorem op_catT : OpR X (binaryOp .Add) (rCatT X.K) := by
  intro pins s σ H x y v u Q I rx ry h
  obtain ⟨a, b, xs, ys, rfl, rfl, ha, hb, hx, hz, q1, q2⟩ := h
  cases rx
  cases ry
  obtain ⟨its, r1, p1, _⟩ := I.tuple ha
  obtain ⟨its2, r2, p2, _⟩ := I.tuple hb
  refine HT.cat_tup p1 p2 (fun z => hx (r1.nil_iff.mp z)) (fun z => ⟨.ref a, H, I, rfl, q1 (r2.nil_iff.mp z)⟩) (fun z => ?_) (by rw [← r1.length, ← r2.length]; exact hz)
  refine ⟨.ref s.heap.objs.size, _, I.laid (t' := s.toks) (o := .tup (xs ++ ys)) (fun b ob q => Heap.get?_push_of_some _ q) (Nat.le_refl _) ?_, rfl, q2 (fun w => z (r2.nil_iff.mpr w)) _ (I.hok.fresh (Nat.le_refl _))⟩
  exact ⟨by rw [List.length_append]; exact hz, _, r1.append r2, IsTup.new _ _⟩
/-- tuple(t) -/
theorem call_tupleT : CallR X (.type "tuple") (fun xs H Q => ∃ a ys, xs = [.ref a] ∧ SqT X.K H a ys ∧ Q (.ref a) H) := by
  intro pins s σ H xs us Q I r h
  obtain ⟨a, ys, rfl, ha, q⟩ := h
  obtain ⟨u, rfl, ru⟩ := vals1 r
  cases ru
  obtain ⟨its, _, p1, _⟩ := I.tuple ha
  exact call_tuple_same (items := its.toArray) p1 ⟨.ref a, H, I, rfl, q⟩
end
end L2

namespace L2
open PySem PySem.Spec PyProof.Rows

/-! ### places -/
/-- the place that an index of any sign means -/
def ixN (n : Nat) (i : Int) : Option Nat := if 0 ≤ i then (if i < n then some i.toNat else none) else if -(n : Int) ≤ i then some (i + n).toNat else none
def atI {α : Type} (xs : List α) (i : Int) : Option α := (ixN xs.length i).bind fun j => xs[j]?
theorem ixN_seq {n : Nat} {i : Int} {j : Nat} (h : ixN n i = some j) : seqIndex? i n = some j ∧ j < n ∧ -(n : Int) ≤ i ∧ i < n := by
  unfold ixN at h
  by_cases h0 : 0 ≤ i
  · rw [if_pos h0] at h
    by_cases h1 : i < n
    · rw [if_pos h1] at h
      have e : i.toNat = j := Option.some.inj h
      exact ⟨by rw [seqIndex_of h0 h1, e], by omega, by omega, h1⟩
    · rw [if_neg h1] at h; cases h
  · rw [if_neg h0] at h
    by_cases h1 : -(n : Int) ≤ i
    · rw [if_pos h1] at h
      have e : (i + n).toNat = j := Option.some.inj h
      exact ⟨by rw [seqIndex_neg (by omega) h1, e], by omega, h1, by omega⟩
    · rw [if_neg h1] at h; cases h
theorem atI_get {α : Type} {xs : List α} {i : Int} {v : α} (h : atI xs i = some v) : ∃ j, seqIndex? i xs.length = some j ∧ xs[j]? = some v ∧ j < xs.length ∧ -(xs.length : Int) ≤ i ∧ i < xs.length := by
  unfold atI at h
  cases e : ixN xs.length i with
  | none => rw [e] at h; cases h
  | some j =>
    rw [e] at h
    obtain ⟨h1, h2, h3, h4⟩ := ixN_seq e
    exact ⟨j, h1, h, h2, h3, h4⟩
theorem atI_nat {α : Type} {xs : List α} {j : Nat} {v : α} (h : xs[j]? = some v) : atI xs (j : Int) = some v := by
  have hj : j < xs.length := (List.getElem?_eq_some_iff.mp h).1
  have e : ixN xs.length (j : Int) = some j := by
    unfold ixN
    rw [if_pos (by omega), if_pos (by omega)]; simp
  unfold atI; rw [e]; exact h
theorem atI_last {α : Type} (xs : List α) (v : α) : atI (xs ++ [v]) (-1) = some v := by
  have hl : (xs ++ [v]).length = xs.length + 1 := by simp
  have e : ixN (xs ++ [v]).length (-1) = some xs.length := by
    unfold ixN
    rw [hl, if_neg (by decide), if_pos (by omega)]
    congr 1
    omega
  unfold atI
  rw [e]
  show (xs ++ [v])[xs.length]? = some v
  simp

/-! ### what may be subscripted -/
/-- what stands as an index of a plain subscript -/
def PlainIx (b : Expr) : Prop := ∀ o i, subscripted b false o i = operate [o, i] (getItem o i)
/-- a subscript by values -/
def IxR (X : Cx) (r : R2) : Prop :=
  ∀ (value slice : Expr) (pins : List (Addr × Obj)) (s : Shared) (σ : St) (H : Hp) (x y : V) (v u : Value) (Q : VK), Inv X pins σ H s → RelV x v → RelV y u → r x y H Q →
    subscripted slice false v u = operate [v, u] (getItem v u) → wpAny (model X.prog X.w) X.A (subscriptTail value slice v u) (EP X pins σ Q) X.xe s
/-- a call of a builtin's method by values: the receiver, the arguments -/
def MtR (X : Cx) (id : String) (r : V → List V → Hp → VK → Prop) : Prop :=
  ∀ (pins : List (Addr × Obj)) (s : Shared) (σ : St) (H : Hp) (x : V) (xs : List V) (v : Value) (us : List Value) (Q : VK), Inv X pins σ H s → RelV x v → Vals xs us → r x xs H Q →
    wpAny (model X.prog X.w) X.A (call (.builtin id) (v :: us)) (EP X pins σ Q) X.xe s
section
variable {X : Cx} {a b : Expr} {ta tb : TE} {pos : Pos}
theorem IxR.or {r r' : R2} (h : IxR X r) (h' : IxR X r') : IxR X (fun x y H Q => r x y H Q ∨ r' x y H Q) := by
  intro value slice pins s σ H x y v u Q I rx ry q hs
  rcases q with q | q
  · exact h value slice pins s σ H x y v u Q I rx ry q hs
  · exact h' value slice pins s σ H x y v u Q I rx ry q hs
theorem MtR.or {id : String} {r r' : V → List V → Hp → VK → Prop} (h : MtR X id r) (h' : MtR X id r') : MtR X id (fun x xs H Q => r x xs H Q ∨ r' x xs H Q) := by
  intro pins s σ H x xs v us Q I rx rs q
  rcases q with q | q
  · exact h pins s σ H x xs v us Q I rx rs q
  · exact h' pins s σ H x xs v us Q I rx rs q
/-- a[b] -/
theorem pe_ix {r : R2} (hr : IxR X r) (ha : PE X a ta) (hb : PE X b tb) (hs : PlainIx b) : PE X (.Subscript a b pos) (tOp r ta tb) := by
  intro pins s σ H Q I h
  exact Subscript_ (binT ha hb I h fun v u s2 x y H2 I2 rx ry q => hr a b pins s2 σ H2 x y v u Q I2 rx ry q (hs _ _))

def rIxL (K : PySem.W.Frag) : R2 := fun x y H Q => ∃ p xs i v, x = .ref p ∧ y = .int i ∧ SqL K H p xs ∧ atI xs i = some v ∧ Q v H
def rIxT (K : PySem.W.Frag) : R2 := fun x y H Q => ∃ p xs i v, x = .ref p ∧ y = .int i ∧ SqT K H p xs ∧ atI xs i = some v ∧ Q v H
def rIxS : R2 := fun x y H Q => ∃ z i c, x = .str z ∧ y = .int i ∧ z.length ≤ sizeLine ∧ atI z.cps.toList i = some c ∧ Q (.str ⟨#[c]⟩) H
theorem ix_list : IxR X (rIxL X.K) := by
  intro value slice pins s σ H x y v u Q I rx ry h hs
  obtain ⟨p, xs, i, z, rfl, rfl, hq, he, q⟩ := h
  cases rx
  obtain ⟨t, rfl⟩ := ry
  obtain ⟨its, r, pl, hz⟩ := I.list hq
  obtain ⟨j, h1, h2, h3, h4, h5⟩ := atI_get he
  obtain ⟨w, ew, rw'⟩ := r.get h2
  have hl := r.length
  have hn := line63
  have fin : EP X pins σ Q w s := ⟨z, H, I, rw', q⟩
  by_cases h0 : 0 ≤ i
  · have hj : i.toNat = j := by
      rw [seqIndex_of h0 h5] at h1
      exact Option.some.inj h1
    exact item_listR pl.isList h0 (by omega) (by rw [hj]; simpa using ew) fin hs
  · have hj : (i + (its.toArray.size : Int)).toNat = j := by
      rw [seqIndex_neg (by omega) h4] at h1
      rw [List.size_toArray, ← hl]
      exact Option.some.inj h1
    exact subscriptTail_builtinR (x := w) pl.isList.typeIs slot_list_getitem.lookup
      (wpAny_getItem_list_neg (Q := fun r s' => r = w ∧ EP X pins σ Q r s') pl.isList (by omega) (by rw [List.size_toArray] <;> omega) (by omega) (by rw [hj]; simpa using ew) ⟨rfl, fin⟩) hs
theorem ix_tup : IxR X (rIxT X.K) := by
  intro value slice pins s σ H x y v u Q I rx ry h hs
  obtain ⟨p, xs, i, z, rfl, rfl, hq, he, q⟩ := h
  cases rx
  obtain ⟨t, rfl⟩ := ry
  obtain ⟨its, r, pl, hz⟩ := I.tuple hq
  obtain ⟨j, h1, h2, h3, h4, h5⟩ := atI_get he
  obtain ⟨w, ew, rw'⟩ := r.get h2
  have hl := r.length
  have hn := line63
  have fin : EP X pins σ Q w s := ⟨z, H, I, rw', q⟩
  exact subscriptTail_builtinR (x := w) pl.typeIs slot_tuple_getitem.lookup
    (getItem_tuple (j := j) (Q := fun r s' => r = w ∧ EP X pins σ Q r s') pl (by omega) (by omega) (by rw [List.size_toArray, ← hl]; exact h1) (by simpa using ew) ⟨rfl, fin⟩) hs
theorem ix_str : IxR X rIxS := by
  intro value slice pins s σ H x y v u Q I rx ry h hs
  obtain ⟨z, i, c, rfl, rfl, hz, he, q⟩ := h
  obtain ⟨t, rfl⟩ := rx
  obtain ⟨t', rfl⟩ := ry
  obtain ⟨j, h1, h2, h3, h4, h5⟩ := atI_get he
  have hl : z.cps.toList.length = z.length := by simp [Str.length]
  rw [hl] at h1 h4 h5
  have hn := line63
  exact tail_any (typeIs_str s z t) slot_str_getitem.lookup (getItem_str (c := c) (by
    have e1 : decide (i < -(2 ^ 63 : Int)) = false := decide_eq_false (by omega)
    have e2 : decide (i ≥ 2 ^ 63) = false := decide_eq_false (by omega)
    rw [e1, e2, Bool.or_false]) (by rw [h1]; simpa using h2) ⟨.str ⟨#[c]⟩, H, I.tok _, ⟨_, rfl⟩, q⟩) hs
/-- list, tuple or str -/
def rIx (K : PySem.W.Frag) : R2 := fun x y H Q => rIxL K x y H Q ∨ rIxT K x y H Q ∨ rIxS x y H Q
theorem ix_seq : IxR X (rIx X.K) := ix_list.or (ix_tup.or ix_str)

/-! ### xs[i] = v, any sign -/
/-- the list's object behind a store -/
theorem mapSeq_set (its : List Value) (n j : Nat) (u : Value) : Obj.mapSeq (·.setIfInBounds j u) { cls := .type "list", data := .seq its.toArray n } = { cls := .type "list", data := .seq (its.set j u).toArray n } := by
  simp [Obj.mapSeq]
theorem Inv.lst {pins : List (Addr × Obj)} {σ : St} {H : Hp} {s : Shared} {p : Addr} {xs : List V} (I : Inv X pins σ H s) (h : H p = some (.lst xs)) :
    ∃ (its : List Value) (n : Nat), Vals xs its ∧ s.heap.get? p = some { cls := .type "list", data := .seq its.toArray n } ∧ xs.length ≤ sizeLine := by
  obtain ⟨z, its, n, r, e⟩ := I.hok p _ h
  exact ⟨its, n, r, e, z⟩
/-- the list at p is written by an update of its object -/
theorem Inv.lstUpd {pins : List (Addr × Obj)} {σ : St} {H : Hp} {s : Shared} {p : Addr} {xs ys : List V} {its its' : List Value} {n n' : Nat} {f : Obj → Obj} (I : Inv X pins σ H s) (h : H p = some (.lst xs))
    (ho : s.heap.get? p = some { cls := .type "list", data := .seq its.toArray n }) (hf : f { cls := .type "list", data := .seq its.toArray n } = { cls := .type "list", data := .seq its'.toArray n' }) (r : Vals ys its') (hz : ys.length ≤ sizeLine) (t : Nat) :
    Inv X pins σ (upd H p (.lst ys)) { s with heap := s.heap.update p f, toks := t } := by
  have e : (s.heap.update p f).get? p = some { cls := .type "list", data := .seq its'.toArray n' } := by
    rw [Heap.get?_update_self f ho (by rw [hf] <;> rfl), hf]
  refine I.write (x := p) (e := p) (by rw [h]; trivial) (.inl rfl) (fun b u hb q => (Heap.get?_update_other _ _ (Ne.symm hb)).trans q) ⟨_, e⟩ ?_
  exact ⟨hz, its', n', r, e⟩
def rSetL : V → V → V → Hp → (Hp → Prop) → Prop := fun o i v H Q => ∃ p xs k j, o = .ref p ∧ i = .int k ∧ H p = some (.lst xs) ∧ ixN xs.length k = some j ∧ Q (upd H p (.lst (xs.set j v)))
theorem set_list : PSet X rSetL := by
  intro pins s σ H o i v ov iv u Q I ro ri rv h
  obtain ⟨p, xs, k, j, rfl, rfl, hp, hj, q⟩ := h
  cases ro
  obtain ⟨t, rfl⟩ := ri
  obtain ⟨its, n, r, ho, hz⟩ := I.lst hp
  obtain ⟨h1, h2, h3, h4⟩ := ixN_seq hj
  have hl := r.length
  have hn := line63
  have I' : Inv X pins σ (upd H p (.lst (xs.set j v))) { s with heap := s.heap.update p (Obj.mapSeq (·.setIfInBounds j u)) } :=
    I.lstUpd hp ho (mapSeq_set its n j u) (r.set rv j) (by rw [List.length_set]; exact hz) s.toks
  by_cases h0 : 0 ≤ k
  · have hk : k.toNat = j := by
      rw [seqIndex_of h0 h4] at h1
      exact Option.some.inj h1
    exact PySem.W.ki_setAt ho h0 (by omega) (by rw [List.size_toArray, ← hl]; exact h4) (by rw [hk]; exact ⟨_, I', q⟩)
  · have hk : (k + (its.toArray.size : Int)).toNat = j := by
      rw [seqIndex_neg (by omega) h3] at h1
      rw [List.size_toArray, ← hl]
      exact Option.some.inj h1
    exact PySem.W.ki_setBack ho (by omega) (by rw [List.size_toArray, ← hl]; exact h3) (by omega) (by rw [hk]; exact ⟨_, I', q⟩)

/-! ### slices -/
theorem slice_bounds (lo hi : Option Int) (n : Nat) : (sliceBounds lo hi none n).1 = ((HT.sIx n 0 lo : Nat) : Int) ∧ (sliceBounds lo hi none n).2.1 = ((HT.sIx n n hi : Nat) : Int) ∧ (sliceBounds lo hi none n).2.2 = 1 := by
  refine ⟨?_, ?_, rfl⟩
  · cases lo with
    | none => simp [sliceBounds, HT.sIx]
    | some i =>
      simp only [sliceBounds, HT.sIx, Option.getD_none, show (1 : Int) > 0 by decide, if_true]
      by_cases h : i < 0
      · simp only [h, if_true] <;> omega
      · simp only [h, if_false] <;> omega
  · cases hi with
    | none => simp [sliceBounds, HT.sIx]
    | some i =>
      simp only [sliceBounds, HT.sIx, Option.getD_none, show (1 : Int) > 0 by decide, if_true]
      by_cases h : i < 0
      · simp only [h, if_true] <;> omega
      · simp only [h, if_false] <;> omega
theorem slicePick_cut (its : List Value) (lo hi : Option Int) : slicePick its.toArray lo hi none = ((its.drop (HT.sIx its.length 0 lo)).take (HT.sIx its.length its.length hi - HT.sIx its.length 0 lo)).toArray := by
  obtain ⟨h1, h2, h3⟩ := slice_bounds lo hi its.toArray.size
  unfold slicePick
  rw [h1, h2, h3]
  simp only [sliceRange_one, pick_run, List.size_toArray] <;> rfl
/-- xs[lo:hi] of a list: a new list -/
def rSlL (K : PySem.W.Frag) : V → Option Int → Option Int → Hp → VK → Prop := fun x lo hi H Q => ∃ a xs, x = .ref a ∧ SqL K H a xs ∧ ∀ p, H p = none → Q (.ref p) (upd H p (.lst (cutV xs lo hi)))
theorem sl_list : SlR X (rSlL X.K) := by
  intro pins s σ H x v vl vu lo hi sl Q I rx hs pl pu h
  obtain ⟨a, xs, rfl, hx, q⟩ := h
  cases rx
  obtain ⟨its, r, ht, hz⟩ := I.list hx
  have hlen := r.length
  refine ⟨"list", _, slot_list_getitem.lookup, ht.isList.typeIs, ?_⟩
  refine wpAny_getItem_list_slice ht.isList hs pl pu .none (by simp) ?_ (by rw [List.size_toArray] <;> omega)
  rw [slicePick_cut, ← hlen]
  refine ⟨.ref s.heap.objs.size, _, I.laid (t' := s.toks) (o := .lst (cutV xs lo hi)) (fun b ob q => Heap.get?_push_of_some _ q) (Nat.le_refl _) ?_, rfl, q _ (I.hok.fresh (Nat.le_refl _))⟩
  exact ⟨Nat.le_trans (cutV_length xs lo hi) hz, _, 0, (r.drop (HT.sIx xs.length 0 lo)).take (HT.sIx xs.length xs.length hi - HT.sIx xs.length 0 lo), Heap.get?_push_size _ rfl⟩

/-! ### in, not in: flat items -/
def flatV : V → Bool
  | .non => true
  | .bl _ => true
  | .int _ => true
  | .str _ => true
  | _ => false
/-- == of flat values -/
def eqV : V → V → Bool
  | .non, .non => true
  | .bl a, .bl b => a == b
  | .bl a, .int b => (if a then 1 else 0) == b
  | .int a, .bl b => a == (if b then 1 else 0)
  | .int a, .int b => a == b
  | .str a, .str b => a == b
  | _, _ => false
theorem eqAt_V {A : Around} {s : Shared} {y x : V} {u v : Value} (ry : RelV y u) (rx : RelV x v) (fy : flatV y = true) (fx : flatV x = true) : SeqAt.EqAt A s u v (eqV y x) := by
  cases y with
  | non =>
    cases ry
    cases x with
    | non => cases rx; exact SeqAt.EqAt.same _
    | bl b => cases rx; exact SeqAt.EqAt.none_bool b
    | int b => obtain ⟨t, rfl⟩ := rx; exact SeqAt.EqAt.none_int b t
    | str b => obtain ⟨t, rfl⟩ := rx; exact SeqAt.EqAt.none_str b t
    | _ => exact absurd (show false = true from fx) Bool.false_ne_true
  | bl a =>
    cases ry
    cases x with
    | non => cases rx; exact SeqAt.EqAt.bool_none a
    | bl b => cases rx; exact SeqAt.EqAt.bool_bool a b
    | int b => obtain ⟨t, rfl⟩ := rx; exact SeqAt.EqAt.bool_int a b t
    | str b => obtain ⟨t, rfl⟩ := rx; exact SeqAt.EqAt.bool_str a b t
    | _ => exact absurd (show false = true from fx) Bool.false_ne_true
  | int a =>
    obtain ⟨t', rfl⟩ := ry
    cases x with
    | non => cases rx; exact SeqAt.EqAt.int_none a t'
    | bl b => cases rx; exact SeqAt.EqAt.int_bool a t' b
    | int b => obtain ⟨t, rfl⟩ := rx; exact SeqAt.EqAt.int_int a t' b t
    | str b => obtain ⟨t, rfl⟩ := rx; exact SeqAt.EqAt.int_str a t' b t
    | _ => exact absurd (show false = true from fx) Bool.false_ne_true
  | str a =>
    obtain ⟨t', rfl⟩ := ry
    cases x with
    | non => cases rx; exact SeqAt.EqAt.str_none a t'
    | bl b => cases rx; exact SeqAt.EqAt.str_bool a t' b
    | int b => obtain ⟨t, rfl⟩ := rx; exact SeqAt.EqAt.str_int a t' b t
    | str b => obtain ⟨t, rfl⟩ := rx; exact SeqAt.EqAt.str_str a t' b t
    | _ => exact absurd (show false = true from fx) Bool.false_ne_true
  | _ => exact absurd (show false = true from fy) Bool.false_ne_true
/-- the items' answers, read off the values (a value's own answer does not lean on its token) -/
def eqU (x : V) (u : Value) : Bool := match u with
  | .none => eqV .non x
  | .bool b => eqV (.bl b) x
  | .int i _ => eqV (.int i) x
  | .str z _ => eqV (.str z) x
  | _ => false
theorem eqU_of {x y : V} {u : Value} (r : RelV y u) (f : flatV y = true) : eqU x u = eqV y x := by
  cases y with
  | non => cases r; rfl
  | bl b => cases r; rfl
  | int i => obtain ⟨t, rfl⟩ := r; rfl
  | str z => obtain ⟨t, rfl⟩ := r; rfl
  | _ => exact absurd (show false = true from f) Bool.false_ne_true
theorem any_eqU {x : V} : ∀ {xs : List V} {us : List Value}, Vals xs us → xs.all flatV = true → us.any (eqU x) = xs.any fun y => eqV y x
  | _, _, .nil, _ => rfl
  | y :: xs, u :: us, .cons r t, f => by
    rw [List.all_cons, Bool.and_eq_true] at f
    rw [List.any_cons, List.any_cons, eqU_of r f.1, any_eqU t f.2]
theorem mem_eqAt {A : Around} {s : Shared} {x : V} {v : Value} (rx : RelV x v) (fx : flatV x = true) : ∀ {xs : List V} {us : List Value}, Vals xs us → xs.all flatV = true → ∀ u ∈ us, SeqAt.EqAt A s u v (eqU x u)
  | _, _, .nil, _ => fun u hu => by cases hu
  | y :: xs, u :: us, .cons r t, f => fun u' hu => by
    rw [List.all_cons, Bool.and_eq_true] at f
    rcases List.mem_cons.mp hu with rfl | hu
    · rw [eqU_of r f.1]; exact eqAt_V r rx f.1 fx
    · exact mem_eqAt rx fx t f.2 u' hu
def inV (x : V) (xs : List V) : Bool := xs.any fun y => eqV y x
/-- x in a list or tuple of flat items -/
def rIn (K : PySem.W.Frag) (neg : Bool) : R2 := fun x y H Q => ∃ p xs, y = .ref p ∧ (SqL K H p xs ∨ SqT K H p xs) ∧ flatV x = true ∧ xs.all flatV = true ∧ Q (.bl (if neg then !inV x xs else inV x xs)) H
theorem op_in_seq : OpR X (compareOp .In) (rIn X.K false) := by
  intro pins s σ H x y v u Q I rx ry h
  obtain ⟨p, xs, rfl, hq, fx, fs, q⟩ := h
  cases ry
  rcases hq with hq | hq
  · obtain ⟨its, r, pl, hz⟩ := I.list hq
    refine SeqAt.in_listAt (eqU x) pl.isList (fun w hw => mem_eqAt rx fx r fs w (by simpa using hw)) ⟨.bl _, H, I, rfl, ?_⟩
    rw [show its.toArray.any (eqU x) = its.any (eqU x) by simp, any_eqU r fs]
    exact q
  · obtain ⟨its, r, pl, hz⟩ := I.tuple hq
    refine SeqAt.in_tupleAt (eqU x) pl (fun w hw => mem_eqAt rx fx r fs w (by simpa using hw)) ⟨.bl _, H, I, rfl, ?_⟩
    rw [show its.toArray.any (eqU x) = its.any (eqU x) by simp, any_eqU r fs]
    exact q
theorem op_notIn_seq : OpR X (compareOp .NotIn) (rIn X.K true) := by
  intro pins s σ H x y v u Q I rx ry h
  obtain ⟨p, xs, rfl, hq, fx, fs, q⟩ := h
  cases ry
  rcases hq with hq | hq
  · obtain ⟨its, r, pl, hz⟩ := I.list hq
    refine SeqAt.notIn_listAt (eqU x) pl.isList (fun w hw => mem_eqAt rx fx r fs w (by simpa using hw)) ⟨.bl _, H, I, rfl, ?_⟩
    rw [show its.toArray.any (eqU x) = its.any (eqU x) by simp, any_eqU r fs]
    exact q
  · obtain ⟨its, r, pl, hz⟩ := I.tuple hq
    refine SeqAt.notIn_tupleAt (eqU x) pl (fun w hw => mem_eqAt rx fx r fs w (by simpa using hw)) ⟨.bl _, H, I, rfl, ?_⟩
    rw [show its.toArray.any (eqU x) = its.any (eqU x) by simp, any_eqU r fs]
    exact q
theorem op_notIn_str : OpR X (compareOp .NotIn) (fun x y H Q => ∃ i j, x = .str i ∧ y = .str j ∧ Q (.bl (!(!(Builtin.Str.occurrences j i 0 j.length 1).isEmpty))) H) := by
  intro pins s σ H x y v u Q I rx ry h
  obtain ⟨i, j, rfl, rfl, q⟩ := h
  obtain ⟨t, rfl⟩ := rx
  obtain ⟨t', rfl⟩ := ry
  exact notIn_str ⟨.bl _, H, I, rfl, q⟩

/-! ### len, list(x), tuple(x) of any list or tuple that is read -/
theorem call_len_seq : CallR X (.builtin "len") (fun xs H Q => ∃ p ys, xs = [.ref p] ∧ (SqL X.K H p ys ∨ SqT X.K H p ys) ∧ Q (.int ys.length) H) := by
  intro pins s σ H xs us Q I r h
  obtain ⟨p, ys, rfl, hq, q⟩ := h
  obtain ⟨u, rfl, rx⟩ := vals1 r
  cases rx
  have hn := line63
  rcases hq with hq | hq
  · obtain ⟨its, r', pl, hz⟩ := I.list hq
    have hlen := r'.length
    exact Calls.call_len_list pl.isList (by simp only [List.size_toArray] <;> omega) ⟨.int ys.length, H, I.tok _, ⟨s.toks + 1, by rw [List.size_toArray, hlen]⟩, q⟩
  · obtain ⟨its, r', pl, hz⟩ := I.tuple hq
    have hlen := r'.length
    exact len_tuple pl (by simp only [List.size_toArray] <;> omega) ⟨.int ys.length, H, I.tok _, ⟨s.toks + 1, by rw [List.size_toArray, hlen]⟩, q⟩
theorem call_len_str : CallR X (.builtin "len") (fun xs H Q => ∃ z, xs = [.str z] ∧ z.length ≤ sizeLine ∧ Q (.int z.length) H) := by
  intro pins s σ H xs us Q I r h
  obtain ⟨z, rfl, hz, q⟩ := h
  obtain ⟨u, rfl, t, rfl⟩ := vals1 r
  have hn := line63
  exact len_str (by omega) ⟨.int z.length, H, I.tok _, ⟨_, rfl⟩, q⟩
theorem CallR.or {f : Value} {r r' : List V → Hp → VK → Prop} (h : CallR X f r) (h' : CallR X f r') : CallR X f (fun xs H Q => r xs H Q ∨ r' xs H Q) := by
  intro pins s σ H xs us Q I rs q
  rcases q with q | q
  · exact h pins s σ H xs us Q I rs q
  · exact h' pins s σ H xs us Q I rs q
theorem call_list_of : CallR X (.type "list") (fun xs H Q => ∃ p ys, xs = [.ref p] ∧ (SqL X.K H p ys ∨ SqT X.K H p ys) ∧ ∀ l, H l = none → Q (.ref l) (upd H l (.lst ys))) := by
  intro pins s σ H xs us Q I r h
  obtain ⟨p, ys, rfl, hq, q⟩ := h
  obtain ⟨u, rfl, rx⟩ := vals1 r
  cases rx
  have fin : ∀ (its : List Value), Vals ys its → ys.length ≤ sizeLine → ∀ (h' : Heap) (c' : Nat), (∀ b o', s.heap.get? b = some o' → h'.get? b = some o') →
      h'.get? s.heap.objs.size = some { cls := .type "list", dict := none, data := .seq its.toArray c', slots := #[] } → EP X pins σ Q (.ref s.heap.objs.size) { s with heap := h' } := fun its r' hz h' c' kp e =>
    ⟨.ref s.heap.objs.size, _, I.laid (t' := s.toks) kp (Nat.le_refl _) (show ObjOk X.prog X.w _ h' _ (.lst ys) from ⟨hz, its, c', r', e⟩), rfl, q _ (I.hok.fresh (Nat.le_refl _))⟩
  rcases hq with hq | hq
  · obtain ⟨its, r', pl, hz⟩ := I.list hq
    have hlen := r'.length
    obtain ⟨o, ho, hc, n, hd⟩ := pl.isList
    exact call_list_seq p (.inl rfl) ho hc hd (fun h' c' kp e => fin its r' hz h' c' kp e) (by simp only [List.size_toArray] <;> omega)
  · obtain ⟨its, r', pl, hz⟩ := I.tuple hq
    have hlen := r'.length
    obtain ⟨o, ho, hc, n, hd⟩ := pl
    exact call_list_seq p (.inr rfl) ho hc hd (fun h' c' kp e => fin its r' hz h' c' kp e) (by simp only [List.size_toArray] <;> omega)
theorem call_tuple_of : CallR X (.type "tuple") (fun xs H Q => ∃ p ys, xs = [.ref p] ∧ ((SqL X.K H p ys ∧ ∀ l, H l = none → Q (.ref l) (upd H l (.tup ys))) ∨ (SqT X.K H p ys ∧ Q (.ref p) H))) := by
  intro pins s σ H xs us Q I r h
  obtain ⟨p, ys, rfl, h⟩ := h
  obtain ⟨u, rfl, rx⟩ := vals1 r
  cases rx
  rcases h with ⟨hq, q⟩ | ⟨hq, q⟩
  · obtain ⟨its, r', pl, hz⟩ := I.list hq
    have hlen := r'.length
    refine call_tuple_list pl.isList (fun h' kp => ?_) (by simp only [List.size_toArray] <;> omega)
    have I1 : Inv X pins σ H { s with heap := h' } := I.kept (t' := s.toks) kp
    have I2 : Inv X pins σ (upd H h'.objs.size (.tup ys)) { s with heap := h'.push { cls := .type "tuple", data := .seq its.toArray } } :=
      I1.laid (t' := s.toks) (fun b o e => Heap.get?_push_of_some _ e) (Nat.le_refl _) (show ObjOk X.prog X.w _ _ _ (.tup ys) from ⟨hz, its, r', IsTup.new _ _⟩)
    exact ⟨.ref h'.objs.size, _, I2, rfl, q _ (I1.hok.fresh (Nat.le_refl _))⟩
  · obtain ⟨its, r', pl, hz⟩ := I.tuple hq
    exact call_tuple_same pl ⟨.ref p, H, I, rfl, q⟩

/-! ### the call of a builtin's method: o.m(..) -/
/-- the value is of that builtin type -/
def tyV (K : PySem.W.Frag) (T : String) (x : V) (H : Hp) : Prop := match x with
  | .str _ => T = "str"
  | .int _ => T = "int"
  | .ref p => (T = "list" ∧ ∃ xs, SqL K H p xs) ∨ (T = "tuple" ∧ ∃ o, K.lookup p = some o ∧ o.cls = .type "tuple" ∧ o.dict = none) ∨
      (T = "dict" ∧ ((∃ kvs, H p = some (.dK kvs)) ∨ ∃ kvs, H p = some (.dT kvs))) ∨ (T = "set" ∧ ∃ S n, H p = some (.set S n))
  | _ => False
theorem tyV_is {pins : List (Addr × Obj)} {σ : St} {H : Hp} {s : Shared} {T : String} {x : V} {v : Value} (I : Inv X pins σ H s) (r : RelV x v) (ty : tyV X.K T x H) :
    s.TypeIs v T ∧ ∀ a, v = .ref a → ∃ ob, s.heap.get? a = some ob ∧ ob.dict = none := by
  cases x with
  | str z =>
    obtain ⟨t, rfl⟩ := r
    cases (show T = "str" from ty)
    exact ⟨typeIs_str s z t, fun _ e => nomatch e⟩
  | int i =>
    obtain ⟨t, rfl⟩ := r
    cases (show T = "int" from ty)
    exact ⟨typeIs_int s i t, fun _ e => nomatch e⟩
  | ref p =>
    cases r
    rcases ty with ⟨rfl, xs, hq⟩ | ⟨rfl, o, hk, hc, hd⟩ | ⟨rfl, hk⟩ | ⟨rfl, S, n, hk⟩
    · obtain ⟨its, _, pl, _⟩ := I.list hq
      refine ⟨pl.isList.typeIs, fun a e => ?_⟩
      cases e
      obtain ⟨o, n, e, c, hd, _⟩ := pl
      exact ⟨o, e, hd⟩
    · refine ⟨⟨o, I.kIn p o hk, hc⟩, fun a e => ?_⟩
      cases e
      exact ⟨o, I.kIn _ o hk, hd⟩
    · have z : ∃ o, s.heap.get? p = some o ∧ o.ExactDict := by
        rcases hk with ⟨kvs, hk⟩ | ⟨kvs, hk⟩
        · obtain ⟨_, _, _, _, o, _, _, e, ex, _⟩ := I.hok p _ hk
          exact ⟨o, e, ex⟩
        · obtain ⟨_, _, _, _, o, _, _, e, ex, _⟩ := I.hok p _ hk
          exact ⟨o, e, ex⟩
      obtain ⟨o, e, ex⟩ := z
      refine ⟨⟨o, e, ex.1⟩, fun a e2 => ?_⟩
      cases e2
      exact ⟨o, e, ex.2.1⟩
    · obtain ⟨o, _, _, _, e, ex, _⟩ := I.hok p _ hk
      refine ⟨⟨o, e, ex.1⟩, fun a e2 => ?_⟩
      cases e2
      exact ⟨o, e, ex.2.1⟩
  | _ => exact False.elim ty
def tBM0 (K : PySem.W.Frag) (T : String) (r : V → List V → Hp → VK → Prop) (to : TE) : TE := fun σ H Q => to σ H fun x H1 => tyV K T x H1 ∧ r x [] H1 Q
def tBM (K : PySem.W.Frag) (T : String) (r : V → List V → Hp → VK → Prop) (to : TE) (t : TA) : TE := fun σ H Q => to σ H fun x H1 => tyV K T x H1 ∧ t σ H1 fun xs H2 => r x xs H2 Q
variable {o e : Expr} {es : List Expr} {to : TE} {t : TA} {name : Str} {apos cpos : Pos} {T id : String} {r : V → List V → Hp → VK → Prop}
theorem pe_bm0 (pa : PlainAttrs T) (slot : Slot T name id) (hty : typeOf (.builtin id) = pure (.type "method_descriptor")) (hm : MtR X id r) (ho : PE X o to)
    (hbase : attributeBase o name X.env (eval o X.env) = eval o X.env := by rfl) (hline : (apos.endLine == cpos.line) = true := by rfl) : PE X (.Call (.Attribute o name apos) [] [] cpos) (tBM0 X.K T r to) := by
  intro pins s σ H Q I h
  refine wpAny_Call_method0_late hbase hline (thn (ho pins s σ H _ I h) fun v s1 ⟨x, H1, I1, r1, ty, q1⟩ => ?_)
  obtain ⟨h1, h2⟩ := tyV_is I1 r1 ty
  exact ⟨T, id, pa, slot, hty, h1, h2, Calls.callWith_builtin rfl (PySem.evalArgs_none (hm pins s1 σ H1 x [] v [] Q I1 r1 .nil q1))⟩
theorem pe_bm (pa : PlainAttrs T) (slot : Slot T name id) (hty : typeOf (.builtin id) = pure (.type "method_descriptor")) (hm : MtR X id r) (ho : PE X o to) (ha : PA X (e :: es) t)
    (hbase : attributeBase o name X.env (eval o X.env) = eval o X.env := by rfl)
    (hfew : ((backTo cpos (starEach (e :: es) X.env)).all (fun x => !x.1) && (backToKw cpos (keywordEach [] X.env)).all (fun x => x.1.isSome)
      && decide ((e :: es).length + ([] : List Keyword).length + (if ([] : List Keyword).isEmpty then 0 else 1) < 30)) = true := by rfl)
    (hline : (apos.endLine == cpos.line) = true := by rfl) (hs : starEach (e :: es) X.env = (false, eval e X.env) :: starEach es X.env := by rfl) (hplain : (backTo cpos (starEach es X.env)).any (·.1) = false := by rfl) :
    PE X (.Call (.Attribute o name apos) (e :: es) [] cpos) (tBM X.K T r to t) := by
  intro pins s σ H Q I h
  refine wpAny_Call_method_late hbase hfew hline rfl (thn (ho pins s σ H _ I h) fun v s1 ⟨x, H1, I1, r1, ty, q1⟩ => ?_)
  obtain ⟨h1, h2⟩ := tyV_is I1 r1 ty
  refine ⟨T, id, pa, slot, hty, h1, h2, ?_⟩
  have hA := ha cpos pins s1 σ H1 _ I1 q1
  rw [hs] at hA ⊢
  refine Calls.callWith_builtin (by show (false || (backTo cpos (starEach es X.env)).any (·.1)) = false; rw [hplain] <;> rfl) (Calls.evalArgs_plain ?_)
  exact thn hA fun us s2 ⟨vs, H2, I2, r2, q2⟩ => hm pins s2 σ H2 x vs v us Q I2 r1 r2 q2
/- xs.append(e), list.index on a module's tuple .. are MtR facts of 06m -/
end
end L2

namespace L2
open PySem PySem.Spec PyProof.Rows

def MtM (X : Cx) (id : String) (r : V → List V → Hp → VK → Prop) : Prop :=
  ∀ (pins : List (Addr × Obj)) (s : Shared) (σ : St) (H : Hp) (x : V) (xs : List V) (v : Value) (us : List Value) (Q : VK), Inv X pins σ H s → RelV x v → Vals xs us → r x xs H Q →
    wpAny (model X.prog X.w) X.A (call (.builtin id) (v :: us)) (EP X pins σ Q) X.xe s

/-! ### lists of values -/
theorem Vals.one : ∀ {x : V} {us : List Value}, Vals [x] us → ∃ u, us = [u] ∧ RelV x u
  | _, _, .cons r .nil => ⟨_, rfl, r⟩
theorem Vals.two : ∀ {x y : V} {us : List Value}, Vals [x, y] us → ∃ u v, us = [u, v] ∧ RelV x u ∧ RelV y v
  | _, _, _, .cons r (.cons q .nil) => ⟨_, _, rfl, r, q⟩
theorem Vals.zero : ∀ {us : List Value}, Vals [] us → us = []
  | _, .nil => rfl
theorem Vals.dropLast {xs : List V} {us : List Value} (h : Vals xs us) : Vals xs.dropLast us.dropLast := by
  induction h with
  | nil => exact .nil
  | cons r t ih =>
    cases t with
    | nil => exact .nil
    | cons q t' => exact .cons r ih
theorem Vals.eraseIdx : ∀ {xs : List V} {us : List Value} (i : Nat), Vals xs us → Vals (xs.eraseIdx i) (us.eraseIdx i)
  | _, _, _, .nil => .nil
  | _, _, 0, .cons _ t => t
  | _, _, i + 1, .cons r t => .cons r (Vals.eraseIdx i t)
theorem Vals.reverse {xs : List V} {us : List Value} (h : Vals xs us) : Vals xs.reverse us.reverse := by
  induction h with
  | nil => exact .nil
  | cons r t ih => rw [List.reverse_cons, List.reverse_cons]; exact Vals.append ih (.cons r .nil)
theorem Vals.rep {xs : List V} {us : List Value} (h : Vals xs us) : ∀ k : Nat, Vals (List.replicate k xs).flatten (List.replicate k us).flatten
  | 0 => .nil
  | k + 1 => by
    rw [List.replicate_succ, List.replicate_succ, List.flatten_cons, List.flatten_cons]
    exact Vals.append h (Vals.rep h k)
theorem erase_last {α : Type} (l : List α) : l.eraseIdx (l.length - 1) = l.dropLast := by
  induction l with
  | nil => rfl
  | cons a r ih =>
    cases r with
    | nil => rfl
    | cons b r =>
      have e : (a :: b :: r).length - 1 = ((b :: r).length - 1) + 1 := by
        have h1 : (a :: b :: r).length = r.length + 2 := rfl
        have h2 : (b :: r).length = r.length + 1 := rfl
        omega
      rw [e, List.eraseIdx_cons_succ, ih]
      all_goals rfl
theorem len_erase {α : Type} : ∀ (l : List α) (i : Nat), (l.eraseIdx i).length ≤ l.length
  | [], _ => Nat.le_refl _
  | _ :: _, 0 => Nat.le_succ _
  | _ :: r, i + 1 => Nat.succ_le_succ (len_erase r i)
theorem foldl_rep (its : List Value) : ∀ (k : Nat) (acc : List Value),
    List.foldl (fun x1 x2 => x1 ++ x2) acc.toArray (List.replicate k its.toArray) = (acc ++ (List.replicate k its).flatten).toArray
  | 0, acc => by simp
  | k + 1, acc => by
    have e : acc.toArray ++ its.toArray = (acc ++ its).toArray := by simp
    have e2 : (acc ++ its) ++ (List.replicate k its).flatten = acc ++ (List.replicate (k + 1) its).flatten := by
      rw [List.replicate_succ, List.flatten_cons, List.append_assoc]
    rw [← e2, ← foldl_rep its k (acc ++ its), ← e, List.replicate_succ, List.foldl_cons]

section
variable {X : Cx} {pins : List (Addr × Obj)} {σ : St} {H : Hp} {s : Shared} {l b : Addr} {xs ys zs : List V}

/-! ### the two steps: a tracked list is rewritten, a new list is laid -/
theorem Inv.lset {its its' : List Value} {n : Nat} {f : Array Value → Array Value} {t' : Nat} (I : Inv X pins σ H s) (hH : H l = some (.lst xs))
    (e : s.heap.get? l = some { cls := .type "list", data := .seq its.toArray n }) (hf : f its.toArray = its'.toArray) (hv : Vals ys its') (hz : ys.length ≤ sizeLine) :
    Inv X pins σ (upd H l (.lst ys)) { s with heap := s.heap.update l (Obj.mapSeq f), toks := t' } := by
  have q := PySem.IsL.update e f
  rw [hf] at q
  refine I.write (x := l) (e := l) (by rw [hH]; exact trivial) (.inl rfl) (fun b' u hb hu => (Heap.get?_update_other s.heap (Obj.mapSeq f) (Ne.symm hb)).trans hu) ⟨_, q⟩ ?_
  exact ⟨hz, its', _, hv, q⟩
theorem Inv.lnew {its : List Value} {t' : Nat} (I : Inv X pins σ H s) (hv : Vals ys its) (hz : ys.length ≤ sizeLine) :
    Inv X pins σ (upd H s.heap.objs.size (.lst ys)) { s with heap := s.heap.push { cls := .type "list", data := .seq its.toArray }, toks := t' } :=
  I.laid (fun _ _ q => Heap.get?_push_of_some _ q) (Nat.le_refl _) ⟨hz, its, 0, hv, Heap.get?_push_size _ rfl⟩
theorem Inv.fresh (I : Inv X pins σ H s) : H s.heap.objs.size = none := I.hok.fresh (Nat.le_refl _)
theorem Inv.lstM (I : Inv X pins σ H s) (hH : H l = some (.lst xs)) : xs.length ≤ sizeLine ∧ ∃ (its : List Value) (n : Nat), Vals xs its ∧ xs.length = its.length ∧ s.heap.get? l = some { cls := .type "list", data := .seq its.toArray n } := by
  obtain ⟨z, its, n, r, e⟩ := I.hok l _ hH
  exact ⟨z, its, n, r, r.length, e⟩

theorem notLongL {n : Nat} (h : n ≤ sizeLine) : Builtin.List.listTooLong n = false := by
  unfold Builtin.List.listTooLong
  exact decide_eq_false (by omega)
end

section
variable {X : Cx}

/-! ### methods -/
def rAppend : V → List V → Hp → VK → Prop := fun x vs H Q => ∃ l xs y, x = .ref l ∧ vs = [y] ∧ H l = some (.lst xs) ∧ xs.length < sizeLine ∧ Q .non (upd H l (.lst (xs ++ [y])))
theorem mt_append : MtM X "list.append" rAppend := by
  intro pins s σ H x vs v us Q I rx rv h
  obtain ⟨l, xs, y, rfl, rfl, hH, hz, q⟩ := h
  cases rx
  obtain ⟨u, rfl, ru⟩ := rv.one
  obtain ⟨z, its, n, r, hl, e⟩ := I.lstM hH
  refine call_meets F.slot_list_append ⟨_, e, rfl⟩ F.entry_list_append (F.args_list_append_2 _ _) (PySem.list_append l its.toArray n u (by rw [List.size_toArray]; omega)) ⟨e, ?_⟩
  refine ⟨.non, _, I.lset (its' := its ++ [u]) hH e (by simp) (r.append (.cons ru .nil)) ?_, rfl, q⟩
  rw [List.length_append, List.length_singleton]
  omega

def rExtend : V → List V → Hp → VK → Prop := fun x vs H Q => ∃ l b xs zs, x = .ref l ∧ vs = [.ref b] ∧ H l = some (.lst xs) ∧ H b = some (.lst zs) ∧ xs.length + zs.length ≤ sizeLine ∧ Q .non (upd H l (.lst (xs ++ zs)))
theorem mt_extend : MtM X "list.extend" rExtend := by
  intro pins s σ H x vs v us Q I rx rv h
  obtain ⟨l, b, xs, zs, rfl, rfl, hH, hB, hz, q⟩ := h
  cases rx
  obtain ⟨u, rfl, ru⟩ := rv.one
  cases ru
  obtain ⟨z, its, n, r, hl, e⟩ := I.lstM hH
  obtain ⟨z2, its2, n2, r2, hl2, e2⟩ := I.lstM hB
  have hsz : its.toArray.size + its2.toArray.size ≤ sizeLine := by rw [List.size_toArray, List.size_toArray]; omega
  have hlong : ¬ (!its.toArray.isEmpty && Builtin.List.listTooLong (its.toArray.size + its2.toArray.size)) = true := by
    rw [notLongL hsz, Bool.and_false]
    exact Bool.false_ne_true
  refine call_meets F.slot_list_extend ⟨_, e, rfl⟩ F.entry_list_extend (F.args_list_extend_2 _ _)
    (AutoSeq1.list_extend_list_list_0 l its.toArray n b its2.toArray n2 hlong (by rw [List.size_toArray]; omega) (by omega)) ⟨e, e2, ?_⟩
  refine ⟨.non, _, I.lset (its' := its ++ its2) hH e (by simp) (r.append r2) ?_, rfl, q⟩
  rw [List.length_append]
  omega

def rPop : V → List V → Hp → VK → Prop := fun x vs H Q => ∃ l xs y, x = .ref l ∧ vs = [] ∧ H l = some (.lst xs) ∧ xs[xs.length - 1]? = some y ∧ Q y (upd H l (.lst xs.dropLast))
theorem mt_pop : MtM X "list.pop" rPop := by
  intro pins s σ H x vs v us Q I rx rv h
  obtain ⟨l, xs, y, rfl, rfl, hH, hy, q⟩ := h
  cases rx
  have hus := rv.zero
  subst hus
  obtain ⟨z, its, n, r, hl, e⟩ := I.lstM hH
  obtain ⟨u, hu, ru⟩ := r.get hy
  have hy' : its.toArray[its.toArray.size - 1]? = some u := by
    show its.toArray[its.length - 1]? = some u
    rw [← Array.getElem?_toList, ← hl]
    exact hu
  refine call_meets F.slot_list_pop ⟨_, e, rfl⟩ F.entry_list_pop (F.args_list_pop_1 _) (MeetsSeq.list_pop_last l its.toArray n u hy' (by rw [List.size_toArray]; omega)) ⟨e, ?_⟩
  refine ⟨y, _, I.lset (its' := its.dropLast) hH e ?_ r.dropLast ?_, ru, q⟩
  · show its.toArray.eraseIdxIfInBounds (its.toArray.size - 1) = its.dropLast.toArray
    rw [List.size_toArray, List.eraseIdxIfInBounds_toArray, erase_last]
  · rw [List.length_dropLast]
    omega

def rPopAt : V → List V → Hp → VK → Prop := fun x vs H Q => ∃ l xs i k y, x = .ref l ∧ vs = [.int i] ∧ H l = some (.lst xs) ∧ -(2 ^ 63) ≤ i ∧ i < 2 ^ 63 ∧ seqIndex? i xs.length = some k ∧ xs[k]? = some y ∧ Q y (upd H l (.lst (xs.eraseIdx k)))
theorem mt_popAt : MtM X "list.pop" rPopAt := by
  intro pins s σ H x vs v us Q I rx rv h
  obtain ⟨l, xs, i, k, y, rfl, rfl, hH, h1, h2, hk, hy, q⟩ := h
  cases rx
  obtain ⟨u, rfl, ru⟩ := rv.one
  obtain ⟨t, rfl⟩ := ru
  obtain ⟨z, its, n, r, hl, e⟩ := I.lstM hH
  obtain ⟨w, hw, rw'⟩ := r.get hy
  refine call_meets F.slot_list_pop ⟨_, e, rfl⟩ F.entry_list_pop (F.args_list_pop_2 _ _)
    (MeetsSeq.list_pop_at l its.toArray n i t k w (fitsIndex_both h1 h2) (by rw [List.size_toArray, ← hl]; exact hk) (by rw [← Array.getElem?_toList]; exact hw) (by rw [List.size_toArray]; omega)) ⟨e, ?_⟩
  refine ⟨y, _, I.lset (its' := its.eraseIdx k) hH e ?_ (r.eraseIdx k) ?_, rw', q⟩
  · show its.toArray.eraseIdxIfInBounds k = (its.eraseIdx k).toArray
    rw [List.eraseIdxIfInBounds_toArray]
  · have := len_erase xs k
    omega

def rReverse : V → List V → Hp → VK → Prop := fun x vs H Q => ∃ l xs, x = .ref l ∧ vs = [] ∧ H l = some (.lst xs) ∧ Q .non (upd H l (.lst xs.reverse))
theorem mt_reverse : MtM X "list.reverse" rReverse := by
  intro pins s σ H x vs v us Q I rx rv h
  obtain ⟨l, xs, rfl, rfl, hH, q⟩ := h
  cases rx
  have hus := rv.zero
  subst hus
  obtain ⟨z, its, n, r, hl, e⟩ := I.lstM hH
  refine call_meets F.slot_list_reverse ⟨_, e, rfl⟩ F.entry_list_reverse (F.args_list_reverse_1 _) (AutoSeq1.list_reverse_list_0 l its.toArray n (by rw [List.size_toArray]; omega)) ⟨e, ?_⟩
  refine ⟨.non, _, I.lset (its' := its.reverse) hH e (by simp) r.reverse ?_, rfl, q⟩
  rw [List.length_reverse]
  omega

def rClear : V → List V → Hp → VK → Prop := fun x vs H Q => ∃ l xs, x = .ref l ∧ vs = [] ∧ H l = some (.lst xs) ∧ Q .non (upd H l (.lst []))
theorem mt_clear : MtM X "list.clear" rClear := by
  intro pins s σ H x vs v us Q I rx rv h
  obtain ⟨l, xs, rfl, rfl, hH, q⟩ := h
  cases rx
  have hus := rv.zero
  subst hus
  obtain ⟨z, its, n, r, hl, e⟩ := I.lstM hH
  refine call_meets F.slot_list_clear ⟨_, e, rfl⟩ F.entry_list_clear (F.args_list_clear_1 _) (AutoSeq1.list_clear_list_0 l its.toArray n (by rw [List.size_toArray]; omega)) ⟨e, ?_⟩
  exact ⟨.non, _, I.lset (its' := []) (ys := []) hH e rfl .nil (Nat.zero_le _), rfl, q⟩

/-! ### list + list, list += list, list * int -/
def rCat : R2 := fun x y H Q => ∃ l b xs zs, x = .ref l ∧ y = .ref b ∧ H l = some (.lst xs) ∧ H b = some (.lst zs) ∧ xs.length + zs.length ≤ sizeLine ∧ ∀ p, H p = none → Q (.ref p) (upd H p (.lst (xs ++ zs)))
theorem op_cat : OpR X (binaryOp .Add) rCat := by
  intro pins s σ H x y v u Q I rx ry h
  obtain ⟨l, b, xs, zs, rfl, rfl, hH, hB, hz, q⟩ := h
  cases rx
  cases ry
  obtain ⟨z, its, n, r, hl, e⟩ := I.lstM hH
  obtain ⟨z2, its2, n2, r2, hl2, e2⟩ := I.lstM hB
  refine PySem.P.add_list e e2 ?_ (by rw [List.size_toArray, List.size_toArray]; omega)
  have ea : its.toArray ++ its2.toArray = (its ++ its2).toArray := by simp
  rw [ea]
  exact ⟨.ref _, _, I.lnew (t' := s.toks) (r.append r2) (by rw [List.length_append]; omega), rfl, q _ I.fresh⟩
/-- a list times an int (a negative one is nothing) -/
def rRep : R2 := fun x y H Q => ∃ l k xs, x = .ref l ∧ y = .int k ∧ H l = some (.lst xs) ∧ -(2 ^ 63) ≤ k ∧ k < 2 ^ 63 ∧ xs.length * k.toNat ≤ sizeLine ∧
  ∀ p, H p = none → Q (.ref p) (upd H p (.lst (List.replicate k.toNat xs).flatten))
theorem len_rep {α : Type} (xs : List α) (k : Nat) : (List.replicate k xs).flatten.length = k * xs.length := by
  induction k with
  | zero => simp
  | succ k ih => rw [List.replicate_succ, List.flatten_cons, List.length_append, ih, Nat.succ_mul, Nat.add_comm]
theorem op_rep : OpR X (binaryOp .Mult) rRep := by
  intro pins s σ H x y v u Q I rx ry h
  obtain ⟨l, k, xs, rfl, rfl, hH, h1, h2, hz, q⟩ := h
  cases rx
  obtain ⟨t, rfl⟩ := ry
  obtain ⟨z, its, n, r, hl, e⟩ := I.lstM hH
  have hlen : its.toArray.size * k.toNat ≤ sizeLine := by rw [List.size_toArray, ← hl]; exact hz
  have hcap : ¬ its.toArray.size * k.toNat > (2 ^ 63 - 1) / 8 := by
    have : (sizeLine : Nat) ≤ (2 ^ 63 - 1) / 8 := by decide
    omega
  have hfit : ¬ (!Builtin.List.listFitsIndex k) = true := by
    rw [fitsIndex_both h1 h2]
    exact Bool.false_ne_true
  have hlong : ¬ Builtin.List.listTooLong (its.toArray.size * k.toNat) = true := by
    rw [notLongL hlen]
    exact Bool.false_ne_true
  have hnew : List.foldl (fun x1 x2 => x1 ++ x2) #[] (List.replicate (if its.toArray.isEmpty = true then 0 else k.toNat) its.toArray) = (List.replicate k.toNat its).flatten.toArray := by
    have f0 : ∀ m : Nat, List.foldl (fun x1 x2 => x1 ++ x2) #[] (List.replicate m its.toArray) = (List.replicate m its).flatten.toArray := fun m => by
      have := foldl_rep its m []
      rw [List.nil_append] at this
      exact this
    rw [f0]
    cases its with
    | nil => simp
    | cons a r' => rw [if_neg (by simp)]
  refine wpAny_binaryOp_repeat_ref (T := "list") (U := "int") (by decide) ⟨_, e, rfl⟩ (fun s' => typeIs_int s' k t) noFill_list_mul F.fills_int_mul F.slot_int_rmul repeat_list F.slot_int_index.lookup
    (call_meets F.slot_int_rmul (typeIs_int s k t) F.entry_int_rmul (F.args_int_rmul_2 _ _) (int___rmul___int_list k t l its.toArray n)
      ⟨e, rfl, ⟨_, e, rfl⟩, call_meets F.slot_list_mul ⟨_, e, rfl⟩ F.entry_list_mul (F.args_list_mul_2 _ _) (AutoListH.list___mul___list_int_3 l its.toArray n k t hfit hcap hlong) ⟨e, ?_⟩⟩)
  rw [hnew]
  exact ⟨.ref _, _, I.lnew (t' := s.toks) (r.rep k.toNat) (by rw [len_rep, Nat.mul_comm]; exact hz), rfl, q _ I.fresh⟩

/-! ### del xs[i] -/
theorem del_list {pins : List (Addr × Obj)} {s : Shared} {σ : St} {H : Hp} {l : Addr} {xs : List V} {i : Int} {t : Tok} {k : Nat} {Q : Unit → Shared → Prop} (I : Inv X pins σ H s) (hH : H l = some (.lst xs))
    (h1 : -(2 ^ 63) ≤ i) (h2 : i < 2 ^ 63) (hk : seqIndex? i xs.length = some k) (h : ∀ s', Inv X pins σ (upd H l (.lst (xs.eraseIdx k))) s' → Q () s') :
    wpAny (model X.prog X.w) X.A (delItem (.ref l) (.int i t)) Q X.xe s := by
  obtain ⟨z, its, n, r, hl, e⟩ := I.lstM hH
  refine PySem.P.delItem_list (k := k) e (fitsIndex_both h1 h2) (by rw [List.size_toArray, ← hl]; exact hk) (h _ ?_) (by rw [List.size_toArray]; omega)
  refine I.lset (its' := its.eraseIdx k) (t' := s.toks) hH e ?_ (r.eraseIdx k) ?_
  · show its.toArray.eraseIdxIfInBounds k = (its.eraseIdx k).toArray
    rw [List.eraseIdxIfInBounds_toArray]
  · have := len_erase xs k
    omega
end

/-! ### xs[a:b] = ys -/
section
variable {prog : Program} {w : World} {A : Around} {E : Value → Shared → Prop} {s : Shared}
theorem splice_eq (its its2 : List Value) (a c : Nat) : its.toArray.extract 0 a ++ its2.toArray ++ its.toArray.extract c its.toArray.size = (its.take a ++ its2 ++ its.drop c).toArray := by
  apply Array.toList_inj.mp
  first
    | (simp
       exact List.take_of_length_le (by simp))
    | simp [List.take_of_length_le]
    | simp
theorem bounds_run {a c n : Nat} (hac : a ≤ c) (hc : c ≤ n) : sliceBounds (some (a : Int)) (some (c : Int)) none n = ((a : Int), (c : Int), 1) := by
  simp only [sliceBounds, Option.getD_none]
  have h1 : ¬ ((a : Int) < 0) := by omega
  have h2 : ¬ ((c : Int) < 0) := by omega
  simp only [h1, h2, if_false, show (1 : Int) > 0 by decide, if_true]
  congr 1
  · omega
  · congr 1; omega
set_option maxRecDepth 100000 in
/-- list.__setitem__ with a slice of step one and another list -/
theorem setItem_slice {l b sl : Addr} {items new : Array Value} {n n2 : Nat} {vl vu : Value} {a c : Nat} {Q : Unit → Shared → Prop}
    (e : s.heap.get? l = some { cls := .type "list", data := .seq items n }) (e2 : s.heap.get? b = some { cls := .type "list", data := .seq new n2 }) (hne : l ≠ b)
    (hs : s.heap.IsSliceOf sl vl vu .none) (pl : IsPart vl (some (a : Int))) (pu : IsPart vu (some (c : Int))) (hac : a ≤ c) (hc : c ≤ items.size)
    (hsz : items.size + new.size ≤ sizeLine) (h : Q () { s with heap := s.heap.update l (Obj.mapSeq fun xs => xs.extract 0 a ++ new ++ xs.extract c xs.size) }) :
    wpAny (model prog w) A (setItem (.ref l) (.ref sl) (.ref b)) Q E s := by
  have hl : s.heap.IsList l items := PySem.IsL.isList e
  have hb : s.heap.IsList b new := PySem.IsL.isList e2
  obtain ⟨os, hos, hcs, hds⟩ := id hs
  have hTs : s.TypeIs (.ref sl) "slice" := ⟨os, hos, hcs⟩
  have hstep : ¬ ((rawPart none == rawInt 0) = true) := Bool.false_ne_true
  have hsame : Builtin.List.listSameRef (.ref l) (.ref b) = false := by
    unfold Builtin.List.listSameRef
    exact beq_eq_false_iff_ne.mpr hne
  have hmax : (max (a : Int) (c : Int)).toNat = c := by omega
  have hz' : ((fun xs : Array Value => xs.extract 0 a ++ new ++ xs.extract c xs.size) items).size ≤ sizeLine + 1 := by
    simp only [Array.size_append, Array.size_extract]
    omega
  unfold setItem
  try with_reducible refine wpAny_holding ?_
  first | refine wpAny_bind (wpAny_pure ?_) | skip
  refine wpAny_bind (wpAny_sequenceKey hl.typeIs (by decide) ?_)
  refine wpAny_bind (wpAny_callSpecial?_slot (name := Str.ofString "__setitem__") hl.typeIs slot_list_setitem
    (wpAny_call_entry slot_list_setitem hl.typeIs entry_list_setitem ?_ (args_list_setitem _ _ _)))
  show wpAny _ _ (Builtin.List.listSubscript? (.ref sl) >>= _) _ _ s
  refine wpAny_bind ?_
  unfold Builtin.List.listSubscript?
  refine wpAny_bind (wpAny_specialOf hTs slice_no_index ?_)
  simp only [Option.isNone_none, if_true]
  refine wpAny_pure ?_
  show wpAny _ _ (typeOf (.ref sl) >>= _) _ _ s
  refine wpAny_bind (wpAny_typeOf hTs ?_)
  first
    | rw [if_neg (by decide)]
    | refine PySem.W.KFB.if_not (by decide) ?_
  rw [listSliceParts_eq]
  refine wpAny_bind (wpAny_bind (wpAny_field hos hds (x := .none) rfl (wpAny_bind (wpAny_listPart .none ?_))))
  rw [if_neg hstep]
  refine wpAny_bind (wpAny_field hos hds (x := vl) rfl (wpAny_bind (wpAny_listPart pl ?_)))
  refine wpAny_bind (wpAny_field hos hds (x := vu) rfl (wpAny_bind (wpAny_listPart pu (wpAny_pure ?_))))
  first
    | simp only [hsame, Bool.false_eq_true, if_false]
    | refine PySem.W.KFB.if_not hsame ?_
    | (dsimp only
       rw [if_neg (by rw [hsame]; exact Bool.false_ne_true)])
  refine wpAny_bind (m := Builtin.List.listAllItems (.ref b) "must assign iterable to extended slice") ?_
  unfold Builtin.List.listAllItems
  refine wpAny_bind (wpAny_typeOf hb.typeIs ?_)
  first
    | refine PySem.W.KFB.if_so (by decide) ?_
    | rw [if_pos (by decide)]
    | simp only [beq_self_eq_true, Bool.true_or, if_true]
  unfold Builtin.List.listItems
  refine wpAny_bind (wpAny_seqItems e2 rfl (wpAny_pure ?_))
  refine wpAny_bind (wpAny_bind (wpAny_seqItems e rfl (wpAny_pure ?_)))
  refine wpAny_bind (wpAny_of_eq ((sliceIndices_raw (some (a : Int)) (some (c : Int)) none items.size (by simp)).trans (congrArg (pure : Int × Int × Int → Sem (Int × Int × Int)) (bounds_run hac hc))) ?_)
  show wpAny _ _ (if ((1 : Int) == 1) = true then _ else _) _ _ s
  rw [if_pos (by decide)]
  refine wpAny_bind (wpAny_rule ?_)
  first
    | simp only [notLongL hsz, Bool.false_eq_true, if_false]
    | refine PySem.W.KFB.if_not (notLongL hsz) ?_
  first | refine wpAny_bind (wpAny_pure ?_) | skip
  show wpAny _ _ (updateSeq l (fun xs => xs.extract 0 ((a : Int)).toNat ++ new ++ xs.extract (max (a : Int) (c : Int)).toNat xs.size) >>= _) _ _ s
  rw [hmax, Int.toNat_natCast]
  refine wpAny_bind (wpAny_updateSeq (hz := Nat.le_trans (Nat.le_add_right _ _) hsz) (_hz' := hz') e rfl ?_)
  refine wpAny_bind (wpAny_letGo ?_)
  first
    | exact wpAny_bind (wpAny_pure (wpAny_pure ⟨.none, rfl, wpAny_pure h⟩))
    | exact wpAny_pure ⟨.none, rfl, wpAny_pure h⟩
end

section
variable {X : Cx}
/-- xs[a:c] = ys of another list, at the value level: sl is the slice object that was just made -/
theorem set_slice {pins : List (Addr × Obj)} {s : Shared} {σ : St} {H : Hp} {l b sl : Addr} {xs ys : List V} {a c : Int} {vl vu : Value} {Q : Unit → Shared → Prop} (I : Inv X pins σ H s)
    (hH : H l = some (.lst xs)) (hB : H b = some (.lst ys)) (hne : l ≠ b) (hs : s.heap.IsSliceOf sl vl vu .none) (ra : RelV (.int a) vl) (rc : RelV (.int c) vu) (h0 : 0 ≤ a) (hac : a ≤ c) (hc : c ≤ xs.length)
    (hz : xs.length + ys.length ≤ sizeLine) (h : ∀ s', Inv X pins σ (upd H l (.lst (xs.take a.toNat ++ ys ++ xs.drop c.toNat))) s' → Q () s') :
    wpAny (model X.prog X.w) X.A (setItem (.ref l) (.ref sl) (.ref b)) Q X.xe s := by
  obtain ⟨ta, rfl⟩ := ra
  obtain ⟨tc, rfl⟩ := rc
  obtain ⟨z, its, n, r, hl, e⟩ := I.lstM hH
  obtain ⟨z2, its2, n2, r2, hl2, e2⟩ := I.lstM hB
  obtain ⟨a', rfl⟩ := Int.eq_ofNat_of_zero_le h0
  obtain ⟨c', rfl⟩ := Int.eq_ofNat_of_zero_le (Int.le_trans h0 hac)
  simp only [Int.toNat_natCast] at h
  refine setItem_slice (a := a') (c := c') e e2 hne hs (.int _ _) (.int _ _) (by omega) (by rw [List.size_toArray]; omega) (by rw [List.size_toArray, List.size_toArray]; omega) (h _ ?_)
  refine I.lset (its' := its.take a' ++ its2 ++ its.drop c') (t' := s.toks) hH e ?_ (Vals.append (Vals.append (r.take _) r2) (r.drop _)) ?_
  · exact splice_eq its its2 a' c'
  · rw [List.length_append, List.length_append, List.length_take, List.length_drop]
    omega
end
end L2

namespace Att
open PySem PySem.W PySem.Calls PyProof.Rows

/-! ### the script -/
theorem ints_of_wellAll {P : Params} {h : Heap} : ∀ (ns : List Int) (vs : List Value), WellAll P h vs (ns.map WData.int) → IntsAre vs ns := by
  intro ns
  induction ns with
  | nil =>
    intro vs w
    rw [List.map_nil] at w
    cases w
    exact .nil
  | cons n ns ih =>
    intro vs w
    rw [List.map_cons] at w
    cases w with
    | cons a b =>
      cases a
      exact .cons _ _ (ih _ b)

theorem script_of {l : OpenLaw} {n : Nat} (hn : l.most = some n) {P : Params} {h : Heap} {args : List WData} {vals : List Value}
    (hpre : l.row.toRowW.claim.pre args = true) (hwl : WellAll P h vals args) :
    ∃ a vs ns, vals = [Value.ref a] ∧ args = [WData.list (ns.map WData.int)] ∧ h.get? a = some { cls := .type "list", data := .seq vs.toArray } ∧ IntsAre vs ns ∧ ns.length ≤ n := by
  have hsh : WShape.hasAll [] args [.list .int] = true := (pre_splitW hpre).1
  have hc : l.pre.holds [] { args := args } = true := (pre_splitW hpre).2
  obtain ⟨d, r, rfl, h1, h2⟩ := hasAllW_cons hsh
  obtain rfl := hasAllW_nil h2
  obtain ⟨xs, rfl, h3⟩ := hasW_list h1
  obtain ⟨ns, rfl⟩ := items_int h3
  have hlen : ns.length ≤ n := by
    unfold OpenLaw.pre at hc
    have h4 : (WTm.not (.lt (.lit (.int (n : Int))) (.len (.arg 0)))).holds [] { args := [.list (ns.map .int)] } = true := by
      have h4 := (holds_andW hc).1
      rw [hn] at h4
      exact h4
    have h5 := condW_of h4 (w_not (w_lt w_lit (w_len_list (w_arg rfl))))
    rw [List.length_map] at h5
    refine Nat.le_of_not_lt fun q => ?_
    have q' : (n : Int) < ((ns.length : Nat) : Int) := by omega
    first
      | (rw [decide_eq_true q'] at h5; exact absurd h5 (by decide))
      | (simp at h5; omega)
  cases hwl with
  | cons w1 w2 =>
    cases w2
    cases w1 with
    | list ho hall => exact ⟨_, _, ns, rfl, rfl, ho, ints_of_wellAll ns _ hall, hlen⟩

theorem post_true (l : OpenLaw) (args : List WData) : l.row.toRowW.claim.post args (.bool true) args = true :=
  postW_of (r := l.row.toRowW) (X := (true == true))
    (show WShape.has [] (.bool true) .bool = true by first | rfl | decide | simp [WShape.has, WShape.arms, WShape.armsAll])
    (show (WTm.eq .res (.lit (.bool true))).value [] { args := args, res := some (.bool true), after := args } = some (.bool (true == true)) from w_eq_bool (w_res rfl) w_lit) rfl

/-! ### the attachment: holds_open's last premise (the goal 'hc' behind k_head) from a wpAny of the law's body -/
theorem attach {l : OpenLaw} {n : Nat} {q : Program} {loose : List Str} {XP : (Str → Option Value) → Heap → Prop} {YP : World → Heap → Prop} {d : DefRec} {x : Str}
    (hn : l.most = some n) (hdf : d.params.defaults = [])
    (hbind : ∀ pm cd doc v : Value, bindArgs (docDef d.name d.params d.body d.scope pm cd doc) ⟨[v], []⟩ = pure [(x, v)])
    (hx : d.scope.names.lookup x = some .local ∨ d.scope.names.lookup x = some .cell)
    (hk : d.scope.kind = .function) (hco : d.scope.isCoroutine = false) (hgen : d.scope.isGenerator = false)
    (body : ∀ (w : World) (s₀ s₁ s : Shared) (mg mb : Str → Option Value) (fa : Addr) (o : Obj) (pm cd doc : Value) (a : Addr) (vs : List Value) (ns : List Int),
      Ground q loose [] XP w s₀ mg mb s₁.heap → YP w s₁.heap →
      s₁.heap.get? fa = some o → o.data = .func (docDef d.name d.params d.body d.scope pm cd doc) → s₁.heap.CodeRec cd d.name → mg d.name = some (.ref fa) →
      s₁.heap.get? a = some { cls := .type "list", data := .seq vs.toArray } → IntsAre vs ns → ns.length ≤ n →
      s.gens = #[] → s.os = s₁.os →
      Fr s₁.heap s₁.heap.objs.size s.heap (bindL (envOfC d.name d.scope s₁.heap.objs.size fa cd).kindOf [(x, .ref a)] fun _ => none) →
      Cl s₁.heap.objs.size (cellsFrom (s₁.heap.objs.size + 1) d.scope.names []) s.heap (bindC (envOfC d.name d.scope s₁.heap.objs.size fa cd).kindOf [(x, .ref a)] fun _ => none) →
      wpAny (model l.prog w) (callerA.deeper (envOfC d.name d.scope s₁.heap.objs.size fa cd)) (execs d.body (envOfC d.name d.scope s₁.heap.objs.size fa cd))
        (fun f s' => f = .ret (.bool true) ∧ OldK s₁.heap s'.heap ∧ s'.os = s₁.os ∧ AllBare s'.gens) (fun _ _ => False) s) :
    WalkO q loose XP YP l.row.toRowW d [] (fun f vs => PySem.call f vs) := by
  intro w s₀ s₁ mg mb G Y fa o pm cd doc dV kV ho hd hcd hD hmg hg args vals as hpre hlay hrd hwl hlo
  obtain rfl : dV = .none := Dflts.none hD hdf
  obtain rfl : kV = .none := Dflts.noKw hD
  obtain ⟨a, vs, ns, rfl, rfl, hobj, hints, hlen⟩ := script_of hn hpre hwl
  refine enter_call ?_
  refine call_cells_ret (o := o) (by rw [depth_caller]; decide) ho (fd_plain hd) G.T.nolimit hcd (hbind pm cd doc (.ref a)) (fun y hy => ?_) (fun h₁ tk F X => ?_) hco hgen hk
  · obtain rfl : y = (x, Value.ref a) := List.mem_singleton.mp hy
    rcases hx with e | e
    · exact .inl e
    · exact .inr ⟨e, cellsFrom_some _ _ _ (.inl e)⟩
  · refine wpAny_mono (body w s₀ s₁ { s₁ with heap := h₁, toks := tk } mg mb fa o pm cd doc a vs ns G Y ho (fd_plain hd) hcd hmg hobj hints hlen hg rfl F X) (fun f s' hq => ?_) (fun _ _ hq => hq)
    obtain ⟨rfl, h2, h3, h4⟩ := hq
    exact ⟨.inl ⟨.bool true, .bool true, [], rfl, fun _ => rfl, .bool true, post_true l _, fun _ => ⟨List.Pairwise.nil, fun _ hm => (nomatch hm)⟩⟩, h2, h3, h4⟩

/-- the same from a codeAny of the CALL (for a layer whose function contracts speak of calls) -/
theorem attach_call {l : OpenLaw} {n : Nat} {q : Program} {loose : List Str} {XP : (Str → Option Value) → Heap → Prop} {YP : World → Heap → Prop} {d : DefRec}
    (hn : l.most = some n) (hdf : d.params.defaults = [])
    (call : ∀ (w : World) (s₀ s₁ : Shared) (mg mb : Str → Option Value) (fa : Addr) (o : Obj) (pm cd doc : Value) (a : Addr) (vs : List Value) (ns : List Int),
      Ground q loose [] XP w s₀ mg mb s₁.heap → YP w s₁.heap →
      s₁.heap.get? fa = some o → o.data = .func (docDef d.name d.params d.body d.scope pm cd doc) → s₁.heap.CodeRec cd d.name → mg d.name = some (.ref fa) →
      s₁.heap.get? a = some { cls := .type "list", data := .seq vs.toArray } → IntsAre vs ns → ns.length ≤ n → s₁.gens = #[] →
      codeAny (model l.prog w) callerA (.call (.ref fa) ⟨[.ref a], []⟩) (fun r s' => r = .ok (.ret (.bool true)) ∧ OldK s₁.heap s'.heap ∧ s'.os = s₁.os ∧ AllBare s'.gens) s₁) :
    WalkO q loose XP YP l.row.toRowW d [] (fun f vs => PySem.call f vs) := by
  intro w s₀ s₁ mg mb G Y fa o pm cd doc dV kV ho hd hcd hD hmg hg args vals as hpre hlay hrd hwl hlo
  obtain rfl : dV = .none := Dflts.none hD hdf
  obtain rfl : kV = .none := Dflts.noKw hD
  obtain ⟨a, vs, ns, rfl, rfl, hobj, hints, hlen⟩ := script_of hn hpre hwl
  refine enter_call (codeAny_mono (call w s₀ s₁ mg mb fa o pm cd doc a vs ns G Y ho (fd_plain hd) hcd hmg hobj hints hlen hg) fun r s' hq => ?_)
  obtain ⟨rfl, h2, h3, h4⟩ := hq
  exact ⟨.inl ⟨.bool true, .bool true, [], rfl, fun _ => rfl, .bool true, post_true l _, fun _ => ⟨List.Pairwise.nil, fun _ hm => (nomatch hm)⟩⟩, h2, h3, h4⟩

/-- the same where the top left finished generators (o_head chose holds_openN): nothing may have changed at all and no generator may be left -/
theorem attachN {l : OpenLaw} {n : Nat} {q : Program} {loose : List Str} {XP : (Str → Option Value) → Heap → Prop} {YP : World → Heap → Prop} {d : DefRec} {x : Str}
    (hn : l.most = some n) (hdf : d.params.defaults = [])
    (hbind : ∀ pm cd doc v : Value, bindArgs (docDef d.name d.params d.body d.scope pm cd doc) ⟨[v], []⟩ = pure [(x, v)])
    (hx : d.scope.names.lookup x = some .local ∨ d.scope.names.lookup x = some .cell)
    (hk : d.scope.kind = .function) (hco : d.scope.isCoroutine = false) (hgen : d.scope.isGenerator = false)
    (body : ∀ (w : World) (s₀ s₁ s : Shared) (mg mb : Str → Option Value) (fa : Addr) (o : Obj) (pm cd doc : Value) (a : Addr) (vs : List Value) (ns : List Int),
      Ground q loose [] XP w s₀ mg mb s₁.heap → YP w s₁.heap →
      s₁.heap.get? fa = some o → o.data = .func (docDef d.name d.params d.body d.scope pm cd doc) → s₁.heap.CodeRec cd d.name → mg d.name = some (.ref fa) →
      s₁.heap.get? a = some { cls := .type "list", data := .seq vs.toArray } → IntsAre vs ns → ns.length ≤ n →
      s.gens = #[] → s.os = s₁.os →
      Fr s₁.heap s₁.heap.objs.size s.heap (bindL (envOfC d.name d.scope s₁.heap.objs.size fa cd).kindOf [(x, .ref a)] fun _ => none) →
      Cl s₁.heap.objs.size (cellsFrom (s₁.heap.objs.size + 1) d.scope.names []) s.heap (bindC (envOfC d.name d.scope s₁.heap.objs.size fa cd).kindOf [(x, .ref a)] fun _ => none) →
      wpAny (model l.prog w) (callerA.deeper (envOfC d.name d.scope s₁.heap.objs.size fa cd)) (execs d.body (envOfC d.name d.scope s₁.heap.objs.size fa cd))
        (fun f s' => f = .ret (.bool true) ∧ (∀ b o, s₁.heap.get? b = some o → s'.heap.get? b = some o) ∧ s'.os = s₁.os ∧ s'.gens = #[]) (fun _ _ => False) s) :
    WalkN q loose XP YP l.row.toRowW d [] (fun f vs => PySem.call f vs) := by
  intro w s₀ s₁ mg mb G Y fa o pm cd doc dV kV ho hd hcd hD hmg hg args vals as hpre hlay hrd hwl hlo
  obtain rfl : dV = .none := Dflts.none hD hdf
  obtain rfl : kV = .none := Dflts.noKw hD
  obtain ⟨a, vs, ns, rfl, rfl, hobj, hints, hlen⟩ := script_of hn hpre hwl
  refine enter_callW ?_
  refine call_cells_ret (o := o) (by rw [depth_caller]; decide) ho (fd_plain hd) G.T.nolimit hcd (hbind pm cd doc (.ref a)) (fun y hy => ?_) (fun h₁ tk F X => ?_) hco hgen hk
  · obtain rfl : y = (x, Value.ref a) := List.mem_singleton.mp hy
    rcases hx with e | e
    · exact .inl e
    · exact .inr ⟨e, cellsFrom_some _ _ _ (.inl e)⟩
  · refine wpAny_mono (body w s₀ s₁ { s₁ with heap := h₁, toks := tk } mg mb fa o pm cd doc a vs ns G Y ho (fd_plain hd) hcd hmg hobj hints hlen hg rfl F X) (fun f s' hq => ?_) (fun _ _ hq => hq)
    obtain ⟨rfl, h2, h3, h4⟩ := hq
    exact ⟨.inl ⟨.bool true, .bool true, [], rfl, fun _ => rfl, .bool true, post_true l _, fun _ => ⟨List.Pairwise.nil, fun _ hm => (nomatch hm)⟩⟩, h2, h3, h4⟩

/-! ### rules over ANY heap (no ledger) from facts about the written part K: the library's own take a ledger (News) for what they write -/
section
variable {prog : Program} {w : World} {A : Around} {E : Value → Shared → Prop} {s : Shared} {K : Frag}

/-- a def of the module, or a method (qual 'C.m'), entered: the frame is the next address; cells behind it -/
theorem call_fn {R : Result → Shared → Prop} {name qual : Str} {params : Arguments} {body : List Stmt} {scope : Scope} {dV kV doc pm cdv ct oc : Value} {an od : Option Addr} {osl : Array (Option Value)} {f : Addr} {args : Args} {binds : List (Str × Value)}
    (X : K.In s.heap) (hlim : s.heap.NoLimit) (ho : K.lookup f = some ⟨oc, od, .func (fnOf name qual params body scope dV kV doc pm an cdv ct), osl⟩) (hcd : codeIn K cdv qual = true) (hroom : A.depth < recursionLimit)
    (hbind : BindsTo s (fnOf name qual params body scope dV kV doc pm an cdv ct) args binds)
    (hkind : (binds.all fun y => scope.names.lookup y.1 == some .local || scope.names.lookup y.1 == some .cell) = true)
    (h : ∀ s₁, InCallC s s.heap.objs.size (bindL (envOfC qual scope s.heap.objs.size f cdv).kindOf binds fun _ => none) (cellsFrom (s.heap.objs.size + 1) scope.names [])
        (bindC (envOfC qual scope s.heap.objs.size f cdv).kindOf binds fun _ => none) s₁ →
      wpAny (model prog w) (A.deeper (envOfC qual scope s.heap.objs.size f cdv)) (execs body (envOfC qual scope s.heap.objs.size f cdv))
        (fun fl s' => R (.ok (.ret (match fl with | .ret v => v | _ => .none))) s')
        (fun e s' => wpAny (model prog w) (A.deeper (envOfC qual scope s.heap.objs.size f cdv)) (leaving (envOfC qual scope s.heap.objs.size f cdv) e) (fun _ s'' => R (.error e) s'') (fun e' s'' => R (.error e') s'') s') s₁)
    (hco : scope.isCoroutine = false) (hgen : scope.isGenerator = false) (hk : scope.kind = .function) : codeAny (model prog w) A (.call (.ref f) args) R s := by
  refine codeAny_call_function hroom (X _ _ ho) rfl hco hgen rfl (codeRec_of X hcd) (hbind _ _ _ _ ?_)
  refine wpAny_newFunctionEnv_cells hk (kindsX hkind _) fun env he s₁ x => ?_
  subst he
  exact ⟨hlim.keeps x.toInCall.keep, codeAny_func (h s₁ x)⟩

/-- C(..): dict at size, instance at size + 1, then __init__ -/
theorem make_obj {R : Result → Shared → Prop} {C fI : Addr} {rest : List Value} {kw : List (Str × Value)}
    (X : K.In s.heap) (hm : makesIn K C = true) (hi : findIn K (.ref C) "__init__" = some (some (.ref fI))) (hf : isFn K (.ref fI) = true)
    (h : codeAny (model prog w) (A.under (.builtin "type.__call__" ⟨.ref C :: rest, kw⟩)) (.call (.ref fI) ⟨.ref (s.heap.objs.size + 1) :: rest, kw⟩) (InitBack (s.heap.objs.size + 1) R)
      { s with heap := (s.heap.push emptyDict).push (instObj C s.heap.objs.size) }) : codeAny (model prog w) A (.call (.ref C) ⟨rest, kw⟩) R s := by
  obtain ⟨hh, g, d, t, os⟩ := s
  exact make_core (makes_of X hm) (looks_findIn X hi) (fun self => bind_fn X self (beq_iff_eq.mp hf)) (.inl rfl) h

/-- x.name where the instance's dict holds the name and the class does not -/
theorem get_field {x C : Addr} {ox : Obj} {es : List DictEntry} {n : Nat} {name : Str} {expr : Bool} {v : Value} {Q : Value → Shared → Prop}
    (X : K.In s.heap) (I : PySem.W.InstAt s.heap x ox C (some (dictOf es n))) (hg : plainGet K C name = true) (hh : hasDictIn K C = true) (ha : findIn K (.ref C) name = some none)
    (hl : getL name es = some (some v)) (hv : handedIn v = true) (h : Q v { s with toks := s.toks + 1 }) : wpAny (model prog w) A (getAttr (.ref x) name expr) Q E s :=
  get_value X I (plainGet_of hg).1 (findObj_own hh ha rfl hl) hv h

/-- x.m(..): the method found in the class -/
theorem get_method {x C f : Addr} {ox : Obj} {es : List DictEntry} {n : Nat} {name : Str} {pl : Sem Bool} {Q : Value × List Value → Shared → Prop}
    (X : K.In s.heap) (I : PySem.W.InstAt s.heap x ox C (some (dictOf es n))) (hg : plainGet K C name = true) (hf : findIn K (.ref C) name = some (some (.ref f))) (ht : isFn K (.ref f) = true)
    (hl : getL name es = some none) (h : Q (.ref f, [.ref x]) s) : wpAny (model prog w) A (getMethod (.ref x) name pl) Q E s :=
  method_fn X I (plainGet_of hg).1 (plainGet_of hg).2 hf (beq_iff_eq.mp ht) (by show (lookIn name (dictOf es n)).map _ = _; rw [lookIn_dict, hl]; rfl) h

/-! the whole heap as the ledger: makes every rule that writes through a ledger a rule over any heap -/
def noObjs (h : Heap) : Heap := { h with objs := #[] }
theorem noObjs_get (h : Heap) (b : Addr) : (noObjs h).get? b = none := by
  cases e : (noObjs h).get? b with
  | none => rfl
  | some o => exact absurd (Heap.lt_size e) (Nat.not_lt_zero _)
def ledger (h : Heap) (L d : Addr) : List (Addr × Obj) := (List.range h.objs.size).filterMap fun a => if a = L ∨ a = d then none else (h.get? a).map fun o => (a, o)
theorem mem_ledger {h : Heap} {L d a : Addr} {o : Obj} : (a, o) ∈ ledger h L d ↔ a ≠ L ∧ a ≠ d ∧ h.get? a = some o := by
  unfold ledger
  rw [List.mem_filterMap]
  constructor
  · rintro ⟨b, _, e⟩
    split at e
    · cases e
    · rename_i hb
      obtain ⟨o', ho, e'⟩ := Option.map_eq_some_iff.mp e
      cases e'
      exact ⟨fun q => hb (.inl q), fun q => hb (.inr q), ho⟩
  · rintro ⟨n1, n2, ho⟩
    refine ⟨a, List.mem_range.mpr (Heap.lt_size ho), ?_⟩
    rw [if_neg (show ¬ (a = L ∨ a = d) from fun q => q.elim n1 n2), ho] <;> rfl
theorem news_ledger {h : Heap} {L d : Addr} {od : Obj} (hne : d ≠ L) (ho : h.get? d = some od) : News (noObjs h) L h ([] ++ (d, od) :: ledger h L d) := by
  rintro ⟨a, o⟩ hp
  rcases List.mem_cons.mp hp with e | hp
  · cases e
    exact ⟨ho, hne, noObjs_get _ _⟩
  · obtain ⟨n1, n2, e⟩ := mem_ledger.mp hp
    exact ⟨e, n1, noObjs_get _ _⟩
theorem fr_all {h : Heap} {L : Addr} {m : Str → Option Value} (n : h.Ns L m) : Fr (noObjs h) L h m :=
  ⟨n, fun b o e => (by rw [noObjs_get] at e; cases e), Nat.zero_le _⟩
/-- Upd of the head entry (for append_K, setItem_K ..) -/
theorem upd_ledger {h : Heap} {L d : Addr} {o o' : Obj} : Upd d o o' ((d, o) :: ledger h L d) ((d, o') :: ledger h L d) :=
  .head fun ⟨_, _⟩ hp => (mem_ledger.mp hp).2.1

/-- x.name = v over any heap: L is any namespace of the heap (the frame's, say): its map stays, its object is not told; all else but the dict stays -/
theorem set_field {x C dx L : Addr} {ox : Obj} {m : Str → Option Value} {es es' : List DictEntry} {n n' : Nat} {name : Str} {v : Value} {Q : Unit → Shared → Prop}
    (X : K.In s.heap) (I : PySem.W.InstAt s.heap x ox C (some (dictOf es n))) (hd : ox.dict = some dx) (hL : s.heap.Ns L m) (hne : dx ≠ L)
    (hs : findIn K (.ref C) "__setattr__" = some (some (.builtin "object.__setattr__"))) (hp : plainOver K C = true) (ht : takerIn K C name = some none) (hh : hasDictIn K C = true) (hl : (getL name es).isSome = true)
    (e : (putL name (PyData.keyHash w.params name) (.str name (s.toks + 1)) v es, putN name es n) = (es', n')) (hz : es'.length ≤ 1000)
    (h : ∀ h' : Heap, h'.Ns L m → h'.get? dx = some (dictOf es' n') → (∀ b o, b ≠ dx → b ≠ L → s.heap.get? b = some o → h'.get? b = some o) → Q () { s with heap := h', toks := s.toks + 2 }) :
    wpAny (model prog w) A (setAttr (.ref x) name v) Q E s := by
  obtain ⟨e1, e2⟩ := Prod.mk.inj e
  have hdx : s.heap.get? dx = some (dictOf es n) := by
    have := I.dict
    rw [hd] at this
    exact this
  refine set_plain X I hs (osa_dict (s := { s with toks := s.toks + 1 }) (h₀ := noObjs s.heap) (L := L) (m := m) (od := dictOf es n) (od' := dictOf es' n') (es := es') (n := n') (pre := []) (post := ledger s.heap L dx)
    (fr_all hL) (news_ledger hne hdx) X I hd hp ht hh hl (fun _ q => nomatch q) (fun ⟨_, _⟩ q => (mem_ledger.mp q).2.1) (by rw [putName_dict, e1, e2]) rfl hz fun h' F' N' => ?_)
  exact h h' F'.ns (N'.get (List.Mem.head _)) fun b o n1 n2 ho => N'.get (List.Mem.tail _ (mem_ledger.mpr ⟨n2, n1, ho⟩))
end
end Att

namespace L2
open PySem PySem.Spec PyProof.Rows

theorem vals_ints : ∀ {vs : List Value} {ns : List Int}, IntsAre vs ns → Vals (ns.map V.int) vs
  | _, _, .nil => .nil
  | _, _, .cons n t h => .cons ⟨t, rfl⟩ (vals_ints h)

/-- nothing is tracked but the script, known to the object (or it is an object of the module) -/
def Only (H : Hp) : Prop := ∀ b, H b = none ∨ ∃ o xs, H b = some (.frz o (.lst xs))

/-- THE HEAD: the law's promise, at the heap behind the top. F, the promise of the law's def, may use that base is part of the heap (so K.In base, base.Ns mainGlobals mg stand in Mod) -/
theorem law_call {P : Program} {w : World} {K : PySem.W.Frag} {mg mb : Str → Option Value} {CX : CXT} {k : Nat} {fa a : Addr} {fd : FuncData} {x : Str} {sp : Sp} {s₁ : Shared} {vs : List Value} {ns : List Int}
    (KX : K.In s₁.heap) (hns : s₁.heap.Ns mainGlobals mg) (hb : s₁.heap.Ns builtinsNs mb) (hbb : ∀ x : Str, x ≠ "__name__" → mb x = bootBuiltins x) (hlim : s₁.heap.NoLimit) (hg : s₁.gens = #[])
    (ha : s₁.heap.get? a = some { cls := .type "list", data := .seq vs.toArray }) (hi : IntsAre vs ns) (hl : ns.length ≤ sizeLine) (hr : Room k callerA)
    (F : ∀ base : Heap, K.In base → base.Ns mainGlobals mg → FnOk P w K mg base CX k fa fd [x] sp) (hbind : ∀ (s : Shared) (u : Value), BindsTo s fd ⟨[u], []⟩ [(x, u)])
    (hsp : ∀ H : Hp, Only H → SqL K H a (ns.map V.int) → sp [.ref a] H (fun v _ => v = .bl true) fun _ _ _ => False)
    (hCX : ∀ H e s', CX [] H s₁ (fun _ _ _ => False) e s' → False) :
    codeAny (model P w) callerA (.call (.ref fa) ⟨[.ref a], []⟩) (fun r s' => r = .ok (.ret (.bool true)) ∧ OldK s₁.heap s'.heap ∧ s'.os = s₁.os ∧ AllBare s'.gens) s₁ := by
  have rv := vals_ints hi
  have lenV := hi.length
  -- from an abstract heap in which nothing but the script may be tracked
  have core : ∀ H : Hp, Only H → SqL K H a (ns.map V.int) → HOk P w H s₁.heap → (∀ b, H b ≠ none → b = a) → (H a ≠ none → K.lookup a = none) →
      codeAny (model P w) callerA (.call (.ref fa) ⟨[.ref a], []⟩) (fun r s' => r = .ok (.ret (.bool true)) ∧ OldK s₁.heap s'.heap ∧ s'.os = s₁.os ∧ AllBare s'.gens) s₁ := by
    intro H hO hS hok hA hK
    have base_of : ∀ {b : Addr} {o : Obj}, s₁.heap.get? b = some o → H b = none → (hidT s₁.heap H).get? b = some o := fun e n => hidT_get e n
    have noA : ∀ {b : Addr} {o : Obj} {es : Array DictEntry} {ep : Nat}, s₁.heap.get? b = some o → o.data = .dict es ep → H b = none := fun {b o es ep} e d => by
      cases q : H b with
      | none => rfl
      | some u =>
        have e' : b = a := hA b (by rw [q]; simp)
        subst e'
        rw [ha] at e; cases e
        have d' : Data.seq vs.toArray _ = Data.dict es ep := d
        cases d'
    have nsK : ∀ {b : Addr} {m : Str → Option Value}, s₁.heap.Ns b m → (hidT s₁.heap H).Ns b m := fun {b m} ⟨o, es, ep, e, d, r⟩ => ⟨o, es, ep, base_of e (noA e d), d, r⟩
    have hKb : K.In (hidT s₁.heap H) := fun b o e => base_of (KX b o e) (by
      cases q : H b with
      | none => rfl
      | some u =>
        have e' : b = a := hA b (by rw [q]; simp)
        subst e'
        rw [hK (by rw [q]; simp)] at e; cases e)
    have hM : Mod K mg (hidT s₁.heap H) := ⟨hKb, nsK hns, ⟨mb, nsK hb, hbb⟩, let ⟨mc, h1, h2⟩ := hlim; ⟨mc, nsK h1, h2⟩⟩
    have e0 : Env0 P w K mg (hidT s₁.heap H) callerA [] s₁ H := ⟨rfl, hM, fun b o e => of_hidT e, Nat.le_of_eq (hidT_size _ _), trivial, fun b hb => absurd (show b ∈ ([] : List Addr) from hb) (by simp), hok, .of_eq hg⟩
    refine codeAny_mono ((F _ hKb (nsK hns)).run callerA [] s₁ H ⟨[.ref a], []⟩ [.ref a] [.ref a] _ _ hr e0 (hbind s₁ (.ref a)) (.cons rfl .nil) (hsp H hO hS)) fun r s' h => ?_
    cases r with
    | error e => exact (hCX H e s' h).elim
    | ok fl =>
      cases fl with
      | next => exact False.elim h
      | brk => exact False.elim h
      | cont => exact False.elim h
      | ret u =>
        obtain ⟨v, H', os, bare, un, hok', r', q⟩ := h
        have q' : v = .bl true := q
        subst q'
        obtain rfl : u = Value.bool true := r'
        refine ⟨rfl, OldK.of_keep fun b o e => ?_, os, bare⟩
        cases q : H b with
        | none => exact un.keep b o e q (by intro z; exact absurd (show b ∈ ([] : List Addr) from z) (by simp)) (by simp)
        | some u =>
          rcases hO b with z | ⟨ob, xs, z⟩
          · rw [q] at z; cases z
          · have z2 := un.frzs b ob _ z
            obtain ⟨e1, _⟩ := hok b _ z
            obtain ⟨e2, _⟩ := hok' b _ z2
            rw [e] at e1; cases e1
            exact e2
  cases hk : K.lookup a with
  | some o =>
    -- the script is one of the module's own objects
    have e := KX a o hk
    rw [ha] at e
    cases e
    refine core (fun _ => none) (fun _ => .inl rfl) (.inr ⟨_, vs.toArray, _, hk, rfl, rfl, rfl, by rw [List.size_toArray, lenV]; exact hl, by simpa using rv⟩) (fun b u z => by have z' : (none : Option HO) = some u := z; cases z') (fun b z => absurd rfl z) fun z => absurd rfl z
  | none =>
    refine core (fun b => if b = a then some (.frz { cls := .type "list", data := .seq vs.toArray } (.lst (ns.map V.int))) else none) (fun b => ?_) (.inl (.inr ⟨{ cls := .type "list", data := .seq vs.toArray }, if_pos rfl⟩)) (fun b u z => ?_) (fun b z => ?_) fun _ => hk
    · by_cases hb : b = a
      · exact .inr ⟨_, _, if_pos hb⟩
      · exact .inl (if_neg hb)
    · by_cases hb : b = a
      · have z' := (if_pos hb).symm.trans z
        cases z'
        subst hb
        exact ⟨ha, by rw [List.length_map]; exact hl, vs, _, rv, ha⟩
      · have z' := (if_neg hb).symm.trans z
        cases z'
    · by_cases hb : b = a
      · exact hb
      · exact absurd (if_neg hb) z
end L2

namespace L2
open PySem PySem.Spec PyProof.Rows

abbrev KOf {K : PySem.W.Frag} {h : Heap} (_ : K.In h) : PySem.W.Frag := K

/-- the goal that k_head leaves (case hc), from the law's promise. F gives the function object fd (K's own) once, then the promise over every base -/
theorem walk_of {l : PySem.W.OpenLaw} {n k : Nat} {q : Program} {loose : List Str} {XP : (Str → Option Value) → Heap → Prop} {YP : World → Heap → Prop} {d : DefRec} {K : Params → PySem.W.Frag} {CX : World → CXT} {sp : World → Sp} {x : Str}
    (hn : l.most = some n) (hn2 : n ≤ sizeLine) (hdf : d.params.defaults = []) (hr : Room k callerA)
    (hY : ∀ (w : World) (h : Heap), YP w h → (K w.params).In h)
    (F : ∀ (w : World) (mg : Str → Option Value) (fa : Addr) (h : Heap), (K w.params).In h → h.Ns mainGlobals mg → mg d.name = some (.ref fa) →
      ∃ fd : FuncData, (∀ (s : Shared) (u : Value), BindsTo s fd ⟨[u], []⟩ [(x, u)]) ∧
        ∀ base : Heap, (K w.params).In base → base.Ns mainGlobals mg → FnOk l.prog w (K w.params) mg base (CX w) k fa fd [x] (sp w))
    (hsp : ∀ (w : World) (H : Hp) (a : Addr) (ns : List Int), ns.length ≤ n → Only H → SqL (K w.params) H a (ns.map V.int) → sp w [.ref a] H (fun v _ => v = .bl true) fun _ _ _ => False)
    (hCX : ∀ (w : World) (H : Hp) (s : Shared) (e : Value) (s' : Shared), CX w [] H s (fun _ _ _ => False) e s' → False) :
    PySem.W.WalkO q loose XP YP l.row.toRowW d [] (fun f vs => PySem.call f vs) := by
  refine Att.attach_call hn hdf fun w s₀ s₁ mg mb fa o pm cd doc a vs ns G Y ho hd hcd hmg hobj hints hlen hg => ?_
  have KX := hY w _ Y
  obtain ⟨fd, hb, hF⟩ := F w mg fa _ KX G.T.g hmg
  exact law_call KX G.T.g G.T.b G.T.builtins G.T.nolimit hg hobj hints (Nat.le_trans hlen hn2) hr hF hb (fun H hO hS => hsp w H a ns hlen hO hS) fun H e s' => hCX w H s₁ e s'
/-- the same where the promise hangs on the written part alone: (sp := My.sp_law), no hole under a binder -/
theorem walk_ofK {l : PySem.W.OpenLaw} {n k : Nat} {q : Program} {loose : List Str} {XP : (Str → Option Value) → Heap → Prop} {YP : World → Heap → Prop} {d : DefRec} {K : Params → PySem.W.Frag} {CX : CXT} {sp : PySem.W.Frag → Sp} {x : Str}
    (hn : l.most = some n) (hn2 : n ≤ sizeLine) (hdf : d.params.defaults = []) (hr : Room k callerA)
    (hY : ∀ (w : World) (h : Heap), YP w h → (K w.params).In h)
    (F : ∀ (w : World) (mg : Str → Option Value) (fa : Addr) (h : Heap), (K w.params).In h → h.Ns mainGlobals mg → mg d.name = some (.ref fa) →
      ∃ fd : FuncData, (∀ (s : Shared) (u : Value), BindsTo s fd ⟨[u], []⟩ [(x, u)]) ∧
        ∀ base : Heap, (K w.params).In base → base.Ns mainGlobals mg → FnOk l.prog w (K w.params) mg base CX k fa fd [x] (sp (K w.params)))
    (hsp : ∀ (K : PySem.W.Frag) (H : Hp) (a : Addr) (ns : List Int), ns.length ≤ n → Only H → SqL K H a (ns.map V.int) → sp K [.ref a] H (fun v _ => v = .bl true) fun _ _ _ => False)
    (hCX : ∀ (H : Hp) (s : Shared) (e : Value) (s' : Shared), CX [] H s (fun _ _ _ => False) e s' → False) :
    PySem.W.WalkO q loose XP YP l.row.toRowW d [] (fun f vs => PySem.call f vs) :=
  walk_of (K := K) (CX := fun _ => CX) (sp := fun w => sp (K w.params)) hn hn2 hdf hr hY F (fun w H a ns h1 h2 h3 => hsp (K w.params) H a ns h1 h2 h3) fun _ H s e s' => hCX H s e s'
end L2

/- THE LAST THEOREM (shape; LID, My.* are yours):
   My.Adr: a structure of the addresses that your layer names (classes, functions); My.Txt K t: a structure (Prop) of the equations over K;
   My.txt_mk : {K} {implicit addresses ..} (e1 : nsIn K mainGlobals "law" = some (some (.ref f))) (e2 : K.lookup f = some ⟨oc, od, .func (fnOf "law" "law" params body scope dV kV doc pm an cdv ct), sl⟩) (e3 : codeIn K cdv "law" = true) .. : ∃ t, My.Txt K t

set_option maxRecDepth 100000 in
set_option maxHeartbeats 0 in
theorem PySem.Challenge.cw_LID_holds : PySem.Challenge.rw_LID.Holds := by
  w_on; o_law; k_head; (case hw => w_witness2)
  k_fill
  refine L2.walk_of (l := PySem.Challenge.rw_LID) (n := 63) (k := 40) (x := "script") (CX := fun w => ..) (sp := fun _ => My.sp_law) rfl (by decide) rfl ⟨rfl, by decide, by decide⟩ (fun w h Y => PySem.W.kIn_of Y) ?F ?S ?C
  case F =>
    intro w mg fa h KX G hmg
    have T : ∃ t, My.Txt (L2.KOf KX) t := by
      dsimp only [L2.KOf]                          -- K must stand as «<heap const> w.params» for k_is
      refine' My.txt_mk ?e1 ?e2 ?e3 ..
      (case e1 => PySem.W.k_is)                    -- in the order: a name -> its address -> its object -> its parts
      (case e2 => PySem.W.k_is)
      ..
    obtain ⟨t, T⟩ := T
    have e0 := hmg.symm.trans (PySem.W.mg_of KX G T.law)
    cases e0                                       -- fa is the law's own address
    exact ⟨_, fun s u => .of_eq rfl, fun base kb nb => My.law_fn T kb nb⟩     -- if «.of_eq rfl» comes too early: refine' ⟨_, ?b, fun base kb nb => My.law_fn T kb nb⟩; exact fun s u => .of_eq rfl
  case S => exact fun w H a ns hl hO hS => ..
  case C => exact ..
(the tactic k_is has no namespace: write k_is) -/

/-! SHORT WORDS over the layer: a def of the text, its body, what a loop and a test want. -/
namespace L2
open PySem PySem.Spec PyProof.Rows

/-! ### the text by places -/
/-- the j-th statement of a class's body -/
def inClass (s : Stmt) (j : Nat) : Stmt := match s with
  | .ClassDef _ _ _ body _ _ _ _ _ _ _ => body.getD j (.Pass ⟨0, 0, 0, 0⟩)
  | _ => .Pass ⟨0, 0, 0, 0⟩
def defArgs (s : Stmt) : Arguments := match s with
  | .FunctionDef _ a _ _ _ _ _ _ _ _ => a
  | _ => { posonlyargs := [], args := [], vararg := none, kwonlyargs := [], kw_defaults := [], kwarg := none, defaults := [] }
def defBody (s : Stmt) : List Stmt := match s with
  | .FunctionDef _ _ b _ _ _ _ _ _ _ => b
  | _ => []
def defScope (s : Stmt) : Scope := match s with
  | .FunctionDef _ _ _ _ _ _ sc _ _ _ => sc
  | _ => { kind := .function, names := [], isGenerator := false, isCoroutine := false }

/-! ### no exception leaves a def -/
abbrev CX0 : CXT := fun _ _ _ _ _ _ => False
abbrev E0 : XK := fun _ _ _ => False
theorem pass0 {X : Cx} : Passes CX0 X E0 := fun _ _ _ _ _ _ _ h => h.elim

/-! ### a def (or method) of the text as it stands behind the top -/
structure Fun (K : PySem.W.Frag) (x qual : Str) (st : Stmt) (f : Addr) (fd : FuncData) : Prop where
  ex : ∃ (oc : Value) (od : Option Addr) (kV doc pm : Value) (an : Option Addr) (cdv ct : Value) (osl : Array (Option Value)),
    fd = PySem.W.fnOf x qual (defArgs st) (defBody st) (defScope st) .none kV doc pm an cdv ct ∧ K.lookup f = some ⟨oc, od, .func fd, osl⟩ ∧ PySem.W.codeIn K cdv qual = true
  kp : PySem.W.keepIn K (.ref f) = true
section
variable {P : Program} {w : World} {K : PySem.W.Frag} {mg : Str → Option Value} {base : Heap}
/-- THE RULE for a def: its body as a term of rules, and the reading of that term -/
theorem Fun.ok {x qual : Str} {st : Stmt} {f : Addr} {fd : FuncData} {N ps : List Str} {k : Nat} {sp : Sp} (F : Fun K x qual st f fd) (S : FnScope N ps (defScope st)) (len : ∀ vs H Q E, sp vs H Q E → vs.length = ps.length)
    (hbody : ∀ (cdv : Value) (A : Around) (outer : List Env) (s : Shared) (H : Hp) (vs : List V) (Q : VK) (E : XK), Room k (A.deeper (envOfC qual (defScope st) s.heap.objs.size f cdv)) → sp vs H Q E →
      ∃ t, PSs (cxOf CX0 P w K mg base N qual (defScope st) f cdv A outer s H E).nox (defBody st) t ∧ t { nx := fun _ H' => Q .non H', rt := Q } (start N vs) H) : FnOk P w K mg base CX0 (k + 1) f fd ps sp := by
  obtain ⟨oc, od, kV, doc, pm, an, cdv, ct, osl, rfl, lk, hcd⟩ := F.ex
  refine fn_of lk hcd S len fun A outer s H vs Q E hr hsp => ?_
  obtain ⟨t, h, q⟩ := hbody cdv A outer s H vs Q E hr hsp
  exact ⟨t, h.nox, q⟩
/-- how its arguments bind (no defaults): h is «fun _ _ _ _ _ _ us hl => match us, hl with | [_, _], _ => rfl», one _ a parameter -/
theorem Fun.binds {x qual : Str} {st : Stmt} {f : Addr} {fd : FuncData} {ps : List Str} (F : Fun K x qual st f fd)
    (h : ∀ (kV doc pm : Value) (an : Option Addr) (cdv ct : Value) (us : List Value), us.length = ps.length → bindArgs (PySem.W.fnOf x qual (defArgs st) (defBody st) (defScope st) .none kV doc pm an cdv ct) ⟨us, []⟩ = pure (ps.zip us)) : Binds K fd ps [] := by
  obtain ⟨oc, od, kV, doc, pm, an, cdv, ct, osl, rfl, lk, hcd⟩ := F.ex
  exact .all (h kV doc pm an cdv ct)
theorem fun_mk {x qual : Str} {st : Stmt} {f : Addr} {oc : Value} {od an : Option Addr} {osl : Array (Option Value)} {kV doc pm cdv ct : Value} (l : K.lookup f = some ⟨oc, od, .func (PySem.W.fnOf x qual (defArgs st) (defBody st) (defScope st) .none kV doc pm an cdv ct), osl⟩)
    (c : PySem.W.codeIn K cdv qual = true) (k : PySem.W.keepIn K (.ref f) = true) : Fun K x qual st f (PySem.W.fnOf x qual (defArgs st) (defBody st) (defScope st) .none kV doc pm an cdv ct) := ⟨⟨oc, od, kV, doc, pm, an, cdv, ct, osl, rfl, l, c⟩, k⟩
end
theorem hu_of {A : Around} {k : Nat} (hr : Room k A) : A.units + 1 < cLine := Nat.lt_of_le_of_lt (Nat.add_le_add_left (by decide : 1 ≤ 64) _) hr.units
theorem small1000 {n : Nat} (h : n ≤ 1000) : n < sizeLine := Nat.lt_of_le_of_lt h (by decide)

/-! ### expressions in short: the name that stands in the i-th slot -/
section
variable {X : Cx}
theorem pv (i : Nat) {x : Str} {pos : Pos} (hN : X.N[i]? = some x := by rfl) (hv : Vis X.env.scope x := by first | exact Or.inl rfl | exact Or.inr (Or.inl rfl) | exact Or.inr (Or.inr rfl)) (hd : (x == ("__debug__" : Str)) = false := by decide)
    (hcd : (x == ("__classdict__" : Str)) = false := by decide) : PE X (.Name x pos) (tVar i) := pe_var hN hv hd hcd
end

/-! ### tests -/
theorem iteF {A B : Prop} (h : B) : if false = true then A else B := by
  rw [if_neg Bool.false_ne_true]
  exact h
theorem iteT {A B : Prop} (h : A) : if true = true then A else B := by
  rw [if_pos rfl]
  exact h
theorem ite2 {c A B : Prop} [Decidable c] (h1 : c → A) (h2 : ¬ c → B) : if c then A else B := by
  by_cases h : c
  · rw [if_pos h]
    exact h1 h
  · rw [if_neg h]
    exact h2 h
theorem iteNS {c A B : Prop} [Decidable c] (hc : c) (h : B) : if (!decide c) = true then A else B := by
  rw [decide_eq_true hc]
  exact iteF h

/-! ### heaps -/
/-- all that was tracked is as it was -/
def Same (H H' : Hp) : Prop := ∀ b o, H b = some o → H' b = some o
theorem Same.refl (H : Hp) : Same H H := fun _ _ h => h
theorem Same.trans {H H1 H2 : Hp} (a : Same H H1) (b : Same H1 H2) : Same H H2 := fun c o h => b c o (a c o h)
theorem Same.free {H H' : Hp} (e : Same H H') {l : Addr} (h : H' l = Option.none) : H l = Option.none := by
  cases q : H l with
  | none => rfl
  | some o =>
    rw [e l o q] at h
    cases h
theorem Same.seq {K : PySem.W.Frag} {H H' : Hp} {a : Addr} {xs : List V} (e : Same H H') (h : SqL K H a xs) : SqL K H' a xs := by
  rcases h with (h | ⟨o, h⟩) | h
  · exact .inl (.inl (e _ _ h))
  · exact .inl (.inr ⟨o, e _ _ h⟩)
  · exact .inr h

end L2
namespace L2
open PySem PySem.Spec PyProof.Rows

/-! ### a list comprehension of one clause, no test -/
/-- its block: the variable in slot 0, the captured names behind it; no exception leaves it -/
@[reducible] def blk (X : Cx) (x : Str) (fv : List (Nat × Str)) (scope : Scope) (cl : List (Str × Addr)) (C : Addr) (s : Shared) (H : Hp) (fp : List Addr) : Cx where
  prog := X.prog
  w := X.w
  K := X.K
  mg := X.mg
  base := X.base
  A := X.A
  N := x :: fv.map (·.2)
  s₀ := s
  H₀ := H
  env := compEnvC scope cl C X.env
  outer := X.stack
  stack := X.stack
  ex := fp
  fn := fun _ => false
  calm := X.calm
  pn := []
  xe := fun _ _ => False
/-- the names' values in the block -/
def bst (fv : List (Nat × Str)) (σ : St) (v : Option V) : St := v :: fv.map fun p => (σ[p.1]?).getD none
/-- what its names must be -/
structure BlkOk (X : Cx) (x : Str) (fv : List (Nat × Str)) (scope : Scope) (cl : List (Str × Addr)) : Prop where
  clos : closureFor scope X.env = pure cl
  nocell : ∀ y ∈ scope.names, y.2 ≠ .cell
  kind : scope.kind = .function
  names : ∀ y ∈ scope.names, y.2 = .local → scope.names.lookup y.1 = some .local
  here : scope.names.lookup x = some .local
  sub : ∀ y c, cl.lookup y = some c → X.env.cells.lookup y = some c
  has : ∀ y, ((relabel scope X.env).names.lookup y = some .cell ∨ (relabel scope X.env).names.lookup y = some .free) → ∃ c, cl.lookup y = some c
  fvs : ∀ p ∈ fv, p.2 ≠ x ∧ X.N[p.1]? = some p.2 ∧ (X.env.scope.names.lookup p.2 = some .cell ∨ X.env.scope.names.lookup p.2 = some .free) ∧
    ((relabel scope X.env).names.lookup p.2 = some .cell ∨ (relabel scope X.env).names.lookup p.2 = some .free) ∧ ∃ c, cl.lookup p.2 = some c

theorem compLoop_one {prog : Program} {w : World} {A : Around} {R : Result → Shared → Prop} {s : Shared} {elt target iter : Expr} {scope : Scope} {pos : Pos} {it acc : Value} {env : Env} (I : Nat → Shared → Prop)
    (turn : ∀ n s (E : Value → Shared → Prop), I n s → wpAny (model prog w) A (pyNext it) (fun r s₁ => match r with
      | none => R (.ok .next) s₁
      | some v => wpAny (model prog w) A (letOwnedTupleGo target it v) (fun _ s₂ => wpAny (model prog w) A (assign target env v) (fun _ s₃ => wpAny (model prog w) A (eval elt env) (fun x s₄ =>
          wpAny (model prog w) A (call (.builtin "list.append") [acc, x]) (fun _ s₅ => ∃ m, m < n ∧ I m s₅) E s₄) E s₃) E s₂) E s₁) E s)
    (n : Nat) (h : I n s) :
    codeAny (model prog w) A (.compLoop (.ListComp elt [⟨target, iter, [], 0⟩] scope pos) 0 it acc env) R s := by
  refine codeAny_loop rfl I (fun n s hI => ?_) n h
  show wpAny _ _ ((compTurn (.ListComp elt [⟨target, iter, [], 0⟩] scope pos) 0 it acc env).onRaise (fun x => do noteFrame x env; theTreesLotGoes x)) _ _ s
  refine wpAny_noted ?_
  rw [PySem.compTurn_list1]
  refine wpAny_bind (wpAny_standAt (wpAny_bind (wpAny_mono (turn n s _ hI) (fun r s₁ h₁ => ?_) fun _ _ h' => h')))
  cases r with
  | none => exact wpAny_pure h₁
  | some v =>
    exact wpAny_bind (thn h₁ fun _ s₂ h₂ => wpAny_bind (thn h₂ fun _ s₃ h₃ => wpAny_bind (wpAny_bind (thn h₃ fun x s₄ h₄ => wpAny_bind (thn h₄ fun _ s₅ h₅ => wpAny_pure (wpAny_pure ⟨rfl, h₅⟩))))))

section
variable {X : Cx} {elt iter : Expr} {x : Str} {px : Pos} {fv : List (Nat × Str)} {scope : Scope} {cl : List (Str × Addr)} {pos : Pos} {te : TE} {wi : TI}

/-- the reading: W by the turn and a measure; D is the new list -/
def tComp (fv : List (Nat × Str)) (wi : TI) (te : TE) : TE := fun σ H Q => wi σ H fun J H1 => ∀ D, H1 D = none → ∃ W : Nat → Nat → Hp → Prop, (∃ m, W 0 m (upd H1 D (.lst []))) ∧ ∀ i m H, W i m H →
  (J.stop i H ∧ Q (.ref D) H) ∨ (J.go i H ∧ ∃ N : Hp → Prop, (∀ H', N H' → ∃ m', m' < m ∧ W (i + 1) m' H') ∧ ∀ v H', J.yld i H v H' → te (bst fv σ (some v)) H' fun y H2 => ∃ ys, H2 D = some (.lst ys) ∧ ys.length < sizeLine ∧ N (upd H2 D (.lst (ys ++ [y]))))

theorem cell_lt {h : Heap} {c : Addr} {v : Option Value} (x : h.IsCell c v) : c < h.objs.size := let ⟨_, e, _⟩ := x; Heap.lt_size e

theorem blk_ok {pins : List (Addr × Obj)} {σ : St} {H : Hp} {s : Shared} {fp : List Addr} {C : Addr} (B : BlkOk X x fv scope cl) (I : Inv X pins σ H s) (hf : ∀ b ∈ fp, FpOk X pins H b) (hC : s.heap.objs.size ≤ C) (hfC : ∀ b ∈ fp, b ≠ C) :
    (blk X x fv scope cl C s H fp).Ok where
  mod := I.ok.mod
  kind := B.kind
  glob := I.ok.glob
  blt := I.ok.blt
  above := hC
  inj := fun y z c h1 h2 => I.ok.inj y z c (B.sub y c h1) (B.sub z c h2)
  has := fun y hy => B.has y hy
  cab := fun y c h => nomatch h
  hd := I.ok.hd
  frames := I.ok.frames
  stk := .inl rfl
  exf := fun b hb => ⟨hfC b hb, fun y c e => (hf b hb).2.2.2.2.1 y c (B.sub y c e)⟩
  bs := I.bs
  bsz := Nat.le_trans I.ok.bsz I.sz
  noex := fun b o e hb => by
    obtain ⟨_, _, _, f3, _⟩ := hf b hb
    rcases f3 with z | z
    · exact I.ok.noex b o e z
    · exact absurd (Nat.lt_of_lt_of_le (Heap.lt_size e) (Nat.le_trans I.ok.bsz z)) (Nat.lt_irrefl _)
  exfs := fun b hb hs => by
    obtain ⟨_, f1, f2, _⟩ := hf b hb
    rcases List.mem_cons.mp (I.stkSub b hs) with z | z
    · exact f1 z
    · exact f2 z
  funs := I.stack
  frf := I.stkFree

theorem bst_get {fv : List (Nat × Str)} {σ : St} {o : Option V} {j : Nat} {y : Str} {v : V} (h1 : (x :: fv.map (·.2))[j + 1]? = some y) (h2 : (bst fv σ o)[j + 1]? = some (some v)) : ∃ p ∈ fv, p.2 = y ∧ σ[p.1]? = some (some v) := by
  have e1 : (fv.map (·.2))[j]? = some y := by simpa using h1
  have e2 : (fv.map fun p => (σ[p.1]?).getD none)[j]? = some (some v) := by simpa [bst] using h2
  rw [List.getElem?_map] at e1 e2
  cases q : fv[j]? with
  | none => rw [q] at e1; cases e1
  | some p =>
    rw [q] at e1 e2
    refine ⟨p, List.mem_of_getElem? q, Option.some.inj e1, ?_⟩
    have e3 : (σ[p.1]?).getD none = some v := Option.some.inj e2
    cases r : σ[p.1]? with
    | none => rw [r] at e3; cases e3
    | some w => rw [r] at e3; exact congrArg some e3

/-- the block's start, behind the new namespace -/
theorem blk_start {pins : List (Addr × Obj)} {σ : St} {H : Hp} {s s4 : Shared} {fp : List Addr} {C : Addr} {m : Str → Option Value} (B : BlkOk X x fv scope cl) (I : Inv X pins σ H s) (hf : ∀ b ∈ fp, FpOk X pins H b) (hC : C = s.heap.objs.size)
    (hfC : ∀ b ∈ fp, b ≠ C) (os : s4.os = s.os) (gens : s4.gens = s.gens) (keep : ∀ b o, s.heap.get? b = some o → s4.heap.get? b = some o) (ns : s4.heap.Ns C m) :
    Inv (blk X x fv scope cl C s H fp) [] (bst fv σ none) H s4 := by
  subst hC
  refine ⟨blk_ok B I hf (Nat.le_refl _) hfC, os, by rw [gens]; exact I.bare, Un.kept keep, ⟨m, ns, fun i y v h1 h2 h3 => ?_⟩, fun y c e => ?_, I.hok.fresh (Nat.le_refl _), fun y c e => I.freeC y c (B.sub y c e), fun p hp => absurd (show p ∈ ([] : List (Addr × Obj)) from hp) (by simp), I.hok.kept keep, by simp [bst]⟩
  · cases i with
    | zero => simp [bst] at h2
    | succ j =>
      obtain ⟨p, hp, rfl, hv⟩ := bst_get h1 h2
      obtain ⟨_, hN, hk, hk2, c, hc⟩ := B.fvs p hp
      obtain ⟨m0, _, hl⟩ := I.loc
      have vis : Vis X.env.scope p.2 := hk.elim (fun z => .inr (.inl z)) fun z => .inr (.inr z)
      obtain ⟨u, r, l⟩ := hl p.1 p.2 v hN hv vis
      refine ⟨u, r, .inr ⟨hk2, c, hc, ?_⟩⟩
      rcases l with ⟨z, _⟩ | ⟨_, c', hc', o, ho, hd⟩
      · have z' : X.env.scope.names.lookup p.2 = some .local := z
        rcases hk with k | k <;> (rw [k] at z'; cases z')
      · have := B.sub p.2 c hc
        rw [hc'] at this; cases this
        exact ⟨o, keep _ o ho, hd⟩
  · obtain ⟨v, o, ho, hd⟩ := I.cell y c (B.sub y c e)
    exact ⟨v, o, keep c o ho, hd⟩

/-- the block's variable is stored -/
theorem blk_store {pins' : List (Addr × Obj)} {σ : St} {H H0 : Hp} {s s5 : Shared} {fp : List Addr} {C : Addr} {o : Option V} {v : V} {u : Value} {E : Value → Shared → Prop} {Q : Unit → Shared → Prop} (B : BlkOk X x fv scope cl)
    (I : Inv (blk X x fv scope cl C s H0 fp) pins' (bst fv σ o) H s5) (r : RelV v u) (h : ∀ s6, Inv (blk X x fv scope cl C s H0 fp) pins' (bst fv σ (some v)) H s6 → Q () s6) :
    wpAny (model X.prog X.w) X.A (assign (.Name x px) (compEnvC scope cl C X.env) u) Q E s5 := by
  obtain ⟨m, hn, hl⟩ := id I.loc
  have hk : (relabel scope X.env).names.lookup x = some .local := lookup_relabel_local B.here
  have hcls : ((compEnvC scope cl C X.env).scope.kind == .class || ((compEnvC scope cl C X.env).scope.kind == .module && (compEnvC scope cl C X.env).locals != (compEnvC scope cl C X.env).globals)) = false := by
    have : (compEnvC scope cl C X.env).scope.kind = .function := B.kind
    rw [this]; rfl
  refine wpAny_assign_Name (wpAny_storeName_local hk hn (fun h' hn' hs => ?_) hcls)
  have cne := I.cne
  obtain ⟨oL, _, _, hoL, _⟩ := id hn
  have tracked : HOk X.prog X.w H h' := fun b ob e => by
    refine (I.hok b ob e).stay (fun c w' hc q => (hs.2 c ?_).trans q) (fun _ q => q) fun _ _ q => q
    intro z
    have z' : c = C := z
    have fr : H C = none := I.free
    rcases hc with hc | hc
    · rw [← hc, z', fr] at e; cases e
    · rw [z', fr] at hc; cases hc
  refine h _ ⟨I.ok, I.os, I.bare, ⟨fun b o e n hb hx => ?_, fun b o e n hb hx => ?_, I.base.free, fun b o e hx => ?_, I.base.tups, I.base.frzs, I.base.tbls⟩, ⟨_, hn', fun j y v' e1 e2 e3 => ?_⟩, fun y c e => ?_, I.free, I.freeC, fun p hp => ?_, tracked, by simp [bst]⟩
  · exact (hs.2 b (Nat.ne_of_lt (Nat.lt_of_lt_of_le (Heap.lt_size e) I.ok.above))).trans (I.base.keep b o e n hb hx)
  · obtain ⟨sl, e1⟩ := I.base.slot b o e n hb hx
    exact ⟨sl, (hs.2 b (Nat.ne_of_lt (Nat.lt_of_lt_of_le (Heap.lt_size e) I.ok.above))).trans e1⟩
  · obtain ⟨o', e1⟩ := I.base.there b o e hx
    exact ⟨o', (hs.2 b (Nat.ne_of_lt (Nat.lt_of_lt_of_le (Heap.lt_size e) I.ok.above))).trans e1⟩
  · cases j with
    | zero =>
      have e1' : x = y := by simpa using e1
      subst e1'
      have e2' : v = v' := by simpa [bst] using e2
      subst e2'
      exact ⟨u, r, .inl ⟨hk, by simp⟩⟩
    | succ j =>
      have e2' : (bst fv σ o)[j + 1]? = some (some v') := by simpa [bst] using e2
      obtain ⟨u', r', q⟩ := hl (j + 1) y v' e1 e2' e3
      refine ⟨u', r', ?_⟩
      obtain ⟨p, hp, rfl, _⟩ := bst_get e1 e2
      rcases q with ⟨k, e⟩ | ⟨k, c, e, z⟩
      · exact .inl ⟨k, by simp [(B.fvs p hp).1, e]⟩
      · exact .inr ⟨k, c, e, z.sameBut hs (cne _ c e)⟩
  · obtain ⟨w', z⟩ := I.cell y c e
    exact ⟨w', z.sameBut hs (cne y c e)⟩
  · obtain ⟨e, n, ne, nf, d⟩ := I.pin p hp
    exact ⟨(hs.2 p.1 ne).trans e, n, ne, nf, d⟩

/-- the whole block, from the state behind pyIter -/
theorem blk_run {pins : List (Addr × Obj)} {σ : St} {H : Hp} {s2 : Shared} {it : Addr} {fp : List Addr} {tn : Nat → Heap → Prop} {J : It} {Q : VK} {E : Value → Shared → Prop} {RR : Value → Addr → Result → Shared → Prop}
    (hc : X.calm = true) (B : BlkOk X x fv scope cl) (he : ∀ C s H fp, PE (blk X x fv scope cl C s H fp) elt te) (I : Inv X pins σ H s2) (T : Turn X.prog X.w X.K (.Name x px) J fp it tn) (st : tn 0 s2.heap) (hf : ∀ b ∈ fp, FpOk X pins H b)
    (rd : ∀ D, H D = none → ∃ W : Nat → Nat → Hp → Prop, (∃ m, W 0 m (upd H D (.lst []))) ∧ ∀ i m H, W i m H →
      (J.stop i H ∧ Q (.ref D) H) ∨ (J.go i H ∧ ∃ N : Hp → Prop, (∀ H', N H' → ∃ m', m' < m ∧ W (i + 1) m' H') ∧ ∀ v H', J.yld i H v H' → te (bst fv σ (some v)) H' fun y H2 => ∃ ys, H2 D = some (.lst ys) ∧ ys.length < sizeLine ∧ N (upd H2 D (.lst (ys ++ [y])))))
    (hRR : ∀ D C s' H' m', Inv X pins σ H' s' → FpOk X pins H' C → s'.heap.Ns C m' → Q (.ref D) H' → RR (.ref D) C (.ok .next) s') :
    wpAny (model X.prog X.w) X.A (newList []) (fun acc s₃ => wpAny (model X.prog X.w) X.A (newFunctionEnv scope X.env.globals cl [] X.env.qual none .none (some X.env)) (fun cenv s₄ =>
      codeAny (model X.prog X.w) X.A (.compStart (.ListComp elt [⟨.Name x px, iter, [], 0⟩] scope pos) 0 (.ref it) acc { cenv with scope := relabel scope X.env }) (RR acc cenv.locals) s₄) E s₃) E s2 := by
  refine wpAny_newObj_type ?_ (by show 0 ≤ sizeLine; exact Nat.zero_le _)
  have hD : H s2.heap.objs.size = none := I.hok.fresh (Nat.le_refl _)
  have I3 := I.lnew (ys := []) (its := []) (t' := s2.toks) .nil (Nat.zero_le _)
  generalize hs3 : ({ s2 with heap := s2.heap.push { cls := .type "list", data := .seq ([] : List Value).toArray }, toks := s2.toks } : Shared) = s3 at I3
  have sz3 : s3.heap.objs.size = s2.heap.objs.size + 1 := by rw [← hs3]; exact Heap.size_push ..
  have up3 : ∀ b o, s2.heap.get? b = some o → s3.heap.get? b = some o := fun b o e => by rw [← hs3]; exact Heap.get?_push_of_some _ e
  have hf3 : ∀ b ∈ fp, FpOk X pins (upd H s2.heap.objs.size (.lst [])) b := fun b hb => by
    obtain ⟨f0, r⟩ := hf b hb
    refine ⟨?_, r⟩
    obtain ⟨o, e, _⟩ := T.obj 0 _ st b hb
    rw [upd_ne (Nat.ne_of_lt (Heap.lt_size e))]; exact f0
  have ltf : ∀ b ∈ fp, b < s2.heap.objs.size := fun b hb => by
    obtain ⟨o, e, _⟩ := T.obj 0 _ st b hb
    exact Heap.lt_size e
  have st3 : tn 0 s3.heap := T.keep 0 _ _ st fun b _ o e => up3 b o e
  obtain ⟨W, ⟨m0, w0⟩, turn⟩ := rd _ hD
  refine wpAny_newFunctionEnv B.nocell (by intro y hy; simp at hy) (fun h₁ hns₁ hsb₁ => ?_) B.kind
  have hfC : ∀ b ∈ fp, b ≠ s3.heap.objs.size := fun b hb => Nat.ne_of_lt (by rw [sz3]; exact Nat.lt_succ_of_lt (ltf b hb))
  have up4 : ∀ b o, s3.heap.get? b = some o → h₁.get? b = some o := fun b o e => hsb₁.extBut b o (Nat.ne_of_lt (Heap.lt_size e)) (Heap.get?_push_of_some _ e)
  generalize hs4 : ({ s3 with heap := h₁, toks := s3.toks + ([] : List (Str × Value)).length } : Shared) = s4
  have h4 : s4.heap = h₁ := by rw [← hs4]
  have I4 : Inv (blk X x fv scope cl s3.heap.objs.size s3 (upd H s2.heap.objs.size (.lst [])) fp) [] (bst fv σ none) (upd H s2.heap.objs.size (.lst [])) s4 :=
    blk_start B I3 hf3 rfl hfC (by rw [← hs4]) (by rw [← hs4]) (fun b o e => by rw [h4]; exact up4 b o e) (by rw [h4]; exact hns₁)
  have st4 : tn 0 s4.heap := by rw [h4]; exact T.keep 0 _ _ st3 fun b _ o e => up4 b o e
  -- what stays true of the iterator's objects
  have stat : ∀ {H' : Hp}, (∀ b ∈ fp, H' b = none) → ∀ b ∈ fp, FpOk (blk X x fv scope cl s3.heap.objs.size s3 (upd H s2.heap.objs.size (.lst [])) fp) [] H' b := fun {H'} hn b hb => by
    obtain ⟨_, f1, f2, f3, f4, f5⟩ := hf b hb
    refine ⟨hn b hb, hfC b hb, fun z => ?_, .inl hb, fun y c e => f4 y c (B.sub y c e), fun p hp => absurd (show p ∈ ([] : List (Addr × Obj)) from hp) (by simp)⟩
    rcases List.mem_cons.mp (I.stkSub b z) with q | q
    · exact f1 q
    · exact f2 q
  have loop : codeAny (model X.prog X.w) X.A (.compLoop (.ListComp elt [⟨.Name x px, iter, [], 0⟩] scope pos) 0 (.ref it) (.ref s2.heap.objs.size) (compEnvC scope cl s3.heap.objs.size X.env)) (RR (.ref s2.heap.objs.size) s3.heap.objs.size) s4 := by
    refine compLoop_one (fun n s' => ∃ i H' o, Inv (blk X x fv scope cl s3.heap.objs.size s3 (upd H s2.heap.objs.size (.lst [])) fp) [] (bst fv σ o) H' s' ∧ tn i s'.heap ∧ (∀ b ∈ fp, H' b = none) ∧ W i n H') ?_ m0
      ⟨0, _, none, I4, st4, fun b hb => (hf3 b hb).1, w0⟩
    rintro n s5 E' ⟨i, H5, o5, I5, st5, fr5, w5⟩
    rcases turn i n H5 w5 with ⟨stop, q⟩ | ⟨go, N, hN, step⟩
    · refine thn (T.done (blk X x fv scope cl s3.heap.objs.size s3 (upd H s2.heap.objs.size (.lst [])) fp) rfl rfl rfl hc i [] s5 _ H5 _ I5 (stat fr5) st5 stop) fun r s6 ⟨hr, I6⟩ => ?_
      subst hr
      obtain ⟨m6, hn6, _⟩ := I6.loc
      have un : Un (frs X.stack) fp H H5 s2.heap s6.heap := by
        have u1 : Un (frs X.stack) fp H (upd H s2.heap.objs.size (.lst [])) s2.heap s3.heap := Un.laid up3 (Nat.le_refl _) hD
        exact u1.trans I6.base
      have J6 : Inv X pins σ H5 s6 := by
        refine I.call' ?_ un I6.hok I6.bare fun b hb => ?_
        · have := I6.os
          rw [show (blk X x fv scope cl s3.heap.objs.size s3 (upd H s2.heap.objs.size (.lst [])) fp).s₀.os = s2.os by rw [← hs3]] at this
          exact this
        · obtain ⟨_, f1, f2, f3, f4, f5⟩ := hf b hb
          exact ⟨f3, f1, f4, f5⟩
      refine hRR _ _ s6 H5 m6 J6 ?_ hn6 q
      exact I3.fpOk (Nat.le_refl _) I6.free
    · refine thn (T.item (blk X x fv scope cl s3.heap.objs.size s3 (upd H s2.heap.objs.size (.lst [])) fp) rfl rfl rfl hc i [] s5 _ H5 _ I5 (stat fr5) st5 go) fun r s6 ⟨u, hr, h6⟩ => ?_
      subst hr
      refine thn h6 fun _ s7 ⟨v, H7, I7, r7, y7, st7, fr7⟩ => ?_
      have I7' := I7.pinned (stat fr7) (T.obj _ _ st7)
      refine blk_store B I7' r7 fun s8 I8 => ?_
      have e8 := he _ _ _ _ _ s8 _ H7 _ I8 (step v H7 y7)
      refine wpAny_mono e8 (fun y s9 ⟨yv, H9, I9, r9, ys, hD9, hz, n9⟩ => ?_) fun _ _ z => False.elim z
      have a9 := mt_append (X := blk X x fv scope cl s3.heap.objs.size s3 (upd H s2.heap.objs.size (.lst [])) fp) _ s9 _ H9 (.ref s2.heap.objs.size) [yv] (.ref s2.heap.objs.size) [y] (fun _ H10 => H10 = upd H9 s2.heap.objs.size (.lst (ys ++ [yv]))) I9 rfl (.cons r9 .nil)
        ⟨_, ys, yv, rfl, rfl, hD9, hz, rfl⟩
      refine wpAny_mono a9 (fun _ s10 ⟨_, H10, I10, _, e10⟩ => ?_) fun _ _ z => False.elim z
      subst e10
      obtain ⟨m', hm, w9⟩ := hN _ n9
      refine ⟨m', hm, i + 1, _, some v, I10.unpinned, T.keep _ _ _ st7 fun b hb o e => (I10.pin (b, o) (List.mem_append_right _ (List.mem_append_right _ (mem_pinsAt hb e)))).1, fun b hb => ?_, w9⟩
      obtain ⟨o, e, _⟩ := T.obj _ _ st7 b hb
      exact (I10.pin (b, o) (List.mem_append_right _ (List.mem_append_right _ (mem_pinsAt hb e)))).2.1
  exact codeAny_compStart_list loop (T.self _ 0 _ _ _ st4 loop)
end
end L2
namespace L2
open PySem PySem.Spec PyProof.Rows
section
variable {X : Cx} {elt iter : Expr} {x : Str} {px : Pos} {fv : List (Nat × Str)} {scope : Scope} {cl : List (Str × Addr)} {pos : Pos} {te : TE} {wi : TI}
/-- [elt for x in iter] as a value -/
theorem pe_lcomp (hc : X.calm = true) (B : BlkOk X x fv scope cl) (hi : PI X (.Name x px) iter wi) (he : ∀ C s H fp, PE (blk X x fv scope cl C s H fp) elt te)
    (hs : ∀ v, foldedSetIterable iter X.env v = pure v := by intro _; rfl) : PE X (.ListComp elt [⟨.Name x px, iter, [], 0⟩] scope pos) (tComp fv wi te) := by
  intro pins s σ H Q I h
  rw [eval_ListComp]
  refine wpAny_comprehension_free (use := none) rfl hs B.clos B.kind B.names (thn (hi pins s σ H _ I h) fun v s1 h1 => thn h1 fun itv s2 h2 => ?_)
  obtain ⟨it, fp, tn, J, H2, e, I2, T, st2, f2, rd⟩ := h2
  subst e
  refine blk_run (RR := fun acc C => compPost (model X.prog X.w) X.A X.xe none (EP X pins σ Q) acc C) hc B he I2 T st2 f2 rd ?_
  intro D C s' H' m' I' fC hn q
  exact ⟨m', hn, fun h' sb => ⟨.ref D, H', I'.turned (t' := s'.toks) (fun b o hb e => (sb.2 b hb).trans e) fC.1 fC.2.1 fC.2.2.2.1 fC.2.2.2.2.1 fC.2.2.2.2.2, rfl, q⟩⟩
/-- y = [elt for x in iter], y a plain local -/
theorem ps_setC {i : Nat} {y : Str} {py spos : Pos} (hc : X.calm = true) (B : BlkOk X x fv scope cl) (hi : PI X (.Name x px) iter wi) (he : ∀ C s H fp, PE (blk X x fv scope cl C s H fp) elt te)
    (hN : X.N.Nodup) (hiy : X.N[i]? = some y) (hy : X.env.scope.names.lookup y = some .local)
    (hsw : swapsWith (.ListComp elt [⟨.Name x px, iter, [], 0⟩] scope pos) (some (.Name y py)) spos.line X.env = pure true := by rfl)
    (hs : ∀ v, foldedSetIterable iter X.env v = pure v := by intro _; rfl) :
    PS X (.Assign [.Name y py] (.ListComp elt [⟨.Name x px, iter, [], 0⟩] scope pos) spos) (tAsg (tComp fv wi te) (gName i)) := by
  intro pins s σ H D I h
  rw [exec_Assign_Name_used _ _ _ _ hsw]
  refine wpAny_bind (wpAny_standAt (wpAny_bind ?_))
  show wpAny _ X.A (do let _ ← comprehension (.ListComp elt [⟨.Name x px, iter, [], 0⟩] scope pos) scope X.env _ (newList []) false (eval iter X.env) (some (assign (.Name y py) X.env))) _ _ s
  refine wpAny_bind (wpAny_mono (wpAny_comprehension_free (use := some (assign (.Name y py) X.env)) (Q := fun _ s' => SP X pins D .next s') rfl hs B.clos B.kind B.names
    (thn (hi pins s σ H _ I h) fun v s1 h1 => thn h1 fun itv s2 h2 => ?_)) (fun _ s' hq => wpAny_pure (wpAny_pure hq)) fun _ _ e => e)
  obtain ⟨it, fp, tn, J, H2, e, I2, T, st2, f2, rd⟩ := h2
  subst e
  refine blk_run (Q := fun x H1 => gName i x σ H1 D.nx) (RR := fun acc C => compPost (model X.prog X.w) X.A X.xe (some (assign (.Name y py) X.env)) (fun _ s' => SP X pins D .next s') acc C) hc B he I2 T st2 f2 rd ?_
  intro Dl C s' H' m' I' fC hn q
  show wpAny _ X.A (assign (.Name y py) X.env (.ref Dl)) _ _ _
  refine wpAny_assign_Name (store_ok2 I' hN hiy (.inl hy) (v := .ref Dl) rfl (fun s'' I'' hab => ?_) (.inr hy))
  obtain ⟨a, sb, ha⟩ := hab
  have hCa : C ≠ a := by
    rcases ha with rfl | e
    · exact fC.2.1
    · exact Ne.symm (fC.2.2.2.2.1 _ _ e)
  exact ⟨m', hn.sameBut sb hCa, fun h' sb' => ⟨_, H', I''.turned (t' := s''.toks) (fun b o hb e => (sb'.2 b hb).trans e) fC.1 fC.2.1 fC.2.2.2.1 fC.2.2.2.2.1 fC.2.2.2.2.2, q⟩⟩
end

/-! ### range(a, b, c) -/
/-- lo, lo + c, .. (n of them) -/
def Itrs (lo c : Int) (n : Nat) : It := ⟨fun i _ => i < n, fun i H x H' => H' = H ∧ x = .int (lo + i * c), fun i _ => n ≤ i⟩
theorem turn_ranges {P : Program} {w : World} {K : PySem.W.Frag} {tg : Expr} (it : Addr) (lo c : Int) (n : Nat) : Turn P w K tg (Itrs lo c n) [it] it (fun i h => IsRangeIter h it (lo + (i : Nat) * c) ((n : Int) - (i : Nat)) c) where
  mem := by simp
  obj := fun i h st b hb => by
    have e : b = it := by simpa using hb
    subst e
    exact ⟨_, st, fun v z => by
      have z' : Data.fields _ = Data.cell v := z
      cases z'⟩
  keep := fun i h h' st k => k it (by simp) _ st
  item := by
    intro X hP hw hK hc i pins s σ H E I hf st hg
    subst hP hw hK
    obtain ⟨f0, f1, f2, f3, f4, f5⟩ := hf it (by simp)
    have W := Walks.range (prog := X.prog) (w := X.w) (I.ok.hd hc) it lo c n
    refine W.item i s _ _ hg st fun v h' tk hv st' kk => ?_
    obtain ⟨t, rfl⟩ := hv
    have I1 : Inv X pins σ H { s with heap := h', toks := tk } := I.turned (fun b o hb e => kk b o (by simpa using hb) e) f0 f1 f3 f4 f5
    exact ⟨_, rfl, go_of (s := { s with heap := h', toks := tk }) (n := "range_iterator") st' rfl rfl (by decide) ⟨.int (lo + i * c), H, I1, ⟨t, rfl⟩, ⟨rfl, rfl⟩, st', fun b hb => (hf b hb).1⟩⟩
  done := by
    intro X hP hw hK hc i pins s σ H E I hf st hg
    subst hP hw hK
    obtain ⟨f0, f1, f2, f3, f4, f5⟩ := hf it (by simp)
    exact wpAny_pyNext_range_end (I.ok.hd hc) st (by have : n ≤ i := hg; omega) fun h' eb => ⟨rfl, I.turned (t' := s.toks) (fun b o hb e => eb b o hb e) f0 f1 f3 f4 f5⟩
  self := fun _ _ _ _ _ st h => wpAny_pyIter_rangeiter st h
section
variable {X : Cx} {tg : Expr}
def iRng3 (ta : TA) : TI := fun σ H R => ta σ H fun vs H1 => ∃ (i j k : Int) (n : Nat), vs = [.int i, .int j, .int k] ∧ k ≠ 0 ∧ k.natAbs < 1073741824 ∧ Builtin.Range.small i j k = true ∧ Builtin.Range.rangeSize i j k = n ∧ R (Itrs i k n) H1
theorem pi_range3 {a b c : Expr} {ta : TA} {p pos : Pos} (hg : Gl X "range") (hm : X.mg "range" = none) (ha : PA X [a, b, c] ta) (hs : starEach [a, b, c] X.env = [(false, eval a X.env), (false, eval b X.env), (false, eval c X.env)] := by rfl)
    (hs2 : starEach [b, c] X.env = [(false, eval b X.env), (false, eval c X.env)] := by rfl) : PI X tg (.Call (.Name "range" p) [a, b, c] [] pos) (iRng3 ta) := by
  intro pins s σ H R I h
  refine Call_ (ld_blt I hg hm boot_range (PyProof.Rows.callWith_type1 (thn (ha pos pins s σ H _ I h) fun us s1 ⟨vs, H1, I1, r1, q1⟩ => ?_) (by rw [hs, hs2]) (by rw [hs2]; rfl)))
  obtain ⟨i, j, k, n, e, hk, hk2, hsm, hn, q⟩ := q1
  subst e
  cases r1 with
  | cons r rr =>
    cases rr with
    | cons r' rr =>
      cases rr with
      | cons r'' rr =>
        cases rr
        obtain ⟨t, rfl⟩ := r
        obtain ⟨t', rfl⟩ := r'
        obtain ⟨t'', rfl⟩ := r''
        refine call_range_3 hk ?_ (.inl (PyProof.noPylong_small hk2))
        refine wpAny_pyIter_range (IsRange.new ..) hsm ?_
        have I2 : Inv X pins σ H1 { s1 with heap := s1.heap.push { cls := .type "range", data := .fields #[.int i t, .int j t', .int k t''] }, toks := s1.toks } := I1.kept fun b o e => Heap.get?_push_of_some _ e
        refine ⟨(s1.heap.push { cls := .type "range", data := .fields #[.int i t, .int j t', .int k t''] }).objs.size, [(s1.heap.push { cls := .type "range", data := .fields #[.int i t, .int j t', .int k t''] }).objs.size], _, _, H1, rfl,
          I2.kept (t' := s1.toks) fun b o e => Heap.get?_push_of_some _ e, turn_ranges _ i k n, ?_, fun b hb => ?_, q⟩
        · have e1 : i + ((0 : Nat) : Int) * k = i := by simp
          have e2 : ((n : Nat) : Int) - ((0 : Nat) : Int) = Builtin.Range.rangeSize i j k := by rw [hn]; simp
          show IsRangeIter _ _ (i + ((0 : Nat) : Int) * k) (((n : Nat) : Int) - ((0 : Nat) : Int)) k
          rw [e1, e2]
          exact Heap.get?_push_size _ rfl
        · have e : b = (s1.heap.push { cls := .type "range", data := .fields #[.int i t, .int j t', .int k t''] }).objs.size := by simpa using hb
          subst e
          exact I2.fpOk (Nat.le_refl _) (I2.hok.fresh (Nat.le_refl _))
end
theorem for_ranges {lo c : Int} {n : Nat} {g : TG} {tb : TS} {D : Ends} {σ : St} {H : Hp} (Pv : Nat → St → Hp → Prop) (h0 : Pv 0 σ H)
    (hs : ∀ i σ H, i < n → Pv i σ H → g (.int (lo + i * c)) σ H fun σ2 H2 => tb { D with nx := Pv (i + 1), ct := Pv (i + 1), bk := D.nx } σ2 H2) (hd : ∀ σ H, Pv n σ H → D.nx σ H) :
    ∃ W : Nat → Nat → St → Hp → Prop, (∃ m, W 0 m σ H) ∧ ∀ i m σ H, W i m σ H →
      ((Itrs lo c n).stop i H ∧ D.nx σ H) ∨ ((Itrs lo c n).go i H ∧ ∃ N : St → Hp → Prop, (∀ σ' H', N σ' H' → ∃ m', m' < m ∧ W (i + 1) m' σ' H') ∧ ∀ x H', (Itrs lo c n).yld i H x H' → g x σ H' fun σ2 H2 => tb { D with nx := N, ct := N, bk := D.nx } σ2 H2) := by
  refine ⟨fun i m σ H => m = n - i ∧ i ≤ n ∧ Pv i σ H, ⟨n, by simp, Nat.zero_le _, h0⟩, ?_⟩
  rintro i m σ H ⟨rfl, hi, p⟩
  by_cases hlt : i < n
  · refine .inr ⟨hlt, Pv (i + 1), fun σ' H' p' => ⟨n - (i + 1), by omega, rfl, hlt, p'⟩, fun x H' y => ?_⟩
    obtain ⟨e, y⟩ := y
    subst e y
    exact hs i σ _ hlt p
  · have e : i = n := by omega
    subst e
    exact .inl ⟨Nat.le_refl _, hd σ H p⟩

/-! ### a comprehension's reading, by an invariant over the turn -/
theorem comp_list {K : PySem.W.Frag} {a : Addr} {xs : List V} {fv : List (Nat × Str)} {te : TE} {Q : VK} {σ : St} {H1 : Hp} {D : Addr} (Pv : Nat → Hp → Prop) (h0 : Pv 0 (upd H1 D (.lst []))) (hl : ∀ i H, i ≤ xs.length → Pv i H → SqL K H a xs)
    (hs : ∀ i v H, xs[i]? = some v → Pv i H → te (bst fv σ (some v)) H fun y H2 => ∃ ys, H2 D = some (.lst ys) ∧ ys.length < sizeLine ∧ Pv (i + 1) (upd H2 D (.lst (ys ++ [y])))) (hd : ∀ H, Pv xs.length H → Q (.ref D) H) :
    ∃ W : Nat → Nat → Hp → Prop, (∃ m, W 0 m (upd H1 D (.lst []))) ∧ ∀ i m H, W i m H →
      ((Itl K a).stop i H ∧ Q (.ref D) H) ∨ ((Itl K a).go i H ∧ ∃ N : Hp → Prop, (∀ H', N H' → ∃ m', m' < m ∧ W (i + 1) m' H') ∧ ∀ v H', (Itl K a).yld i H v H' → te (bst fv σ (some v)) H' fun y H2 => ∃ ys, H2 D = some (.lst ys) ∧ ys.length < sizeLine ∧ N (upd H2 D (.lst (ys ++ [y])))) := by
  refine ⟨fun i m H => m = xs.length - i ∧ i ≤ xs.length ∧ Pv i H, ⟨xs.length, by simp, Nat.zero_le _, h0⟩, ?_⟩
  rintro i m H ⟨rfl, hi, p⟩
  have q := hl i H hi p
  by_cases hlt : i < xs.length
  · refine .inr ⟨⟨xs, xs[i], q, List.getElem?_eq_getElem hlt⟩, Pv (i + 1), fun H' p' => ⟨xs.length - (i + 1), by omega, rfl, hlt, p'⟩, fun v H' y => ?_⟩
    obtain ⟨e, y⟩ := y
    subst e
    exact hs i v _ (y xs q) p
  · have e : i = xs.length := by omega
    subst e
    exact .inl ⟨⟨xs, q, Nat.le_refl _⟩, hd H p⟩
theorem comp_range {lo : Int} {n : Nat} {fv : List (Nat × Str)} {te : TE} {Q : VK} {σ : St} {H1 : Hp} {D : Addr} (Pv : Nat → Hp → Prop) (h0 : Pv 0 (upd H1 D (.lst [])))
    (hs : ∀ i H, i < n → Pv i H → te (bst fv σ (some (.int (lo + i)))) H fun y H2 => ∃ ys, H2 D = some (.lst ys) ∧ ys.length < sizeLine ∧ Pv (i + 1) (upd H2 D (.lst (ys ++ [y])))) (hd : ∀ H, Pv n H → Q (.ref D) H) :
    ∃ W : Nat → Nat → Hp → Prop, (∃ m, W 0 m (upd H1 D (.lst []))) ∧ ∀ i m H, W i m H →
      ((Itr lo n).stop i H ∧ Q (.ref D) H) ∨ ((Itr lo n).go i H ∧ ∃ N : Hp → Prop, (∀ H', N H' → ∃ m', m' < m ∧ W (i + 1) m' H') ∧ ∀ v H', (Itr lo n).yld i H v H' → te (bst fv σ (some v)) H' fun y H2 => ∃ ys, H2 D = some (.lst ys) ∧ ys.length < sizeLine ∧ N (upd H2 D (.lst (ys ++ [y])))) := by
  refine ⟨fun i m H => m = n - i ∧ i ≤ n ∧ Pv i H, ⟨n, by simp, Nat.zero_le _, h0⟩, ?_⟩
  rintro i m H ⟨rfl, hi, p⟩
  by_cases hlt : i < n
  · refine .inr ⟨hlt, Pv (i + 1), fun H' p' => ⟨n - (i + 1), by omega, rfl, hlt, p'⟩, fun v H' y => ?_⟩
    obtain ⟨e, y⟩ := y
    subst e y
    exact hs i _ hlt p
  · have e : i = n := by omega
    subst e
    exact .inl ⟨Nat.le_refl _, hd H p⟩

/-! ### what the names of a block are, by places -/
theorem sub_nil {cells : List (Str × Addr)} : ∀ y c, ([] : List (Str × Addr)).lookup y = some c → cells.lookup y = some c := fun _ _ h => nomatch h
theorem sub_cons {n : Str} {c0 : Addr} {r cells : List (Str × Addr)} (h0 : cells.lookup n = some c0) (h : ∀ y c, r.lookup y = some c → cells.lookup y = some c) : ∀ y c, ((n, c0) :: r).lookup y = some c → cells.lookup y = some c := fun y c q => by
  rw [List.lookup_cons] at q
  cases e : y == n with
  | true =>
    rw [e] at q
    cases q
    rw [eq_of_beq e]; exact h0
  | false =>
    rw [e] at q
    exact h y c q
theorem has_of {l : List (Str × NameKind)} {cl : List (Str × Addr)} (h : (l.all fun p => (p.2 != .cell && p.2 != .free) || (cl.lookup p.1).isSome) = true) : ∀ y, (l.lookup y = some .cell ∨ l.lookup y = some .free) → ∃ c, cl.lookup y = some c := fun y hy => by
  have key : ∀ k, l.lookup y = some k → (k = .cell ∨ k = .free) → ∃ c, cl.lookup y = some c := fun k e hk => by
    have q := List.all_eq_true.mp h (y, k) (PySem.mem_of_lookup e)
    have z : (k != .cell && k != .free) = false := by rcases hk with rfl | rfl <;> rfl
    rw [show ((y, k).2 != .cell && (y, k).2 != .free) = false from z, Bool.false_or] at q
    exact Option.isSome_iff_exists.mp q
  rcases hy with e | e
  · exact key _ e (.inl rfl)
  · exact key _ e (.inr rfl)
def FvOk (X : Cx) (x : Str) (scope : Scope) (cl : List (Str × Addr)) (fv : List (Nat × Str)) : Prop :=
  ∀ p ∈ fv, p.2 ≠ x ∧ X.N[p.1]? = some p.2 ∧ (X.env.scope.names.lookup p.2 = some .cell ∨ X.env.scope.names.lookup p.2 = some .free) ∧
    ((relabel scope X.env).names.lookup p.2 = some .cell ∨ (relabel scope X.env).names.lookup p.2 = some .free) ∧ ∃ c, cl.lookup p.2 = some c
theorem fv_nil {X : Cx} {x : Str} {scope : Scope} {cl : List (Str × Addr)} : FvOk X x scope cl [] := fun _ h => nomatch h
theorem fv_cons {X : Cx} {x : Str} {scope : Scope} {cl : List (Str × Addr)} {fv : List (Nat × Str)} (i : Nat) (y : Str) (h1 : y ≠ x) (h2 : X.N[i]? = some y) (h3 : X.env.scope.names.lookup y = some .cell ∨ X.env.scope.names.lookup y = some .free)
    (h4 : (relabel scope X.env).names.lookup y = some .cell ∨ (relabel scope X.env).names.lookup y = some .free) (h5 : ∃ c, cl.lookup y = some c) (r : FvOk X x scope cl fv) : FvOk X x scope cl ((i, y) :: fv) := fun p hp => by
  rcases List.mem_cons.mp hp with rfl | hp
  · exact ⟨h1, h2, h3, h4, h5⟩
  · exact r p hp
theorem blkok {X : Cx} {x : Str} {fv : List (Nat × Str)} {scope : Scope} {cl : List (Str × Addr)} (clos : closureFor scope X.env = pure cl) (sub : ∀ y c, cl.lookup y = some c → X.env.cells.lookup y = some c) (fvs : FvOk X x scope cl fv)
    (kind : scope.kind = .function := by rfl) (here : scope.names.lookup x = some .local := by rfl) (nocell : ∀ y ∈ scope.names, y.2 ≠ .cell := by decide +kernel)
    (names : ∀ y ∈ scope.names, y.2 = .local → scope.names.lookup y.1 = some .local := by decide +kernel)
    (has : ((relabel scope X.env).names.all fun p => (p.2 != .cell && p.2 != .free) || (cl.lookup p.1).isSome) = true := by rfl) : BlkOk X x fv scope cl :=
  ⟨clos, nocell, kind, names, here, sub, has_of has, fvs⟩

section
variable {X : Cx}
/-! ### isinstance(x, T), T a built-in type -/
theorem call_isinst : CallR X (.builtin "isinstance") (fun xs H Q => ∃ x n t b, xs = [x, .ty n] ∧ TyOf X.K H x t ∧ PySem.W.kitOne X.K t (.type n) = some b ∧ Q (.bl b) H) := by
  intro pins s σ H xs us Q I rv h
  obtain ⟨x, n, t, b, rfl, ty, e, q⟩ := h
  cases rv with
  | cons r rr =>
    cases rr with
    | cons r' rr =>
      cases rr
      cases r'
      exact isinst_ok I r ty e fun tk => ⟨.bl b, H, I.tok _, rfl, q⟩
/-! ### i.bit_length() -/
theorem mt_bitlen : MtR X "int.bit_length" (fun x xs H Q => ∃ i, x = .int i ∧ xs = [] ∧ Q (.int (Builtin.Int.intBits i : Nat)) H) := by
  intro pins s σ H x xs v us Q I rx rv h
  obtain ⟨i, rfl, rfl, q⟩ := h
  cases rv
  obtain ⟨t, rfl⟩ := rx
  exact call_gives F.slot_int_bit_length (typeIs_int s i t) F.entry_int_bit_length (F.args_int_bit_length_1 _) (PySem.AutoIntG2.int_bit_length_int_0 i t) ⟨.int _, H, I.tok _, ⟨_, rfl⟩, q⟩
/-! ### products and quotients by size -/
def CMulB (i j : Int) : Prop := i.natAbs < 2 ^ 60000000 ∧ j.natAbs < 2 ^ 60000000
end
theorem intBits_le_of {i : Int} {k : Nat} (h : i.natAbs < 2 ^ k) : Builtin.Int.intBits i ≤ k := by
  unfold Builtin.Int.intBits
  split
  · exact Nat.zero_le _
  · rename_i hz
    have hz' : i ≠ 0 := by simpa using hz
    have : i.natAbs.log2 < k := (Nat.log2_lt (by omega)).mpr h
    omega
theorem mulOk_of {i j : Int} {k l : Nat} (h1 : i.natAbs < 2 ^ k) (h2 : j.natAbs < 2 ^ l) (h : k + l ≤ 134217728) : IntMulOk i j := IntMulOk.of_le (intBits_le_of h1) (intBits_le_of h2) h
/-- both below 2 ^ k -/
theorem op_mulB {X : Cx} (k : Nat) (hk : k ≤ 60000000) : OpR X (binaryOp .Mult) (rI (fun i j => i.natAbs < 2 ^ k ∧ j.natAbs < 2 ^ k) fun i j => .int (i * j)) :=
  opI fun _ _ _ _ _ _ _ hc q => mul_int q (mulOk_of hc.1 hc.2 (by omega))
theorem iop_mulB {X : Cx} (k : Nat) (hk : k ≤ 60000000) : OpR X (inplaceOp .Mult) (rI (fun i j => i.natAbs < 2 ^ k ∧ j.natAbs < 2 ^ k) fun i j => .int (i * j)) :=
  opI fun _ _ _ _ _ _ _ hc q => imul_int q (mulOk_of hc.1 hc.2 (by omega))
/-- // by a number of either sign below 2 ^ 9000 -/
theorem op_fdivB {X : Cx} : OpR X (binaryOp .FloorDiv) (rI (fun _ j => j ≠ 0 ∧ j.natAbs < 2 ^ 9000) fun i j => .int (i.fdiv j)) :=
  opI fun _ j _ _ _ _ _ hc q => floordiv_int hc.1 q (.inl (PyProof.noPylong_of_log2 ((Nat.log2_lt (by have := hc.1; omega)).mpr hc.2)))
end L2
namespace L2
open PySem PySem.Spec PyProof.Rows
/-! ### the readings, applied: for simp only -/
section
variable {σ : St} {H : Hp} {Q : VK} {D : Ends} {t u : TS} {te ta tb tc to ti : TE} {tt : TT} {tA : TA} {i : Nat} {x y v : V} {r r' : R2} {QT : Bool → Hp → Prop} {QA : List V → Hp → Prop}
theorem a_seq : tSeq t u D σ H = t { D with nx := u D } σ H := rfl
theorem a_next : tNext D σ H = D.nx σ H := rfl
theorem a_brk : tBreak D σ H = D.bk σ H := rfl
theorem a_cnt : tCont D σ H = D.ct σ H := rfl
theorem a_drop : tDrop te D σ H = te σ H fun _ H1 => D.nx σ H1 := rfl
theorem a_ret : tRet te D σ H = te σ H D.rt := rfl
theorem a_retN : tRetN D σ H = D.rt .non H := rfl
theorem a_if : tIfS tt t u D σ H = tt σ H fun b H1 => if b = true then t D σ H1 else u D σ H1 := rfl
theorem a_asg {g : TG} : tAsg te g D σ H = te σ H fun x H1 => g x σ H1 D.nx := rfl
theorem a_gname {Q : St → Hp → Prop} : gName i v σ H Q = Q (σ.set i (some v)) H := rfl
theorem a_gsub {ts : TSet} {Q : St → Hp → Prop} : gSub to ti ts v σ H Q = to σ H fun o H1 => ti σ H1 fun i H2 => ts o i v H2 fun H3 => Q σ H3 := rfl
theorem a_gtup {K : PySem.W.Frag} {n : Nat} {ts : TGs} {Q : St → Hp → Prop} : gTup K n ts v σ H Q = ∃ a xs, v = .ref a ∧ SqT K H a xs ∧ xs.length = n ∧ ts xs σ H Q := rfl
theorem a_gnil {vs : List V} {Q : St → Hp → Prop} : gNil vs σ H Q = (vs = [] ∧ Q σ H) := rfl
theorem a_gcons {g : TG} {gs : TGs} {vs : List V} {Q : St → Hp → Prop} : gCons g gs vs σ H Q = ∃ v r, vs = v :: r ∧ g v σ H fun σ' H' => gs r σ' H' Q := rfl
theorem a_aug {ip : TIp} : tAug i te ip D σ H = ∃ x, σ[i]? = some (some x) ∧ te σ H fun y H1 => ip x y H1 fun z H2 => D.nx (σ.set i (some z)) H2 := rfl
theorem a_augS {tget : V → V → Hp → VK → Prop} {tip : TIp} {tset : TSet} : tAugS to ti te tget tip tset D σ H = to σ H fun o H1 => ti σ H1 fun i H2 => tget o i H2 fun x H3 => te σ H3 fun y H4 => tip x y H4 fun z H5 => tset o i z H5 fun H6 => D.nx σ H6 := rfl
theorem a_ipI {f : Int → Int → Int} : ipI f x y H Q = ∃ i j, x = .int i ∧ y = .int j ∧ Q (.int (f i j)) H := rfl
theorem a_var : tVar i σ H Q = ∃ v, σ[i]? = some (some v) ∧ Q v H := rfl
theorem a_c : tC v σ H Q = Q v H := rfl
theorem a_op : tOp r ta tb σ H Q = ta σ H fun x H1 => tb σ H1 fun y H2 => r x y H2 Q := rfl
theorem a_un {r : V → Hp → VK → Prop} : tUn r ta σ H Q = ta σ H fun x H1 => r x H1 Q := rfl
theorem a_rI {C : Int → Int → Prop} {g : Int → Int → V} : rI C g x y H Q = ∃ i j, x = .int i ∧ y = .int j ∧ C i j ∧ Q (g i j) H := rfl
theorem a_rI0 {g : Int → Int → V} : rI0 g x y H Q = ∃ i j, x = .int i ∧ y = .int j ∧ Q (g i j) H := rfl
theorem a_rU {g : Int → V} : rU g x H Q = ∃ i, x = .int i ∧ Q (g i) H := rfl
theorem a_eqI {i j : Int} : rEq (.int i) (.int j) H Q = Q (.bl (decide (i = j))) H := by
  show (true = true ∧ Q (.bl (decide (V.int i = V.int j))) H) = _
  rw [show decide (V.int i = V.int j) = decide (i = j) by rw [dec_int]; exact Bool.beq_eq_decide_eq i j]
  simp
theorem a_neI {i j : Int} : rNe (.int i) (.int j) H Q = Q (.bl (!decide (i = j))) H := by
  show (true = true ∧ Q (.bl (!decide (V.int i = V.int j))) H) = _
  rw [show decide (V.int i = V.int j) = decide (i = j) by rw [dec_int]; exact Bool.beq_eq_decide_eq i j]
  simp
theorem a_eqB {i j : Bool} : rEq (.bl i) (.bl j) H Q = Q (.bl (decide (i = j))) H := by
  show (true = true ∧ Q (.bl (decide (V.bl i = V.bl j))) H) = _
  cases i <;> cases j <;> simp
theorem a_neB {i j : Bool} : rNe (.bl i) (.bl j) H Q = Q (.bl (!decide (i = j))) H := by
  show (true = true ∧ Q (.bl (!decide (V.bl i = V.bl j))) H) = _
  cases i <;> cases j <;> simp
theorem a_tB : tB te σ H QT = te σ H fun x H1 => ∃ c, x = .bl c ∧ QT c H1 := rfl
theorem a_test : tTest te σ H QT = te σ H fun x H' => ∃ k, x = .bl k ∧ QT k H' := rfl
theorem a_and {tt' : TT} : tAnd tt tt' σ H QT = tt σ H fun c H1 => if c = true then tt' σ H1 QT else QT false H1 := rfl
theorem a_or {tt' : TT} : tOr tt tt' σ H QT = tt σ H fun c H1 => if c = true then QT true H1 else tt' σ H1 QT := rfl
theorem a_not : tNot tt σ H QT = tt σ H fun c H1 => QT (!c) H1 := rfl
theorem a_andV : tAndV ta tb σ H Q = ta σ H fun x H1 => ∃ c, x = .bl c ∧ if c = true then tb σ H1 Q else Q (.bl false) H1 := rfl
theorem a_orV : tOrV ta tb σ H Q = ta σ H fun x H1 => ∃ c, x = .bl c ∧ if c = true then Q (.bl true) H1 else tb σ H1 Q := rfl
theorem a_notV : tNotV ta σ H Q = ta σ H fun x H1 => ∃ c, x = .bl c ∧ Q (.bl (!c)) H1 := rfl
theorem a_ifE : tIf tt ta tb σ H Q = tt σ H fun c H1 => if c = true then ta σ H1 Q else tb σ H1 Q := rfl
theorem a_chain : tChain r r' ta tb tc σ H Q = ta σ H fun x H1 => tb σ H1 fun y H2 => r x y H2 fun z H3 => ∃ k, z = .bl k ∧ (if k = true then tc σ H3 fun w' H4 => r' y w' H4 Q else Q (.bl false) H3) := rfl
theorem a_nil : tNil σ H QA = QA [] H := rfl
theorem a_cons : tCons ta tA σ H QA = ta σ H fun x H1 => tA σ H1 fun xs H2 => QA (x :: xs) H2 := rfl
theorem a_lst : tLst tA σ H Q = tA σ H fun xs H1 => xs.length ≤ sizeLine ∧ ∀ p, H1 p = none → Q (.ref p) (upd H1 p (.lst xs)) := rfl
theorem a_tup : tTup tA σ H Q = tA σ H fun xs H1 => xs.length ≤ sizeLine ∧ ∀ p, H1 p = none → Q (.ref p) (upd H1 p (.tup xs)) := rfl
theorem a_call {sp : Sp} {dvs : List V} {E : XK} : tCall sp dvs E tA σ H Q = tA σ H fun vs H1 => sp (vs ++ dvs) H1 Q E := rfl
theorem a_cb {r : List V → Hp → VK → Prop} : tCB r tA σ H Q = tA σ H fun vs H1 => r vs H1 Q := rfl
theorem a_bm0 {K : PySem.W.Frag} {T : String} {r : V → List V → Hp → VK → Prop} : tBM0 K T r to σ H Q = to σ H fun x H1 => tyV K T x H1 ∧ r x [] H1 Q := rfl
theorem a_bm {K : PySem.W.Frag} {T : String} {r : V → List V → Hp → VK → Prop} : tBM K T r to tA σ H Q = to σ H fun x H1 => tyV K T x H1 ∧ tA σ H1 fun xs H2 => r x xs H2 Q := rfl
theorem a_sl {r : V → Option Int → Option Int → Hp → VK → Prop} {tl th : TO} : tSl r te tl th σ H Q = te σ H fun x H1 => tl σ H1 fun l H2 => th σ H2 fun u H3 => r x l u H3 Q := rfl
theorem a_nopart {Q : Option Int → Hp → Prop} : tNoPart σ H Q = Q none H := rfl
theorem a_part {Q : Option Int → Hp → Prop} : tPart te σ H Q = te σ H fun x H1 => ∃ i, x = .int i ∧ Q (some i) H1 := rfl
theorem a_tyI {K : PySem.W.Frag} {T : String} {i : Int} : tyV K T (.int i) H = (T = "int") := rfl
theorem a_tyL {K : PySem.W.Frag} {p : Addr} {xs : List V} (h : SqL K H p xs) : tyV K "list" (.ref p) H := .inl ⟨rfl, xs, h⟩
end
/-! ### loops, named -/
def Loop (J : It) (g : TG) (tb : TS) (D : Ends) (σ : St) (H : Hp) : Prop := ∃ W : Nat → Nat → St → Hp → Prop, (∃ m, W 0 m σ H) ∧ ∀ i m σ H, W i m σ H →
  (J.stop i H ∧ D.nx σ H) ∨ (J.go i H ∧ ∃ N : St → Hp → Prop, (∀ σ' H', N σ' H' → ∃ m', m' < m ∧ W (i + 1) m' σ' H') ∧ ∀ x H', J.yld i H x H' → g x σ H' fun σ2 H2 => tb { D with nx := N, ct := N, bk := D.nx } σ2 H2)
theorem a_for {wi : TI} {g : TG} {tb : TS} {D : Ends} {σ : St} {H : Hp} : tFor wi g tb D σ H = wi σ H fun J H1 => Loop J g tb D σ H1 := rfl
def CLoop (J : It) (fv : List (Nat × Str)) (te : TE) (Q : VK) (σ : St) (H1 : Hp) (D : Addr) : Prop := ∃ W : Nat → Nat → Hp → Prop, (∃ m, W 0 m (upd H1 D (.lst []))) ∧ ∀ i m H, W i m H →
  (J.stop i H ∧ Q (.ref D) H) ∨ (J.go i H ∧ ∃ N : Hp → Prop, (∀ H', N H' → ∃ m', m' < m ∧ W (i + 1) m' H') ∧ ∀ v H', J.yld i H v H' → te (bst fv σ (some v)) H' fun y H2 => ∃ ys, H2 D = some (.lst ys) ∧ ys.length < sizeLine ∧ N (upd H2 D (.lst (ys ++ [y]))))
theorem a_comp {fv : List (Nat × Str)} {wi : TI} {te : TE} {σ : St} {H : Hp} {Q : VK} : tComp fv wi te σ H Q = wi σ H fun J H1 => ∀ D, H1 D = none → CLoop J fv te Q σ H1 D := rfl
theorem a_ilist {K : PySem.W.Frag} {tl : TE} {σ : St} {H : Hp} {R : It → Hp → Prop} : iList K tl σ H R = tl σ H fun x H1 => ∃ a, x = .ref a ∧ (∃ xs, SqL K H1 a xs) ∧ R (Itl K a) H1 := rfl
theorem a_itup {K : PySem.W.Frag} {tl : TE} {σ : St} {H : Hp} {R : It → Hp → Prop} : iTup K tl σ H R = tl σ H fun x H1 => ∃ a, x = .ref a ∧ (∃ xs, SqT K H1 a xs) ∧ R (Itt K a) H1 := rfl
theorem a_irng1 {ta : TA} {σ : St} {H : Hp} {R : It → Hp → Prop} : iRng1 ta σ H R = ta σ H fun vs H1 => ∃ j : Int, vs = [.int j] ∧ -(2 ^ 62) ≤ j ∧ j < 2 ^ 62 ∧ R (Itr 0 j.toNat) H1 := rfl
theorem a_irng2 {ta : TA} {σ : St} {H : Hp} {R : It → Hp → Prop} : iRng2 ta σ H R = ta σ H fun vs H1 => ∃ i j : Int, vs = [.int i, .int j] ∧ (-(2 ^ 62) ≤ i ∧ i < 2 ^ 62 ∧ -(2 ^ 62) ≤ j ∧ j < 2 ^ 62) ∧ R (Itr i (j - i).toNat) H1 := rfl
theorem a_irng3 {ta : TA} {σ : St} {H : Hp} {R : It → Hp → Prop} : iRng3 ta σ H R = ta σ H fun vs H1 => ∃ (i j k : Int) (n : Nat), vs = [.int i, .int j, .int k] ∧ k ≠ 0 ∧ k.natAbs < 1073741824 ∧ Builtin.Range.small i j k = true ∧ Builtin.Range.rangeSize i j k = n ∧ R (Itrs i k n) H1 := rfl
theorem while_of {c : TT} {tb : TS} {D : Ends} {σ : St} {H : Hp} (Pv : Nat → St → Hp → Prop) (m : Nat) (h0 : Pv m σ H)
    (hs : ∀ m σ H, Pv m σ H → c σ H fun b H1 => if b = true then ∃ N : St → Hp → Prop, (∀ σ' H', N σ' H' → ∃ m', m' < m ∧ Pv m' σ' H') ∧ tb { D with nx := N, ct := N, bk := D.nx } σ H1 else D.nx σ H1) : tWhile c tb D σ H := ⟨Pv, ⟨m, h0⟩, hs⟩
section
variable {σ : St} {H : Hp} {Q : VK} {x y v : V} {K : PySem.W.Frag}
theorem a_rslL {lo hi : Option Int} : rSlL K x lo hi H Q = ∃ a xs, x = .ref a ∧ SqL K H a xs ∧ ∀ p, H p = none → Q (.ref p) (upd H p (.lst (cutV xs lo hi))) := rfl
theorem a_ixL : rIxL K x y H Q = ∃ p xs i v, x = .ref p ∧ y = .int i ∧ SqL K H p xs ∧ atI xs i = some v ∧ Q v H := rfl
theorem a_ixT : rIxT K x y H Q = ∃ p xs i v, x = .ref p ∧ y = .int i ∧ SqT K H p xs ∧ atI xs i = some v ∧ Q v H := rfl
theorem a_setL {Q : Hp → Prop} : rSetL x y v H Q = ∃ p xs k j, x = .ref p ∧ y = .int k ∧ H p = some (.lst xs) ∧ ixN xs.length k = some j ∧ Q (upd H p (.lst (xs.set j v))) := rfl
theorem a_app {vs : List V} : rAppend x vs H Q = ∃ l xs y, x = .ref l ∧ vs = [y] ∧ H l = some (.lst xs) ∧ xs.length < sizeLine ∧ Q .non (upd H l (.lst (xs ++ [y]))) := rfl
theorem cutV_map (ns : List Int) (lo hi : Option Int) : cutV (ns.map V.int) lo hi = ((ns.drop (HT.sIx ns.length 0 lo)).take (HT.sIx ns.length ns.length hi - HT.sIx ns.length 0 lo)).map V.int := by
  unfold cutV
  rw [List.length_map, List.map_take, List.map_drop]
end
/-! ### the built-in names -/
theorem bt_len : bootBuiltins "len" = some (.builtin "len") := by decide +kernel
theorem bt_abs : bootBuiltins "abs" = some (.builtin "abs") := by decide +kernel
theorem bt_isinstance : bootBuiltins "isinstance" = some (.builtin "isinstance") := by decide +kernel
theorem bt_min : bootBuiltins "min" = some (.builtin "min") := by decide +kernel
theorem bt_max : bootBuiltins "max" = some (.builtin "max") := by decide +kernel
theorem bt_int : bootBuiltins "int" = some (.type "int") := by decide +kernel
theorem bt_bool : bootBuiltins "bool" = some (.type "bool") := by decide +kernel
theorem bt_list : bootBuiltins "list" = some (.type "list") := by decide +kernel
theorem bt_tuple : bootBuiltins "tuple" = some (.type "tuple") := by decide +kernel
theorem bt_ValueError : bootBuiltins "ValueError" = some (.type "ValueError") := by decide +kernel
/-! ### a block cut by a word of one's own -/
def tMid (t u : TS) : TS := fun D σ H => ∃ M : St → Hp → Prop, t { D with nx := M } σ H ∧ ∀ σ' H', M σ' H' → u D σ' H'
theorem pss_mid {X : Cx} {st : Stmt} {rest : List Stmt} {t u : TS} (h1 : PS X st t) (h2 : PSs X rest u) : PSs X (st :: rest) (tMid t u) := by
  intro pins s σ H D I h
  obtain ⟨M, h, hM⟩ := h
  refine wpAny_execs_cons (thn (h1 pins s σ H { D with nx := M } I h) fun f s1 q => ?_)
  cases f with
  | next =>
    obtain ⟨σ', H', I', q⟩ := q
    exact h2 pins s1 σ' H' D I' (hM σ' H' q)
  | ret v => exact q
  | brk => exact q
  | cont => exact q
theorem a_mid {t u : TS} {D : Ends} {σ : St} {H : Hp} : tMid t u D σ H = ∃ M : St → Hp → Prop, t { D with nx := M } σ H ∧ ∀ σ' H', M σ' H' → u D σ' H' := rfl
theorem mid_of {t u : TS} {D : Ends} {σ : St} {H : Hp} (M : St → Hp → Prop) (h1 : t { D with nx := M } σ H) (h2 : ∀ σ' H', M σ' H' → u D σ' H') : tMid t u D σ H := ⟨M, h1, h2⟩
theorem a_cxK {CX : CXT} {P : Program} {w : World} {K : PySem.W.Frag} {mg : Str → Option Value} {base : Heap} {N : List Str} {qual : Str} {scope : Scope} {f : Addr} {cd : Value} {A : Around} {outer : List Env} {s : Shared} {H : Hp} {E : XK} :
    (cxOf CX P w K mg base N qual scope f cd A outer s H E).K = K := rfl
/-! ### the loops' words -/
section
variable {K : PySem.W.Frag} {a : Addr} {xs : List V} {g : TG} {tb : TS} {D : Ends} {σ : St} {H H1 : Hp} {fv : List (Nat × Str)} {te : TE} {Q : VK} {L : Addr} {lo c : Int} {n : Nat}
theorem cl_list (Pv : Nat → Hp → Prop) (h0 : Pv 0 (upd H1 L (.lst []))) (hl : ∀ i H, i ≤ xs.length → Pv i H → SqL K H a xs)
    (hs : ∀ i v H, xs[i]? = some v → Pv i H → te (bst fv σ (some v)) H fun y H2 => ∃ ys, H2 L = some (.lst ys) ∧ ys.length < sizeLine ∧ Pv (i + 1) (upd H2 L (.lst (ys ++ [y])))) (hd : ∀ H, Pv xs.length H → Q (.ref L) H) :
    CLoop (Itl K a) fv te Q σ H1 L := comp_list Pv h0 hl hs hd
theorem cl_range (Pv : Nat → Hp → Prop) (h0 : Pv 0 (upd H1 L (.lst [])))
    (hs : ∀ i H, i < n → Pv i H → te (bst fv σ (some (.int (lo + i)))) H fun y H2 => ∃ ys, H2 L = some (.lst ys) ∧ ys.length < sizeLine ∧ Pv (i + 1) (upd H2 L (.lst (ys ++ [y])))) (hd : ∀ H, Pv n H → Q (.ref L) H) :
    CLoop (Itr lo n) fv te Q σ H1 L := comp_range Pv h0 hs hd
theorem lp_list (Pv : Nat → St → Hp → Prop) (h0 : Pv 0 σ H) (hl : ∀ i σ H, i ≤ xs.length → Pv i σ H → SqL K H a xs)
    (hs : ∀ i v σ H, xs[i]? = some v → Pv i σ H → g v σ H fun σ2 H2 => tb { D with nx := Pv (i + 1), ct := Pv (i + 1), bk := D.nx } σ2 H2) (hd : ∀ σ H, Pv xs.length σ H → D.nx σ H) : Loop (Itl K a) g tb D σ H := for_list Pv h0 hl hs hd
theorem lp_range (Pv : Nat → St → Hp → Prop) (h0 : Pv 0 σ H)
    (hs : ∀ i σ H, i < n → Pv i σ H → g (.int (lo + i)) σ H fun σ2 H2 => tb { D with nx := Pv (i + 1), ct := Pv (i + 1), bk := D.nx } σ2 H2) (hd : ∀ σ H, Pv n σ H → D.nx σ H) : Loop (Itr lo n) g tb D σ H := for_range Pv h0 hs hd
theorem lp_ranges (Pv : Nat → St → Hp → Prop) (h0 : Pv 0 σ H)
    (hs : ∀ i σ H, i < n → Pv i σ H → g (.int (lo + i * c)) σ H fun σ2 H2 => tb { D with nx := Pv (i + 1), ct := Pv (i + 1), bk := D.nx } σ2 H2) (hd : ∀ σ H, Pv n σ H → D.nx σ H) : Loop (Itrs lo c n) g tb D σ H := for_ranges Pv h0 hs hd
theorem upd_none {p : Addr} {o : HO} (h : upd H p o L = none) : L ≠ p ∧ H L = none := by
  by_cases e : L = p
  · subst e; rw [upd_same] at h; cases h
  · rw [upd_ne e] at h; exact ⟨e, h⟩
end
/-- what a step of 2 walks -/
theorem small_two {j : Int} (h0 : 0 ≤ j) (h1 : j < 2 ^ 60) : Builtin.Range.small 0 j 2 = true := by
  unfold Builtin.Range.small
  simp only [Builtin.Range.rangeFitsLong, Builtin.Range.rangeSize, Bool.and_eq_true, Bool.or_eq_true, decide_eq_true_eq, beq_iff_eq, show (2 : Int) > 0 by decide, if_true]
  split <;> omega
theorem size_two {j : Int} {n : Nat} (h : j = 2 * n) : Builtin.Range.rangeSize 0 j 2 = n := by
  unfold Builtin.Range.rangeSize
  simp only [show (2 : Int) > 0 by decide, if_true]
  split <;> omega
end L2
namespace L2
open PySem PySem.Spec PyProof.Rows
section
variable {X : Cx}
/-! ### xs[i] by values (for xs[i] op= e) -/
theorem get_list : PGet X (rIxL X.K) := by
  intro pins s σ H o i ov iv Q I ro ri h
  obtain ⟨p, xs, i, z, rfl, rfl, hq, he, q⟩ := h
  cases ro
  obtain ⟨t, rfl⟩ := ri
  obtain ⟨its, r, pl, hz⟩ := I.list hq
  obtain ⟨j, h1, h2, h3, h4, h5⟩ := atI_get he
  obtain ⟨w, ew, rw'⟩ := r.get h2
  have hl := r.length
  have hn := line63
  have fin : EP X pins σ Q w s := ⟨z, H, I, rw', q⟩
  by_cases h0 : 0 ≤ i
  · have hj : i.toNat = j := by
      rw [seqIndex_of h0 h5] at h1
      exact Option.some.inj h1
    exact wpAny_getItem_list pl.isList h0 (by omega) (by rw [hj]; simpa using ew) fin
  · have hj : (i + (its.toArray.size : Int)).toNat = j := by
      rw [seqIndex_neg (by omega) h4] at h1
      rw [List.size_toArray, ← hl]
      exact Option.some.inj h1
    exact wpAny_getItem_list_neg pl.isList (by omega) (by rw [List.size_toArray] <;> omega) (by omega) (by rw [hj]; simpa using ew) fin

/-! ### == of lists, at any depth -/
mutual
inductive DV (K : PySem.W.Frag) (H : Hp) : V → PyData → Prop
  | non : DV K H .non .none
  | bl (b) : DV K H (.bl b) (.bool b)
  | int (i) : DV K H (.int i) (.int i)
  | str (x) : DV K H (.str x) (.str x)
  | lst {a xs ds} : SqL K H a xs → DVs K H xs ds → DV K H (.ref a) (.list ds)
  | tup {a xs ds} : SqT K H a xs → DVs K H xs ds → DV K H (.ref a) (.tuple ds)
inductive DVs (K : PySem.W.Frag) (H : Hp) : List V → List PyData → Prop
  | nil : DVs K H [] []
  | cons {x xs d ds} : DV K H x d → DVs K H xs ds → DVs K H (x :: xs) (d :: ds)
end
theorem DVs.ints {K : PySem.W.Frag} {H : Hp} : ∀ ns : List Int, DVs K H (ns.map V.int) (ns.map PyData.int)
  | [] => .nil
  | n :: r => .cons (.int n) (DVs.ints r)
theorem DV.ints {K : PySem.W.Frag} {H : Hp} {a : Addr} {ns : List Int} (h : SqL K H a (ns.map V.int)) : DV K H (.ref a) (.list (ns.map PyData.int)) := .lst h (DVs.ints ns)
mutual
theorem DV.reads {pins : List (Addr × Obj)} {σ : St} {H : Hp} {s : Shared} (I : Inv X pins σ H s) : ∀ {x : V} {d : PyData} {v : Value}, DV X.K H x d → RelV x v → ∃ as, Reads s.heap v d as
  | _, _, _, .non, r => by cases r; exact ⟨_, .none⟩
  | _, _, _, .bl b, r => by cases r; exact ⟨_, .bool b⟩
  | _, _, _, .int i, r => by obtain ⟨t, rfl⟩ := r; exact ⟨_, .int i t⟩
  | _, _, _, .str x, r => by obtain ⟨t, rfl⟩ := r; exact ⟨_, .str x t⟩
  | _, _, _, .lst hq hs, r => by
    cases r
    obtain ⟨its, rv, ⟨o, n, e, c, _, hd⟩, _⟩ := I.list hq
    obtain ⟨as, ra⟩ := DVs.reads I hs rv
    exact ⟨_, .list e c hd (by simpa using ra)⟩
  | _, _, _, .tup hq hs, r => by
    cases r
    obtain ⟨its, rv, ⟨o, e, c, n, hd⟩, _⟩ := I.tuple hq
    obtain ⟨as, ra⟩ := DVs.reads I hs rv
    exact ⟨_, .tuple e c hd (by simpa using ra)⟩
theorem DVs.reads {pins : List (Addr × Obj)} {σ : St} {H : Hp} {s : Shared} (I : Inv X pins σ H s) : ∀ {xs : List V} {ds : List PyData} {vs : List Value}, DVs X.K H xs ds → Vals xs vs → ∃ as, ReadsAll s.heap vs ds as
  | _, _, _, .nil, r => by cases r; exact ⟨_, .nil⟩
  | _, _, _, .cons h t, r => by
    cases r with
    | cons r1 r2 =>
      obtain ⟨as, ra⟩ := DV.reads I h r1
      obtain ⟨bs, rb⟩ := DVs.reads I t r2
      exact ⟨_, .cons ra rb⟩
end
/-- ==, != of lists, by what they hold -/
theorem op_eqD (hu : X.A.units + 64 < cLine) : OpR X (compareOp .Eq) (fun x y H Q => ∃ da db, DV X.K H x da ∧ DV X.K H y db ∧ da.canLay0 = true ∧ db.canLay0 = true ∧ da.depth ≤ 64 ∧ Q (.bl (PyData.eqv da db)) H) := by
  intro pins s σ H x y v u Q I rx ry h
  obtain ⟨da, db, hx, hy, c1, c2, hd, q⟩ := h
  obtain ⟨as, ra⟩ := hx.reads I rx
  obtain ⟨bs, rb⟩ := hy.reads I ry
  exact PySem.SeqAt.eqOverData _ _ _ _ _ _ _ _ _ _ _ _ ra rb c1 c2 (by omega) ⟨.bl _, H, I, rfl, q⟩
theorem op_neD (hu : X.A.units + 64 < cLine) : OpR X (compareOp .NotEq) (fun x y H Q => ∃ da db, DV X.K H x da ∧ DV X.K H y db ∧ da.canLay0 = true ∧ db.canLay0 = true ∧ da.depth ≤ 64 ∧ Q (.bl (!PyData.eqv da db)) H) := by
  intro pins s σ H x y v u Q I rx ry h
  obtain ⟨da, db, hx, hy, c1, c2, hd, q⟩ := h
  obtain ⟨as, ra⟩ := hx.reads I rx
  obtain ⟨bs, rb⟩ := hy.reads I ry
  exact PySem.SeqAt.neOverData _ _ _ _ _ _ _ _ _ _ _ _ ra rb c1 c2 (by omega) ⟨.bl _, H, I, rfl, q⟩
end
theorem eqvAll_ints : ∀ xs ys : List Int, PyData.eqvAll (xs.map PyData.int) (ys.map PyData.int) = decide (xs = ys)
  | [], [] => by simp [PyData.eqvAll]
  | [], _ :: _ => by simp [PyData.eqvAll]
  | _ :: _, [] => by simp [PyData.eqvAll]
  | x :: xs, y :: ys => by
    have ih := eqvAll_ints xs ys
    simp only [List.map_cons, PyData.eqvAll, PyData.eqv, ih]
    by_cases h : x = y
    · subst h; simp
    · simp [h]
theorem lay_ints : ∀ xs : List Int, PyData.canLayAll0 (xs.map PyData.int) = true
  | [] => rfl
  | _ :: r => by simp [PyData.canLayAll0, PyData.canLay0, lay_ints r]
theorem depth_ints : ∀ xs : List Int, PyData.depthAll (xs.map PyData.int) = 0
  | [] => rfl
  | _ :: r => by simp [PyData.depthAll, PyData.depth, depth_ints r]

/-! ### enumerate(xs) -/
/-- (0, x_0), (1, x_1) .. of the list at a: each a new tuple -/
def Ite (K : PySem.W.Frag) (a : Addr) : It :=
  ⟨fun i H => ∃ xs x, SqL K H a xs ∧ xs[i]? = some x, fun i H v H' => ∃ p x, H p = none ∧ v = .ref p ∧ H' = upd H p (.tup [.int i, x]) ∧ ∀ xs, SqL K H a xs → xs[i]? = some x, fun i H => ∃ xs, SqL K H a xs ∧ xs.length ≤ i⟩
theorem turn_enum {P : Program} {w : World} {K : PySem.W.Frag} {elts : List Expr} {tk : Nat} {tpos : Pos} (a e it : Addr) (hne : e ≠ it) :
    Turn P w K (.Tuple elts tk tpos) (Ite K a) [e, it] e (fun i h => (∃ old, IsEnum h e it i old) ∧ h.IsListIter it a i) where
  mem := by simp
  obj := fun i h st b hb => by
    obtain ⟨⟨old, he⟩, o, ho, c, d⟩ := st
    rcases List.mem_cons.mp hb with rfl | hb
    · exact ⟨_, he, fun v z => by
        have z' : Data.fields _ = Data.cell v := z
        cases z'⟩
    · rw [List.mem_singleton.mp hb]
      exact ⟨o, ho, fun v z => by rw [d] at z; cases z⟩
  keep := fun i h h' st k => by
    obtain ⟨⟨old, he⟩, hit⟩ := st
    exact ⟨⟨old, k e (by simp) _ he⟩, hit.at fun o q => k it (by simp) o q⟩
  item := by
    intro X hP hw hK hc i pins s σ H E I hf st hg
    subst hP hw hK
    obtain ⟨xs, x, hq, hx⟩ := hg
    obtain ⟨its, rv, pl, hz⟩ := I.list hq
    obtain ⟨u, hu, ru⟩ := rv.get hx
    obtain ⟨⟨old, he⟩, hit⟩ := st
    have fe := hf e (by simp)
    have fi := hf it (by simp)
    refine wpAny_pyNext_enum_item he hit pl.isList (x := u) (by simpa using hu) hne fun h1 ho hit1 hT hsz hk => ?_
    refine ⟨_, rfl, wpAny_letOwnedTupleGo_enum ho fun h2 he2 hs2 => ?_⟩
    have hp : H s.heap.objs.size = none := I.hok.fresh (Nat.le_refl _)
    have hpe : s.heap.objs.size ≠ e := Nat.ne_of_gt (Heap.lt_size he)
    have k2 : ∀ b o, b ∉ [e, it] → s.heap.get? b = some o → h2.get? b = some o := fun b o hb q =>
      (hs2.2 b fun z => hb (by simp [z])).trans (hk b o (fun z => hb (by simp [z])) (fun z => hb (by simp [z])) q)
    have hT2 : h2.get? s.heap.objs.size = some { cls := .type "tuple", data := .seq #[.int i s.toks, u] } := (hs2.2 _ hpe).trans hT
    have nch : ∀ b u, H b = some u → b ∉ [e, it] := fun b u q hb => by
      rcases List.mem_cons.mp hb with rfl | hb
      · rw [fe.1] at q; cases q
      · rw [List.mem_singleton.mp hb, fi.1] at q; cases q
    have up : ∀ b, b < s.heap.objs.size → b ≠ s.heap.objs.size := fun b hb => Nat.ne_of_lt hb
    have I2 : Inv X pins σ (upd H s.heap.objs.size (.tup [.int i, x])) { s with heap := h2, toks := s.toks + 1 } := by
      refine I.step (g' := s.gens) (d' := s.drawn) (t' := s.toks + 1) (ch := [e, it]) (fun b hb => ?_) (fun b o _ _ hc q _ => k2 b o hc q) (fun b o _ _ hc q _ => ⟨o.slots, k2 b o hc q⟩)
        (fun b o _ q n => by rw [upd_ne (up b (Heap.lt_size q))]; exact n) (fun b o hc q => ⟨o, k2 b o hc q⟩) (fun b ys q => by rw [upd_ne (ne_of_none q hp)]; exact q) (fun b o v q => by rw [upd_ne (ne_of_none q hp)]; exact q)
        (fun b ps q => ⟨#[], by rw [upd_ne (ne_of_none q hp), q]; simp⟩) (fun m hm => ?_) (fun b v q => ?_) I.bare
      · rcases List.mem_cons.mp hb with rfl | hb
        · exact ⟨fe.2.2.2.1, fe.2.1, fe.2.2.2.2.1, fe.2.2.2.2.2⟩
        · rw [List.mem_singleton.mp hb]; exact ⟨fi.2.2.2.1, fi.2.1, fi.2.2.2.2.1, fi.2.2.2.2.2⟩
      · obtain ⟨o, es, ep, q, r⟩ := hm
        refine ⟨o, es, ep, k2 _ o (fun z => ?_) q, r⟩
        rcases List.mem_cons.mp z with z | z
        · exact fe.2.1 z.symm
        · exact fi.2.1 (List.mem_singleton.mp z).symm
      · by_cases hb : b = s.heap.objs.size
        · subst hb
          rw [upd_same] at q; cases q
          exact ⟨by show 2 ≤ sizeLine; decide, [.int i s.toks, u], .cons ⟨_, rfl⟩ (.cons ru .nil), ⟨_, hT2, rfl, _, rfl⟩⟩
        · rw [upd_ne hb] at q
          refine (I.hok b v q).stay (fun c o hc r => k2 c o ?_ r) (fun c r => by rw [upd_ne (ne_of_none r hp)]; exact r) fun c ys r => by rw [upd_ne (ne_of_none r hp)]; exact r
          rcases hc with z | z
          · rw [z]; exact nch b v q
          · exact nch c _ z
    refine ⟨.ref s.heap.objs.size, _, I2, rfl, ⟨_, x, hp, rfl, rfl, fun ys hy => by rw [I.list_inj hy hq]; exact hx⟩, ⟨⟨_, by simpa using he2⟩, hit1.at fun o q => (hs2.2 it (Ne.symm hne)).trans q⟩, fun b hb => ?_⟩
    have lb : b < s.heap.objs.size := by
      rcases List.mem_cons.mp hb with rfl | hb
      · exact Heap.lt_size he
      · rw [List.mem_singleton.mp hb]; obtain ⟨_, q, _⟩ := hit; exact Heap.lt_size q
    rw [upd_ne (up b lb)]
    exact (hf b hb).1
  done := by
    intro X hP hw hK hc i pins s σ H E I hf st hg
    subst hP hw hK
    obtain ⟨xs, hq, hx⟩ := hg
    obtain ⟨its, rv, pl, hz⟩ := I.list hq
    obtain ⟨⟨old, he⟩, hit⟩ := st
    obtain ⟨f0, f1, f2, f3, f4, f5⟩ := hf it (by simp)
    have hl := rv.length
    exact wpAny_pyNext_enum_end (I.ok.hd hc) he hit pl.isList (by simp; omega) fun h' eb => ⟨rfl, I.turned (t' := s.toks) (fun b o hb q => eb b o hb q) f0 f1 f3 f4 f5⟩
  self := fun _ _ _ _ _ st h => by
    obtain ⟨⟨old, he⟩, _⟩ := st
    exact wpAny_pyIter_enum he h
section
variable {X : Cx}
def iEnum (K : PySem.W.Frag) (ta : TA) : TI := fun σ H R => ta σ H fun vs H1 => ∃ a xs, vs = [.ref a] ∧ SqL K H1 a xs ∧ R (Ite K a) H1
theorem pi_enum {elts : List Expr} {tk : Nat} {tpos : Pos} {a : Expr} {ta : TA} {p pos : Pos} (hg : Gl X "enumerate") (hm : X.mg "enumerate" = none) (ha : PA X [a] ta) (hs : starEach [a] X.env = [(false, eval a X.env)] := by rfl) :
    PI X (.Tuple elts tk tpos) (.Call (.Name "enumerate" p) [a] [] pos) (iEnum X.K ta) := by
  intro pins s σ H R I h
  refine Call_ (ld_blt I hg hm boot_enumerate (PyProof.Rows.callWith_type1 (thn (ha pos pins s σ H _ I h) fun us s1 ⟨vs, H1, I1, r1, q1⟩ => ?_) hs rfl))
  obtain ⟨a, xs, e, hq, q⟩ := q1
  subst e
  cases r1 with
  | cons r rr =>
    cases rr
    cases r
    obtain ⟨its, rv, pl, hz⟩ := I1.list hq
    refine call_enumerate_list pl.isList fun h1 he hit hsz hk => ?_
    have I2 : Inv X pins σ H1 { s1 with heap := h1 } := I1.kept (t' := s1.toks) hk
    refine wpAny_pyIter_enum he ?_
    refine ⟨s1.heap.objs.size + 1, [s1.heap.objs.size + 1, s1.heap.objs.size], _, _, H1, rfl, I2, turn_enum a _ _ (Nat.succ_ne_self _), ⟨⟨_, he⟩, hit⟩, fun b hb => ?_, q⟩
    have hb' : s1.heap.objs.size ≤ b := by
      rcases List.mem_cons.mp hb with rfl | hb
      · exact Nat.le_succ _
      · rw [List.mem_singleton.mp hb]; exact Nat.le_refl _
    exact I1.fpOk hb' (I1.hok.fresh hb')
end
theorem a_ienum {K : PySem.W.Frag} {ta : TA} {σ : St} {H : Hp} {R : It → Hp → Prop} : iEnum K ta σ H R = ta σ H fun vs H1 => ∃ a xs, vs = [.ref a] ∧ SqL K H1 a xs ∧ R (Ite K a) H1 := rfl
theorem for_enum {K : PySem.W.Frag} {a : Addr} {xs : List V} {g : TG} {tb : TS} {D : Ends} {σ : St} {H : Hp} (Pv : Nat → St → Hp → Prop) (h0 : Pv 0 σ H) (hl : ∀ i σ H, i ≤ xs.length → Pv i σ H → SqL K H a xs)
    (hs : ∀ i v p σ H, xs[i]? = some v → Pv i σ H → H p = none → g (.ref p) σ (upd H p (.tup [.int i, v])) fun σ2 H2 => tb { D with nx := Pv (i + 1), ct := Pv (i + 1), bk := D.nx } σ2 H2) (hd : ∀ σ H, Pv xs.length σ H → D.nx σ H) : Loop (Ite K a) g tb D σ H := by
  refine ⟨fun i m σ H => m = xs.length - i ∧ i ≤ xs.length ∧ Pv i σ H, ⟨xs.length, by simp, Nat.zero_le _, h0⟩, ?_⟩
  rintro i m σ H ⟨rfl, hi, p⟩
  have q := hl i σ H hi p
  by_cases hlt : i < xs.length
  · refine .inr ⟨⟨xs, xs[i], q, List.getElem?_eq_getElem hlt⟩, Pv (i + 1), fun σ' H' p' => ⟨xs.length - (i + 1), by omega, rfl, hlt, p'⟩, fun x H' y => ?_⟩
    obtain ⟨pa, z, hn, e1, e2, y⟩ := y
    subst e1 e2
    exact hs i z pa σ H (y xs q) p hn
  · have e : i = xs.length := by omega
    subst e
    exact .inl ⟨⟨xs, q, Nat.le_refl _⟩, hd σ H p⟩
end L2
namespace L2
open PySem PySem.Spec PyProof.Rows
/-! ### reversed(xs): the list, of n things, stays while it is walked -/
def Itv (K : PySem.W.Frag) (a : Addr) (n : Nat) : It :=
  ⟨fun i H => i < n ∧ ∃ xs, SqL K H a xs ∧ xs.length = n, fun i H x H' => H' = H ∧ ∀ xs, SqL K H a xs → xs[n - 1 - i]? = some x, fun i _ => i = n⟩
theorem turn_rev {P : Program} {w : World} {K : PySem.W.Frag} {tg : Expr} (a it : Addr) (n : Nat) : Turn P w K tg (Itv K a n) [it] it (fun i h => h.IsRevIter it a ((n : Int) - 1 - i)) where
  mem := by simp
  obj := fun i h st b hb => by
    have e : b = it := by simpa using hb
    subst e
    obtain ⟨o, e, c, d⟩ := st
    exact ⟨o, e, fun v z => by rw [d] at z; cases z⟩
  keep := fun i h h' st k => st.at fun o e => k it (by simp) o e
  item := by
    intro X hP hw hK hc i pins s σ H E I hf st hg
    subst hP hw hK
    obtain ⟨hi, xs, hq, hn⟩ := hg
    obtain ⟨its, rv, p, hz⟩ := I.list hq
    have hx : xs[n - 1 - i]? = some (xs[n - 1 - i]'(by omega)) := List.getElem?_eq_getElem (by omega)
    obtain ⟨u, hu, ru⟩ := rv.get hx
    obtain ⟨f0, f1, f2, f3, f4, f5⟩ := hf it (by simp)
    have e0 : (n : Int) - 1 - i = ((n - 1 - i : Nat) : Int) := by omega
    rw [e0] at st
    refine wpAny_pyNext_rev_item st p.isList (x := u) (by simpa using hu) fun h' st' sb => ?_
    have I1 : Inv X pins σ H { s with heap := h' } := I.turned (t' := s.toks) (fun b o hb e => (sb.2 b hb).trans e) f0 f1 f3 f4 f5
    have e1 : ((n - 1 - i : Nat) : Int) - 1 = (n : Int) - 1 - ((i + 1 : Nat) : Int) := by omega
    rw [e1] at st'
    obtain ⟨o, e, c, d⟩ := id st'
    exact ⟨u, rfl, go_of (s := { s with heap := h' }) e c d (by decide) ⟨_, H, I1, ru, ⟨rfl, fun ys hy => by rw [I.list_inj hy hq]; exact hx⟩, st', fun b hb => (hf b hb).1⟩⟩
  done := by
    intro X hP hw hK hc i pins s σ H E I hf st hg
    subst hP hw hK
    obtain ⟨f0, f1, f2, f3, f4, f5⟩ := hf it (by simp)
    have e0 : (n : Int) - 1 - i = -1 := by have : i = n := hg; omega
    rw [e0] at st
    exact wpAny_pyNext_rev_end (I.ok.hd hc) st fun h' eb => ⟨rfl, I.turned (t' := s.toks) (fun b o hb e => eb b o hb e) f0 f1 f3 f4 f5⟩
  self := fun _ _ _ _ _ st h => wpAny_pyIter_revIter st h
section
variable {X : Cx} {tg : Expr}
def iRev (K : PySem.W.Frag) (ta : TA) : TI := fun σ H R => ta σ H fun vs H1 => ∃ a xs, vs = [.ref a] ∧ SqL K H1 a xs ∧ R (Itv K a xs.length) H1
theorem pi_rev {a : Expr} {ta : TA} {p pos : Pos} (hg : Gl X "reversed") (hm : X.mg "reversed" = none) (ha : PA X [a] ta) (hs : starEach [a] X.env = [(false, eval a X.env)] := by rfl) :
    PI X tg (.Call (.Name "reversed" p) [a] [] pos) (iRev X.K ta) := by
  intro pins s σ H R I h
  refine Call_ (ld_blt I hg hm boot_reversed (PyProof.Rows.callWith_type1 (thn (ha pos pins s σ H _ I h) fun us s1 ⟨vs, H1, I1, r1, q1⟩ => ?_) hs rfl))
  obtain ⟨a, xs, e, hq, q⟩ := q1
  subst e
  cases r1 with
  | cons r rr =>
    cases rr
    cases r
    obtain ⟨its, rv, pl, hz⟩ := I1.list hq
    have hl := rv.length
    refine call_reversed_list pl.isList ?_
    have I2 : Inv X pins σ H1 { s1 with heap := s1.heap.push (revObj a ((its.toArray.size : Int) - 1)) } := I1.kept (t' := s1.toks) fun b o e => Heap.get?_push_of_some _ e
    have st : (s1.heap.push (revObj a ((its.toArray.size : Int) - 1))).IsRevIter s1.heap.objs.size a ((xs.length : Int) - 1 - ((0 : Nat) : Int)) := by
      have e1 : (xs.length : Int) - 1 - ((0 : Nat) : Int) = (its.toArray.size : Int) - 1 := by rw [List.size_toArray, hl]; simp
      rw [e1]
      exact ⟨_, Heap.get?_push_size _ rfl, rfl, rfl⟩
    refine wpAny_pyIter_revIter st ?_
    refine ⟨s1.heap.objs.size, [s1.heap.objs.size], _, _, H1, rfl, I2, turn_rev a _ xs.length, st, fun b hb => ?_, q⟩
    have e : b = s1.heap.objs.size := by simpa using hb
    subst e
    exact I1.fpOk (Nat.le_refl _) (I1.hok.fresh (Nat.le_refl _))
end
theorem a_irev {K : PySem.W.Frag} {ta : TA} {σ : St} {H : Hp} {R : It → Hp → Prop} : iRev K ta σ H R = ta σ H fun vs H1 => ∃ a xs, vs = [.ref a] ∧ SqL K H1 a xs ∧ R (Itv K a xs.length) H1 := rfl
/-- the i-th from behind -/
theorem lp_rev {K : PySem.W.Frag} {a : Addr} {xs : List V} {g : TG} {tb : TS} {D : Ends} {σ : St} {H : Hp} (Pv : Nat → St → Hp → Prop) (h0 : Pv 0 σ H) (hl : ∀ i σ H, i ≤ xs.length → Pv i σ H → SqL K H a xs)
    (hs : ∀ i v σ H, i < xs.length → xs[xs.length - 1 - i]? = some v → Pv i σ H → g v σ H fun σ2 H2 => tb { D with nx := Pv (i + 1), ct := Pv (i + 1), bk := D.nx } σ2 H2) (hd : ∀ σ H, Pv xs.length σ H → D.nx σ H) : Loop (Itv K a xs.length) g tb D σ H := by
  refine ⟨fun i m σ H => m = xs.length - i ∧ i ≤ xs.length ∧ Pv i σ H, ⟨xs.length, by simp, Nat.zero_le _, h0⟩, ?_⟩
  rintro i m σ H ⟨rfl, hi, p⟩
  have q := hl i σ H hi p
  by_cases hlt : i < xs.length
  · refine .inr ⟨⟨hlt, xs, q, rfl⟩, Pv (i + 1), fun σ' H' p' => ⟨xs.length - (i + 1), by omega, rfl, hlt, p'⟩, fun x H' y => ?_⟩
    obtain ⟨e, y⟩ := y
    subst e
    exact hs i x σ _ hlt (y xs q) p
  · have e : i = xs.length := by omega
    subst e
    exact .inl ⟨rfl, hd σ H p⟩
/-! ### further readings, applied -/
section
variable {σ : St} {H : Hp} {Q : VK} {x y v : V} {vs : List V}
theorem a_cat : rCat x y H Q = ∃ l b xs zs, x = .ref l ∧ y = .ref b ∧ H l = some (.lst xs) ∧ H b = some (.lst zs) ∧ xs.length + zs.length ≤ sizeLine ∧ ∀ p, H p = none → Q (.ref p) (upd H p (.lst (xs ++ zs))) := rfl
theorem a_rep : rRep x y H Q = ∃ l k xs, x = .ref l ∧ y = .int k ∧ H l = some (.lst xs) ∧ -(2 ^ 63) ≤ k ∧ k < 2 ^ 63 ∧ xs.length * k.toNat ≤ sizeLine ∧ ∀ p, H p = none → Q (.ref p) (upd H p (.lst (List.replicate k.toNat xs).flatten)) := rfl
theorem a_pop : rPop x vs H Q = ∃ l xs y, x = .ref l ∧ vs = [] ∧ H l = some (.lst xs) ∧ xs[xs.length - 1]? = some y ∧ Q y (upd H l (.lst xs.dropLast)) := rfl
theorem a_clear : rClear x vs H Q = ∃ l xs, x = .ref l ∧ vs = [] ∧ H l = some (.lst xs) ∧ Q .non (upd H l (.lst [])) := rfl
end
end L2
namespace L2
open PySem PySem.Spec PyProof.Rows
/-! ### products, their size shown apart -/
theorem op_mulZ {X : Cx} : OpR X (binaryOp .Mult) (rI IntMulOk fun i j => .int (i * j)) := opI fun _ _ _ _ _ _ _ hc q => mul_int q hc
/-- of at most k bits -/
def Bd (k : Nat) (x : Int) : Prop := x.natAbs < 2 ^ k
theorem Bd.mono {k l : Nat} {x : Int} (h : Bd k x) (hl : k ≤ l) : Bd l x := Nat.lt_of_lt_of_le h (Nat.pow_le_pow_right (by decide) hl)
theorem Bd.zero (k : Nat) : Bd k 0 := Nat.two_pow_pos k
theorem Bd.one {k : Nat} (h : 0 < k) : Bd k 1 := by
  have : Bd 1 1 := by show (1 : Nat) < 2 ^ 1; decide
  exact this.mono h
theorem Bd.neg {k : Nat} {x : Int} (h : Bd k x) : Bd k (-x) := by unfold Bd; rw [Int.natAbs_neg]; exact h
theorem Bd.mul {k l : Nat} {x y : Int} (h : Bd k x) (g : Bd l y) : Bd (k + l) (x * y) := by
  unfold Bd at *
  rw [Int.natAbs_mul, Nat.pow_add]
  exact Nat.mul_lt_mul_of_lt_of_lt h g
theorem Bd.add {k : Nat} {x y : Int} (h : Bd k x) (g : Bd k y) : Bd (k + 1) (x + y) := by
  unfold Bd at *
  rw [Nat.pow_succ]
  have := Int.natAbs_add_le x y
  omega
theorem Bd.sub {k : Nat} {x y : Int} (h : Bd k x) (g : Bd k y) : Bd (k + 1) (x - y) := by
  rw [Int.sub_eq_add_neg]; exact h.add g.neg
theorem Bd.fits {k l : Nat} {x y : Int} (h : Bd k x) (g : Bd l y) (hz : k + l ≤ 134217728) : IntMulOk x y := mulOk_of h g hz
theorem Bd.of_lt {k : Nat} {x : Int} {m : Nat} (h : x.natAbs < m) (hm : m ≤ 2 ^ k) : Bd k x := Nat.lt_of_lt_of_le h hm
/-! ### a new list handed back, all else as it was -/
def newL (H : Hp) (Q : VK) (ys : List V) : Prop := ∀ r H', Same H H' → H r = none → H' r = some (.lst ys) → Q (.ref r) H'
theorem same_upd {H : Hp} {p : Addr} (h : H p = none) (o : HO) : Same H (upd H p o) := fun b u q => by rw [upd_ne (ne_of_none q h)]; exact q
theorem Same.seqT {K : PySem.W.Frag} {H H' : Hp} {a : Addr} {xs : List V} (e : Same H H') (h : SqT K H a xs) : SqT K H' a xs := by
  rcases h with (h | ⟨o, h⟩) | h
  · exact .inl (.inl (e _ _ h))
  · exact .inl (.inr ⟨o, e _ _ h⟩)
  · exact .inr h
/-- a list that is read stays where another one, just made, is written -/
theorem SqL.upd {K : PySem.W.Frag} {H : Hp} {a p : Addr} {xs ys : List V} {o : HO} (h : SqL K H a xs) (hp : H p = some (.lst ys)) (hne : a ≠ p) : SqL K (L2.upd H p o) a xs := by
  rcases h with (h | ⟨u, h⟩) | h
  · exact .inl (.inl (by rw [upd_ne hne]; exact h))
  · exact .inl (.inr ⟨u, by rw [upd_ne hne]; exact h⟩)
  · exact .inr h
theorem at_int {xs : List Int} {i : Nat} (h : i < xs.length) : atI (xs.map V.int) (i : Int) = some (V.int xs[i]) := atI_nat (by rw [List.getElem?_map, List.getElem?_eq_getElem h]; rfl)
theorem ixN_nat {n i : Nat} (h : i < n) : ixN n (i : Int) = some i := by
  unfold ixN
  rw [if_pos (by omega), if_pos (by omega)]; simp
theorem ixN_neg {n i : Nat} (h : 0 < i) (h2 : i ≤ n) : ixN n (-(i : Int)) = some (n - i) := by
  unfold ixN
  rw [if_neg (by omega), if_pos (by omega)]
  congr 1
  omega
theorem at_last {xs : List Int} (h : xs ≠ []) : atI (xs.map V.int) (-1) = some (V.int (xs.getLast h)) := by
  unfold atI
  have h0 : 0 < xs.length := by cases xs with | nil => exact absurd rfl h | cons _ _ => simp
  have e := ixN_neg (n := (xs.map V.int).length) (i := 1) (by decide) (by rw [List.length_map]; exact h0)
  have e1 : (-((1 : Nat) : Int)) = -1 := rfl
  rw [e1] at e
  rw [e]
  show (xs.map V.int)[(xs.map V.int).length - 1]? = _
  rw [List.getElem?_map, List.length_map, ← List.getLast?_eq_getElem?, List.getLast?_eq_some_getLast h]; rfl
theorem map_set (xs : List Int) (i : Nat) (v : Int) : (xs.map V.int).set i (V.int v) = (xs.set i v).map V.int := by rw [List.map_set]
/-- what a step of -1 walks -/
theorem small_down {i j : Int} (h1 : -(2 ^ 60) < i) (h2 : i < 2 ^ 60) (h3 : -(2 ^ 60) < j) (h4 : j < 2 ^ 60) : Builtin.Range.small i j (-1) = true := by
  unfold Builtin.Range.small
  simp only [Builtin.Range.rangeFitsLong, Builtin.Range.rangeSize, Bool.and_eq_true, Bool.or_eq_true, decide_eq_true_eq, beq_iff_eq, show ¬ (-1 : Int) > 0 by decide, if_false, Int.neg_neg, Int.ediv_one]
  split <;> omega
theorem size_down {i j : Int} {n : Nat} (h : (i - j).toNat = n) : Builtin.Range.rangeSize i j (-1) = n := by
  unfold Builtin.Range.rangeSize
  simp only [show ¬ (-1 : Int) > 0 by decide, if_false, Int.neg_neg, Int.ediv_one]
  split <;> omega
theorem at_some {xs : List Int} {i : Nat} {v : Int} (h : xs[i]? = some v) : atI (xs.map V.int) (i : Int) = some (V.int v) := atI_nat (by rw [List.getElem?_map, h]; rfl)
theorem Same.more {H H' : Hp} {p : Addr} {o : HO} (e : Same H H') (h : H p = none) : Same H (L2.upd H' p o) := fun b u q => by rw [upd_ne (ne_of_none q h)]; exact e b u q
end L2
namespace L2
open PySem PySem.Spec PyProof.Rows
/-! ### errors of one's own: raised, passed on, caught -/
theorem ObjOk.ex {P : Program} {w : World} {H : Hp} {h : Heap} {a : Addr} {o : HO} (x : ObjOk P w H h a o) : ∃ ob, h.get? a = some ob := by
  cases o with
  | lst xs => obtain ⟨_, _, _, _, e⟩ := x; exact ⟨_, e⟩
  | tup xs => obtain ⟨_, _, _, ob, e, _⟩ := x; exact ⟨_, e⟩
  | dK kvs => obtain ⟨_, _, _, _, o, _, _, e, _⟩ := x; exact ⟨_, e⟩
  | dT kvs => obtain ⟨_, _, _, _, o, _, _, e, _⟩ := x; exact ⟨_, e⟩
  | set S n => obtain ⟨o, _, _, _, e, _⟩ := x; exact ⟨_, e⟩
  | ins C dx fs => obtain ⟨_, _, _, e, _⟩ := x; exact ⟨_, e⟩
  | own y => obtain ⟨_, e⟩ := x; exact ⟨_, e⟩
  | xd fs => obtain ⟨_, ⟨_, _, _, e, _⟩, _⟩ := x; exact ⟨_, e⟩
  | rng lo hi => obtain ⟨_, _, _, e⟩ := x; exact ⟨_, e⟩
  | frz ob u => obtain ⟨e, _⟩ := x; exact ⟨_, e⟩
  | tbl ps => exact ⟨_, (show h.get? a = some _ from x)⟩
  | met f y => exact ⟨_, (show h.get? a = some _ from x)⟩
  | ext φ => obtain ⟨_, e, _⟩ := x; exact e
/-- what an exception on its way leaves alone: B is the heap without the frames and the exception's own records -/
structure Grd (P : Program) (w : World) (fs : List Addr) (H H' : Hp) (h B : Heap) : Prop where
  keep : ∀ b o, h.get? b = some o → H b = none → b ∉ fs → B.get? b = some o
  there : ∀ b o, h.get? b = some o → b ∉ fs → ∃ o', B.get? b = some o'
  free : ∀ b o, h.get? b = some o → H b = none → H' b = none
  tups : ∀ b xs, H b = some (.tup xs) → H' b = some (.tup xs)
  frzs : ∀ b o u, H b = some (.frz o u) → H' b = some (.frz o u)
  tbls : ∀ b ps, H b = some (.tbl ps) → ∃ more, H' b = some (.tbl (ps ++ more))
  hok : HOk P w H' B
/-- of the frames the slots alone change -/
def Slt (fs : List Addr) (h h' : Heap) : Prop := ∀ b o, h.get? b = some o → b ∈ fs → ∃ sl, h'.get? b = some { o with slots := sl }
theorem Grd.un {P : Program} {w : World} {fs : List Addr} {H H' : Hp} {h B h' : Heap} (G : Grd P w fs H H' h B) (st : B.StaysIn h') (sl : Slt fs h h') : Un fs [] H H' h h' :=
  ⟨fun b o q n hb _ => st b o (G.keep b o q n hb), fun b o q _ hb _ => sl b o q hb, fun b o q n _ => G.free b o q n, fun b o q _ => by
    by_cases hb : b ∈ fs
    · obtain ⟨_, e⟩ := sl b o q hb
      exact ⟨_, e⟩
    · obtain ⟨o', e⟩ := G.there b o q hb
      exact ⟨o', st b o' e⟩, G.tups, G.frzs, G.tbls⟩
/-- how an own error lies behind a call -/
def CXE (P : Program) (w : World) : CXT := fun outer H s E e s' => ∃ (a t C : Addr) (H' : Hp) (B : Heap), e = .ref a ∧ s'.os = s.os ∧ AllBare s'.gens ∧ Heap.FlyingW B outer a (.ref C) (.ref t) s'.heap ∧
  Grd P w (frs outer) H H' s.heap B ∧ Slt (frs outer) s.heap s'.heap ∧ E (.ref C) none H'
theorem passF {P : Program} {w : World} {X : Cx} : Passes (CXE P w) X E0 := fun _ _ _ _ _ _ _ h => by
  obtain ⟨_, _, _, _, _, _, _, _, _, _, _, q⟩ := h
  exact q.elim
/-- a body whose frame stands on top -/
structure Top1 (X : Cx) : Prop where
  st : X.stack = X.env :: X.outer
  fr : X.env.frame = some X.env.locals
section
variable {X : Cx} {pins : List (Addr × Obj)} {σ : St} {H H' : Hp} {s : Shared}
theorem Slt.up {h1 h2 : Heap} (I : Inv X pins σ H s) (a : Slt (frs X.stack) s.heap h1) (u : h1.UpToSlots h2) : Slt (frs X.stack) s.heap h2 := fun b o q hb => by
  obtain ⟨_, o', ho', hd⟩ := I.stack.mem hb
  rw [q] at ho'; cases ho'
  obtain ⟨_, e⟩ := a b o q hb
  obtain ⟨sl', e'⟩ := u b _ e hd
  exact ⟨sl', e'⟩
theorem HOk.hide {P : Program} {w : World} {h : Heap} {fs : List Addr} (x : HOk P w H h) (hf : ∀ b ∈ fs, H b = none) : HOk P w H (PySem.W.hideAll h fs) := fun a o e =>
  (x a o e).stay (fun b u hb q => PySem.W.hideAll_get _ q fun z => by
    have n := hf b z
    rcases hb with hb | hb
    · rw [hb, e] at n; cases n
    · rw [hb] at n; cases n) (fun _ q => q) fun _ _ q => q
end
section
variable {P : Program} {w : World} {K : PySem.W.Frag} {mg : Str → Option Value} {base : Heap} {N : List Str} {qual : Str} {scope : Scope} {f : Addr} {cd : Value} {A : Around} {outer : List Env} {s0 : Shared} {H0 : Hp} {E : XK}
theorem top_cx {CX : CXT} : Top1 (cxOf CX P w K mg base N qual scope f cd A outer s0 H0 E) := ⟨rfl, rfl⟩
theorem nofr0 {pins : List (Addr × Obj)} {σ : St} {H : Hp} {s : Shared} (I : Inv (cxOf (CXE P w) P w K mg base N qual scope f cd A outer s0 H0 E) pins σ H s) {b : Addr} {o : Obj} (q : s0.heap.get? b = some o) (hb : b ∉ frs outer) :
    b ∉ frs (envOfC qual scope s0.heap.objs.size f cd :: outer) := fun z => by
  rcases List.mem_cons.mp (I.stkSub b z) with e | e
  · exact absurd (Heap.lt_size q) (by rw [e]; exact Nat.not_lt.mpr I.ok.above)
  · exact hb e
/-- raised here: the frame is left -/
theorem throw_here {pins : List (Addr × Obj)} {σ : St} {H : Hp} {s : Shared} {h' : Heap} {a C : Addr} {args : List Value} (I : Inv (cxOf (CXE P w) P w K mg base N qual scope f cd A outer s0 H0 E) pins σ H s)
    (hx : Heap.MadeExcOf s.heap h' a (.ref C) args) (q : E (.ref C) none H) : (cxOf (CXE P w) P w K mg base N qual scope f cd A outer s0 H0 E).xe (.ref a) { s with heap := h' } := by
  have hfs : ∀ b ∈ frs (envOfC qual scope s0.heap.objs.size f cd :: outer), H b = none := I.stkFree
  have hin : ∀ env ∈ (envOfC qual scope s0.heap.objs.size f cd :: outer), ∀ b, env.frame = some b → b ∈ frs (envOfC qual scope s0.heap.objs.size f cd :: outer) := fun env he b hb => List.mem_filterMap.mpr ⟨env, he, hb⟩
  have hst : s.heap.FunFrames base (envOfC qual scope s0.heap.objs.size f cd :: outer) := I.stack
  have noE : ∀ b : Addr, b ∉ (cxOf (CXE P w) P w K mg base N qual scope f cd A outer s0 H0 E).ex := fun b z => absurd (show b ∈ ([] : List Addr) from z) (by simp)
  refine wpAny_leaves_madeW (base := PySem.W.hideAll s.heap (frs (envOfC qual scope s0.heap.objs.size f cd :: outer))) I.ok.frames rfl (fun b o z => PySem.W.of_hideAll _ z) (PySem.W.funFrames_hide hst hin) hx fun h2 t fl _ _ up => ?_
  refine ⟨a, t, C, H, _, rfl, I.os, I.bare, fl, ⟨fun b o e n hb => ?_, fun b o e hb => ?_, fun b o e n => I.base.free b o e n (noE b), I.base.tups, I.base.frzs, I.base.tbls, I.hok.hide hfs⟩, fun b o e hb => ?_, q⟩
  · exact PySem.W.hideAll_get _ (I.base.keep b o e n hb (noE b)) (nofr0 I e hb)
  · obtain ⟨o', e'⟩ := I.base.there b o e (noE b)
    exact ⟨o', PySem.W.hideAll_get _ e' (nofr0 I e hb)⟩
  · obtain ⟨_, o', ho', hd⟩ := I.ok.funs.mem hb
    rw [show (cxOf (CXE P w) P w K mg base N qual scope f cd A outer s0 H0 E).s₀.heap.get? b = some o from e] at ho'; cases ho'
    obtain ⟨sl, e1⟩ := I.base.slot b o e (I.ok.frf b hb) hb (noE b)
    obtain ⟨sl', e2⟩ := up b _ (hx.keeps _ _ e1) hd
    exact ⟨sl', e2⟩
/-- a callee's error passes on -/
theorem passE : Passes (CXE P w) (cxOf (CXE P w) P w K mg base N qual scope f cd A outer s0 H0 E) E := fun pins σ H s e s' I c => by
  obtain ⟨a, t, C, H', B, rfl, os, bare, fl, G, sl, q⟩ := c
  have noE : ∀ b : Addr, b ∉ (cxOf (CXE P w) P w K mg base N qual scope f cd A outer s0 H0 E).ex := fun b z => absurd (show b ∈ ([] : List Addr) from z) (by simp)
  refine wpAny_leaves_onW I.ok.frames rfl fl fun h2 fl2 up => ?_
  refine ⟨a, t, C, H', B, rfl, os.trans I.os, bare, fl2, ⟨fun b o e n hb => ?_, fun b o e hb => ?_, fun b o e n => ?_, fun b xs z => G.tups b xs (I.base.tups b xs z), fun b o u z => G.frzs b o u (I.base.frzs b o u z), fun b ps z => ?_, G.hok⟩, fun b o e hb => ?_, q⟩
  · exact G.keep b o (I.base.keep b o e n hb (noE b)) (I.base.free b o e n (noE b)) (nofr0 I e hb)
  · obtain ⟨o', e'⟩ := I.base.there b o e (noE b)
    exact G.there b o' e' (nofr0 I e hb)
  · obtain ⟨o', e'⟩ := I.base.there b o e (noE b)
    exact G.free b o' e' (I.base.free b o e n (noE b))
  · obtain ⟨m1, e1⟩ := I.base.tbls b ps z
    obtain ⟨m2, e2⟩ := G.tbls b _ e1
    exact ⟨m1 ++ m2, by rw [e2, Array.append_assoc]⟩
  · obtain ⟨_, o', ho', hd⟩ := I.ok.funs.mem hb
    rw [show (cxOf (CXE P w) P w K mg base N qual scope f cd A outer s0 H0 E).s₀.heap.get? b = some o from e] at ho'; cases ho'
    obtain ⟨_, e1⟩ := I.base.slot b o e (I.ok.frf b hb) hb (noE b)
    obtain ⟨_, e2⟩ := sl b _ e1 (by show b ∈ frs (envOfC qual scope s0.heap.objs.size f cd :: outer); exact List.mem_cons_of_mem _ hb)
    obtain ⟨sl', e3⟩ := up b _ e2 hd
    exact ⟨sl', e3⟩
theorem Fun.okE {x : Str} {st : Stmt} {fd : FuncData} {ps : List Str} {k : Nat} {sp : Sp} (F : Fun K x qual st f fd) (S : FnScope N ps (defScope st)) (len : ∀ vs H Q E, sp vs H Q E → vs.length = ps.length)
    (hbody : ∀ (cdv : Value) (A : Around) (outer : List Env) (s : Shared) (H : Hp) (vs : List V) (Q : VK) (E : XK), Room k (A.deeper (envOfC qual (defScope st) s.heap.objs.size f cdv)) → sp vs H Q E →
      ∃ t, PSs (cxOf (CXE P w) P w K mg base N qual (defScope st) f cdv A outer s H E) (defBody st) t ∧ t { nx := fun _ H' => Q .non H', rt := Q } (start N vs) H) : FnOk P w K mg base (CXE P w) (k + 1) f fd ps sp := by
  obtain ⟨oc, od, kV, doc, pm, an, cdv, ct, osl, rfl, lk, hcd⟩ := F.ex
  exact fn_of lk hcd S len fun A outer s H vs Q E hr hsp => hbody cdv A outer s H vs Q E hr hsp
end
theorem PS.nox {X : Cx} {st : Stmt} {t : TS} (h : PS X.nox st t) : PS X st t := fun pins s σ H D I hw =>
  wpAny_mono (h pins s σ H D (I.wish _) hw) (fun _ _ q => q.unwish) fun _ _ z => False.elim z
/-! ### raise C(e) -/
abbrev bmV : List Value := [.type "ValueError", .type "Exception", .type "BaseException", .type "object"]
theorem exc_obj {K : PySem.W.Frag} {C : Addr} (q : PySem.W.excIn K C bmV "ValueError.__new__" = true) : ∃ bm N nm qn bs hd sn sub ab col dd k0 k1 k2 k3 k5,
    K.lookup C = some (excClassObj nm qn C N bs bm hd sn sub ab col dd k0 k1 k2 k3 k5 "ValueError.__new__") ∧ PySem.W.tailIn K bmV bm = true ∧ PySem.W.nsOkIn K N = true ∧ PySem.W.nsIn K N "__init__" = some none := by
  unfold PySem.W.excIn at q
  split at q
  · rename_i dd cd sl ho
    split at q
    · rename_i C1 bm k0 k1 k2 k3 n k5 hm hs
      rw [Bool.and_eq_true, Bool.and_eq_true, Bool.and_eq_true, Bool.and_eq_true, Bool.and_eq_true] at q
      obtain ⟨⟨⟨⟨⟨q1, q2⟩, q3⟩, q4⟩, q5⟩, q6⟩ := q
      have r1 := beq_iff_eq.mp q1
      have r2 := beq_iff_eq.mp q2
      have r6 := beq_iff_eq.mp q6
      subst r1 r2
      obtain ⟨nm, bs, mro, ns, qn, hd, sn, sub, ab, col, del⟩ := cd
      simp only at hm q3 q5 r6
      have q3' : del = false := by cases del <;> simp at q3 ⊢
      subst hm q3'
      obtain ⟨l⟩ := sl
      simp only at hs
      subst hs
      exact ⟨bm, ns, nm, qn, bs, hd, sn, sub, ab, col, dd, k0, k1, k2, k3, k5, ho, q4, q5, r6⟩
    · cases q
  · cases q
/-- an error made here leaves as X wants -/
def Throws (X : Cx) (E : XK) : Prop := ∀ (pins : List (Addr × Obj)) (σ : St) (H : Hp) (s : Shared) (h' : Heap) (a C : Addr) (args : List Value), Inv X pins σ H s → Heap.MadeExcOf s.heap h' a (.ref C) args → E (.ref C) none H → X.xe (.ref a) { s with heap := h' }
theorem throwE {P : Program} {w : World} {K : PySem.W.Frag} {mg : Str → Option Value} {base : Heap} {N : List Str} {qual : Str} {scope : Scope} {f : Addr} {cd : Value} {A : Around} {outer : List Env} {s0 : Shared} {H0 : Hp} {E : XK} :
    Throws (cxOf (CXE P w) P w K mg base N qual scope f cd A outer s0 H0 E) E := fun _ _ _ _ _ _ _ _ I hx q => throw_here I hx q
def tRaise (C : Addr) (ta : TA) (E : XK) : TS := fun _ σ H => ta σ H fun vs H1 => vs.length ≤ sizeLine ∧ E (.ref C) none H1
theorem a_raise {C : Addr} {ta : TA} {E : XK} {D : Ends} {σ : St} {H : Hp} : tRaise C ta E D σ H = ta σ H fun vs H1 => vs.length ≤ sizeLine ∧ E (.ref C) none H1 := rfl
theorem ps_raise {X : Cx} {E : XK} {x : Str} {C : Addr} {e0 : Expr} {ta : TA} {np cpos pos : Pos} (hc : X.calm = true) (hr : Throws X E) (hg : Gl X x) (hm : X.mg x = some (.ref C)) (hx : PySem.W.excIn X.K C bmV "ValueError.__new__" = true) (ha : PA X [e0] ta)
    (he : starEach [e0] X.env = [(false, eval e0 X.env)] := by rfl) (hpl : (backTo cpos (starEach [e0] X.env)).any (·.1) = false := by rfl) (hd : (x == ("__debug__" : Str)) = false := by decide) :
    PS X (.Raise (some (.Call (.Name x np) [e0] [] cpos)) none pos) (tRaise C ta E) := by
  intro pins s σ H D I h
  obtain ⟨bm, N, nm, qn, bs, hdc, sn, sub, ab, col, dd, k0, k1, k2, k3, k5, lk, tl, ok, ni⟩ := exc_obj hx
  have T0 : OwnTail s.heap bmV bm := PySem.W.tail_of_in I.kIn tl
  refine wpAny_Raise_call_subT (C := C) (nm := nm) (q := qn) (N := N) (bs := bs) (bm := bm) (hdct := hdc) (sn := sn) (sub := sub) (ab := ab) (col := col) (dd := dd) (k0 := k0) (k1 := k1) (k2 := k2) (k3 := k3) (k5 := k5)
    PySem.F.excBase_ValueError (mN := s.heap.nsMap N) (T0.hasType PySem.F.excBase_ValueError.hasBase) (I.ok.hd hc) hpl (PySem.W.nsMap_none_of_in I.kIn ok ni) (ld_glob I hg hm ⟨rfl, ?_⟩ hd)
  have ns0 : s.heap.Ns N (s.heap.nsMap N) := .of_isNs (PySem.W.isNs_of_in I.kIn ok)
  have h2 := ha cpos pins s σ H _ I h
  rw [he] at h2 ⊢
  refine Calls.evalArgs_plain (wpAny_mono h2 (fun vs s2 z => ?_) fun _ _ y => y)
  obtain ⟨xs, H1, I1, r1, q1, q2⟩ := z
  have eN : s.heap.nsMap N = s2.heap.nsMap N := by
    obtain ⟨o, es, ep, ho, hdt, _⟩ := id ns0
    unfold PySem.W.nsOkIn at ok
    split at ok
    · rename_i z
      unfold Heap.nsMap
      rw [I.kIn _ _ z, I1.kIn _ _ z]
    · cases ok
  refine ⟨rfl, by rw [← r1.length]; exact q1, I1.kIn _ _ lk, ?_, PySem.W.tail_of_in I1.kIn tl, fun h' a hm' => hr pins σ H1 s2 h' a C vs I1 hm' q2⟩
  rw [eN]; exact .of_isNs (PySem.W.isNs_of_in I1.kIn ok)
end L2
namespace L2
open PySem PySem.Spec PyProof.Rows
/-! ### try: a call; except C (as n): ..  -/
/-- a caught error's object -/
def IsExc (a C : Addr) : HO := .ext fun h => ∃ oe vs, h.get? a = some oe ∧ oe.cls = .ref C ∧ oe.data = .fields vs
/-- the context of a suite that handles the error at a -/
abbrev Cx.hdl (X : Cx) (a : Addr) : Cx := { X with A := X.A.mark (some (.ref a)), calm := false, xe := fun _ _ => False }
section
variable {X : Cx} {pins : List (Addr × Obj)} {σ : St} {H H' : Hp} {s : Shared} {a : Addr}
theorem Inv.hdl (I : Inv X pins σ H s) (a : Addr) : Inv (X.hdl a) pins σ H s :=
  ⟨⟨I.ok.mod, I.ok.kind, I.ok.glob, I.ok.blt, I.ok.above, I.ok.inj, I.ok.has, I.ok.cab, (fun z => nomatch z), I.ok.frames, I.ok.stk, I.ok.exf, I.ok.bs, I.ok.bsz, I.ok.noex, I.ok.exfs, I.ok.funs, I.ok.frf⟩, I.os, I.bare, I.base, I.loc, I.cell, I.free, I.freeC, I.pin, I.hok, I.len⟩
theorem Inv.unhdl (I : Inv (X.hdl a) pins σ H s) (ok : X.Ok) : Inv X pins σ H s := ⟨ok, I.os, I.bare, I.base, I.loc, I.cell, I.free, I.freeC, I.pin, I.hok, I.len⟩
theorem SP.unhdl {D : Ends} {f : Flow} {s' : Shared} (ok : X.Ok) (h : SP (X.hdl a) pins D f s') : SP X pins D f s' := by
  cases f with
  | next => obtain ⟨σ', H', I, q⟩ := h; exact ⟨σ', H', I.unhdl ok, q⟩
  | brk => obtain ⟨σ', H', I, q⟩ := h; exact ⟨σ', H', I.unhdl ok, q⟩
  | cont => obtain ⟨σ', H', I, q⟩ := h; exact ⟨σ', H', I.unhdl ok, q⟩
  | ret u => obtain ⟨v, σ', H', I, r, q⟩ := h; exact ⟨v, σ', H', I.unhdl ok, r, q⟩
end
/-- the mro of an own error class -/
theorem exc_mro {K : PySem.W.Frag} {C : Addr} {b : Value} {r : Bool} {nm q : Str} {N : Addr} {bs bm : List Value} {hd : Bool} {sn : List Str} {sub : List Value} {ab : Bool} {col : Option Bool} {dd : Option Addr} {k0 k1 k2 k3 k5 : Option Value} {nid : String}
    (lk : K.lookup C = some (excClassObj nm q C N bs bm hd sn sub ab col dd k0 k1 k2 k3 k5 nid)) (e : PySem.W.mroIn K C b = some r) : (Value.ref C :: bm).contains b = r := by
  obtain ⟨cd, a, e2⟩ := Option.bind_eq_some_iff.mp e
  unfold PySem.W.clsIn at a
  rw [lk] at a
  simp only [excClassObj, Option.some.injEq] at a
  subst a
  simpa using e2
theorem matches_up {M : Model} {A : Around} {E : Value → Shared → Prop} {Q : Bool → Shared → Prop} {h : Heap} {g : Array GenState} {d : Drawn} {t : Nat} {os : OsState} {a C D : Addr} {oe : Obj}
    {nm q : Str} {N : Addr} {bs bm : List Value} {hd : Bool} {sn : List Str} {sub : List Value} {ab : Bool} {col : Option Bool} {dd : Option Addr} {k0 k1 k2 k3 k5 : Option Value} {nid : String}
    {nm' q' : Str} {N' : Addr} {bs' bm' : List Value} {hd' : Bool} {sn' : List Str} {sub' : List Value} {ab' : Bool} {col' : Option Bool} {dd' : Option Addr} {k0' k1' k2' k3' k5' : Option Value} {nid' : String}
    (hC : h.get? C = some (excClassObj nm q C N bs bm hd sn sub ab col dd k0 k1 k2 k3 k5 nid)) (hD : h.get? D = some (excClassObj nm' q' D N' bs' bm' hd' sn' sub' ab' col' dd' k0' k1' k2' k3' k5' nid'))
    (ha : h.get? a = some oe) (hcls : oe.cls = .ref C) (hb : (Value.ref D :: bm').contains (.type "BaseException") = true) (hs : (Value.ref C :: bm).contains (.ref D) = true) (hq : Q true ⟨h, g, d, t, os⟩) :
    wpAny M A (excMatches (.ref a) (.ref D)) Q E ⟨h, g, d, t, os⟩ := by
  have f := tc_notTuple
  unfold excMatches
  repeat (first | (with_reducible refine wpAny_loadPart_at ha ?_; rw [hcls]) | with_reducible refine wpAny_loadPart_at hD ?_ | (with_reducible refine wpAny_isSubtype_exc hD ?_; rw [hb]) | (with_reducible refine wpAny_isSubtype_exc hC ?_; rw [hs]) | wp_step)
  exact hq
/-- what is asked of the classes: raised C, caught D -/
structure Catches (K : PySem.W.Frag) (C D : Addr) : Prop where
  c : PySem.W.excIn K C bmV "ValueError.__new__" = true
  d : PySem.W.excIn K D bmV "ValueError.__new__" = true
  base : PySem.W.mroIn K D (.type "BaseException") = some true
  sub : PySem.W.mroIn K C (.ref D) = some true
theorem matches_ok {K : PySem.W.Frag} {C D a : Addr} {oe : Obj} {M : Model} {A : Around} {E : Value → Shared → Prop} {Q : Bool → Shared → Prop} {s : Shared} (k : Catches K C D) (X : K.In s.heap) (ha : s.heap.get? a = some oe) (hcls : oe.cls = .ref C) (hq : Q true s) :
    wpAny M A (excMatches (.ref a) (.ref D)) Q E s := by
  obtain ⟨bm, N, nm, qn, bs, hdc, sn, sub, ab, col, dd, k0, k1, k2, k3, k5, lk, _⟩ := exc_obj k.c
  obtain ⟨bm', N', nm', qn', bs', hdc', sn', sub', ab', col', dd', k0', k1', k2', k3', k5', lk', _⟩ := exc_obj k.d
  obtain ⟨h, g, d, t, os⟩ := s
  exact matches_up (X _ _ lk) (X _ _ lk') ha hcls (exc_mro lk' k.base) (exc_mro lk k.sub) hq
section
variable {X : Cx} {pins : List (Addr × Obj)} {σ : St} {H H' : Hp} {s s2 : Shared} {a t C : Addr} {B : Heap}
/-- the caught error's address is new -/
theorem exc_new (I : Inv X pins σ H s) (fl : Heap.FlyingW B X.stack a (.ref C) (.ref t) s2.heap) (G : Grd X.prog X.w (frs X.stack) H H' s.heap B) (sl : Slt (frs X.stack) s.heap s2.heap) : s.heap.get? a = none ∧ H' a = none := by
  constructor
  · cases q : s.heap.get? a with
    | none => rfl
    | some o =>
      by_cases hb : a ∈ frs X.stack
      · obtain ⟨_, o', ho', hd⟩ := I.stack.mem hb
        rw [q] at ho'; cases ho'
        obtain ⟨sl', e⟩ := sl a o q hb
        obtain ⟨oe, vs, he, _, hdd, _⟩ := fl.first
        rw [e] at he; cases he
        exact absurd hdd (hd vs)
      · obtain ⟨o', e⟩ := G.there a o q hb
        rw [fl.2.1] at e; cases e
  · cases q : H' a with
    | none => rfl
    | some u =>
      obtain ⟨ob, e⟩ := (G.hok a u q).ex
      rw [fl.2.1] at e; cases e
/-- behind the landing: the error is an object like others -/
theorem landed {s3 : Shared} (I : Inv X pins σ H s) (os : s3.os = s.os) (bare : AllBare s3.gens) (fl : Heap.FlyingW B X.stack a (.ref C) (.ref t) s3.heap) (G : Grd X.prog X.w (frs X.stack) H H' s.heap B) (sl : Slt (frs X.stack) s.heap s3.heap) :
    Inv X pins σ (upd H' a (IsExc a C)) s3 := by
  obtain ⟨n1, n2⟩ := exc_new I fl G sl
  have u := G.un fl.1 sl
  have ne : ∀ b o, s.heap.get? b = some o → b ≠ a := fun b o q z => by rw [z, n1] at q; cases q
  have neH : ∀ b o, H' b = some o → b ≠ a := fun b o q z => by rw [z, n2] at q; cases q
  have neH0 : ∀ b o, H b = some o → b ≠ a := fun b o q => by
    obtain ⟨ob, e⟩ := (I.hok b o q).ex
    exact ne b ob e
  refine I.call' (ch := []) os ⟨u.keep, u.slot, fun b o q n hx => by rw [upd_ne (ne b o q)]; exact u.free b o q n hx, u.there, fun b xs q => by rw [upd_ne (neH0 b _ q)]; exact u.tups b xs q, fun b o w q => by rw [upd_ne (neH0 b _ q)]; exact u.frzs b o w q, fun b ps q => by rw [upd_ne (neH0 b _ q)]; exact u.tbls b ps q⟩ (fun b w e => ?_) bare (fun _ z => nomatch z)
  by_cases hb : b = a
  · subst hb
    rw [upd_same] at e; cases e
    obtain ⟨oe, vs, h1, h2, h3, _⟩ := fl.first
    exact ⟨⟨oe, vs, h1, h2, h3⟩, ⟨oe, h1⟩, fun h1 h2 ⟨o1, w1, p, q, r⟩ k => ⟨o1, w1, k _ p, q, r⟩⟩
  · rw [upd_ne hb] at e
    exact (G.hok b w e).stay (fun c v _ q => fl.1 c v q) (fun c q => by rw [upd_ne (neH c _ q)]; exact q) fun c xs q => by rw [upd_ne (neH c _ q)]; exact q
end
/-! ### a call that may raise, its error with the names as they were -/
def PXE (X : Cx) (e : Expr) (t : XK → TE) : Prop := ∀ (pins : List (Addr × Obj)) (s : Shared) (σ : St) (H : Hp) (Q : VK) (E : XK), Inv X pins σ H s → t E σ H Q →
  wpAny (model X.prog X.w) X.A (eval e X.env) (EP X pins σ Q) (fun x s' => ∃ H1 s1, Inv X pins σ H1 s1 ∧ CXE X.prog X.w X.stack H1 s1 E x s') s
def PX (X : Cx) (st : Stmt) (t : XK → TS) : Prop := ∀ (pins : List (Addr × Obj)) (s : Shared) (σ : St) (H : Hp) (D : Ends) (E : XK), Inv X pins σ H s → t E D σ H →
  wpAny (model X.prog X.w) X.A (exec st X.env) (SP X pins D) (fun x s' => ∃ H1 s1, Inv X pins σ H1 s1 ∧ CXE X.prog X.w X.stack H1 s1 E x s') s
section
variable {X : Cx} {k : Nat} {f : Addr} {fd : FuncData} {ps : List Str} {sp : Sp} {x : Str} {p pos : Pos} {e : Expr} {es : List Expr} {t : TA}
theorem px_call (F : FnOk X.prog X.w X.K X.mg X.base (CXE X.prog X.w) k f fd ps sp) (hr : Room k X.A) (hg : Gl X x) (hm : X.mg x = some (.ref f)) (hk : PySem.W.keepIn X.K (.ref f) = true) (hb : Binds X.K fd ps []) (ha : PA X.nox (e :: es) t)
    (hdb : (x == ("__debug__" : Str)) = false := by decide) (he : starEach (e :: es) X.env = (false, eval e X.env) :: starEach es X.env := by rfl) (hpl : (backTo pos (starEach es X.env)).any (·.1) = false := by rfl) :
    PXE X (.Call (.Name x p) (e :: es) [] pos) (fun E => tCall sp [] E t) := by
  intro pins s σ H Q E I h
  refine wpAny_Call_Name_kw (ld_glob I hg hm ?_ hdb)
  refine PySem.W.callWith_K (h₀ := X.base) I.ok.mod.kin hk (wpAny_mono (ha pos pins s σ H _ (I.wish _) h) (fun us s1 ⟨vs, H1, I1, r, q⟩ => ⟨I1.kIn, ?_⟩) fun _ _ z => False.elim z) he hpl
  have I2 : Inv X pins σ H1 s1 := I1.unwish
  have r2 : Vals (vs ++ []) (us ++ []) := r.append .nil
  have hl : (us ++ []).length = ps.length := by rw [← r2.length]; exact F.len _ _ _ _ q
  refine wpAny_call (codeAny_mono (F.run X.A X.stack s1 H1 ⟨us, []⟩ (us ++ []) (vs ++ []) Q E hr I2.env0 (hb s1 us I2.kIn hl) r2 q) fun r s' hq => ?_)
  cases r with
  | error x => exact ⟨H1, s1, I2, hq⟩
  | ok fl =>
    cases fl with
    | ret u => exact I2.after hq
    | next => exact False.elim hq
    | brk => exact False.elim hq
    | cont => exact False.elim hq
theorem px_expr {te : XK → TE} (he : PXE X e te) (hs : swapsWith e none pos.line X.env = pure false := by rfl) : PX X (.Expr e pos) (fun E => tDrop (te E)) := by
  intro pins s σ H D E I h
  exact wpAny_Expr_any (thn (he pins s σ H _ E I h) fun v s1 ⟨y, H1, I1, r1, q1⟩ => ⟨σ, H1, I1, q1⟩) I.quiet hs
theorem px_set {te : XK → TE} {i : Nat} {y : Str} {pos' : Pos} (hN : X.N.Nodup) (hi : X.N[i]? = some y) (hy : Loc X.env.scope y) (he : PXE X e te) (hs : swapsWith e (some (.Name y pos')) pos.line X.env = pure false := by rfl) (hf : X.fn y = true ∨ X.env.scope.names.lookup y = some .local := by first | exact .inl rfl | exact .inr rfl | assumption) :
    PX X (.Assign [.Name y pos'] e pos) (fun E => tAsg (te E) (gName i)) := by
  intro pins s σ H D E I h
  refine wpAny_Assign_Name (thn (he pins s σ H _ E I h) fun v s1 ⟨z, H1, I1, r1, q1⟩ => ?_) hs
  exact store_ok I1 hN hi hy r1 (fun s2 I2 => ⟨_, H1, I2, q1⟩) hf
end
/-! ### the try -/
def tTry (K : PySem.W.Frag) (Dc : Addr) (t : XK → TS) (th : TS) : TS := fun D σ H => t (fun c _ H1 => ∃ C, c = .ref C ∧ Catches K C Dc ∧ ∀ a, H1 a = none → th D σ (upd H1 a (IsExc a C))) D σ H
theorem a_try {K : PySem.W.Frag} {Dc : Addr} {t : XK → TS} {th : TS} {D : Ends} {σ : St} {H : Hp} : tTry K Dc t th D σ H = t (fun c _ H1 => ∃ C, c = .ref C ∧ Catches K C Dc ∧ ∀ a, H1 a = none → th D σ (upd H1 a (IsExc a C))) D σ H := rfl
section
variable {X : Cx} {st b0 : Stmt} {suite : List Stmt} {t : XK → TS} {th : TS} {x n : Str} {Dc : Addr} {np hpos pos : Pos}
theorem ps_try (T1 : Top1 X) (h1 : PX X st t) (hg : Gl X x) (hm : X.mg x = some (.ref Dc)) (hs : ∀ a, PSs (X.hdl a) (b0 :: suite) th) (hd : (x == ("__debug__" : Str)) = false := by decide) :
    PS X (.Try [st] [.ExceptHandler (some (.Name x np)) none (b0 :: suite) hpos] [] [] pos) (tTry X.K Dc t th) := by
  intro pins s σ H D I h
  have hfr : X.A.frames = some (X.env :: X.outer) := by rw [I.ok.frames, T1.st]
  refine wpAny_Try_except (wpAny_mono (wpAny_execs_cons (thn (h1 pins s σ H D _ I h) fun f s1 q => ?_)) (fun _ _ y => y) fun e s2 q => ?_)
  · cases f with
    | next => exact wpAny_execs_nil (wpAny_execs_nil q)
    | ret v => exact q
    | brk => exact q
    | cont => exact q
  · obtain ⟨H1, s1, I1, a, tt, C, H', B, rfl, os, bare, fl, G, sl, Cc, eC, kc, qh⟩ := q
    cases eC
    have fl0 : Heap.FlyingW B (X.env :: X.outer) a (.ref C) (.ref tt) s2.heap := by rw [← T1.st]; exact fl
    refine wpAny_looks_onW hfr T1.fr fl0 fun h4 held4 up4 => ?_
    refine wpAny_landsW held4 fun h5 fl5 up5 => ?_
    have sl5 := (sl.up I1 up4).up I1 up5
    have fl5' : Heap.FlyingW B X.stack a (.ref C) (.ref tt) h5 := by rw [T1.st]; exact fl5
    have J5 : Inv X pins σ (upd H' a (IsExc a C)) { s2 with heap := h5 } := landed (s3 := { s2 with heap := h5 }) I1 os bare fl5' G sl5
    refine wpAny_handleBy_cons (codeAny_handlers_test (ld_glob (X := X.hdl a) (J5.hdl a) hg hm ?_ hd)) (by intro q; cases q)
    obtain ⟨oe, vs, ho, hoc, _⟩ := fl5.first
    refine matches_ok kc J5.kIn ho hoc ?_
    refine codeAny_handlers_suite (lands_againW fl5 fun h6 fl6 up6 => ?_)
    have fl6' : Heap.FlyingW B X.stack a (.ref C) (.ref tt) h6 := by rw [T1.st]; exact fl6
    have J6 : Inv X pins σ (upd H' a (IsExc a C)) { s2 with heap := h6 } := landed (s3 := { s2 with heap := h6 }) I1 os bare fl6' G (sl5.up I1 up6)
    exact wpAny_mono (hs a pins _ σ _ D (J6.hdl a) (qh a (exc_new I1 fl G sl).2)) (fun f s7 z => z.unhdl I.ok) fun _ _ z => False.elim z
end
/-! ### except D as n -/
/-- the name is gone behind the suite -/
theorem gone {X : Cx} {pins : List (Addr × Obj)} {σ : St} {H : Hp} {s : Shared} {M : Model} {A : Around} {E : Value → Shared → Prop} {i : Nat} {n : Str} {pos : Pos} {Q : Unit → Shared → Prop} (I : Inv X pins σ H s) (hN : X.N.Nodup) (hi : X.N[i]? = some n)
    (hl : X.env.scope.names.lookup n = some .local) (h : ∀ s', Inv X pins (σ.set i none) H s' → Q () s') : wpAny M A (do bindName X.env n .none; unbindBehindTheSuite X.env n pos) Q E s := by
  obtain ⟨m, hn, hlk⟩ := id I.loc
  have hp : (X.env.scope.kind == .class || (X.env.scope.kind == .module && X.env.locals != X.env.globals)) = false := by rw [I.ok.kind]; rfl
  refine wpAny_nameGoes_keeps hl hn hp fun h' v hn' hs => h _ ?_
  have cne := I.cne
  have low : ∀ b o, X.s₀.heap.get? b = some o → b ≠ X.env.locals := fun b o e => Nat.ne_of_lt (Nat.lt_of_lt_of_le (Heap.lt_size e) I.ok.above)
  have tracked : HOk X.prog X.w H h' := fun b ob e => by
    refine (I.hok b ob e).stay (fun c w' hc q => (hs.2 c ?_).trans q) (fun _ q => q) fun _ _ q => q
    intro z
    have fr := I.free
    rcases hc with hc | hc
    · rw [← hc, z, fr] at e; cases e
    · rw [z, fr] at hc; cases hc
  refine ⟨I.ok, I.os, I.bare, ⟨fun b o e n hb hx => ?_, fun b o e n hb hx => ?_, I.base.free, fun b o e hx => ?_, I.base.tups, I.base.frzs, I.base.tbls⟩, ⟨_, hn', fun j y v' e1 e2 e3 => ?_⟩, fun y c e => ?_, I.free, I.freeC, fun p hp => ?_, tracked, by rw [List.length_set]; exact I.len⟩
  · exact (hs.2 b (low b o e)).trans (I.base.keep b o e n hb hx)
  · obtain ⟨sl, e1⟩ := I.base.slot b o e n hb hx
    exact ⟨sl, (hs.2 b (low b o e)).trans e1⟩
  · obtain ⟨o', e1⟩ := I.base.there b o e hx
    exact ⟨o', (hs.2 b (low b o e)).trans e1⟩
  · have hij : j ≠ i := fun z => by
      subst z
      rw [List.getElem?_set] at e2
      simp only [if_true] at e2
      split at e2 <;> cases e2
    rw [List.getElem?_set_ne (Ne.symm hij)] at e2
    have hyn : y ≠ n := fun z => hij (nodup_ix hN e1 (by rw [z]; exact hi))
    obtain ⟨u, r, q⟩ := hlk j y v' e1 e2 e3
    refine ⟨u, r, ?_⟩
    rcases q with ⟨k, e⟩ | ⟨k, c, e, z⟩
    · exact .inl ⟨k, by show (if y = n then v else m y) = some u; rw [if_neg hyn]; exact e⟩
    · exact .inr ⟨k, c, e, z.sameBut hs (cne _ c e)⟩
  · obtain ⟨w', z⟩ := I.cell y c e
    exact ⟨w', z.sameBut hs (cne y c e)⟩
  · obtain ⟨e, n, ne, nf, d⟩ := I.pin p hp
    exact ⟨(hs.2 p.1 ne).trans e, n, ne, nf, d⟩
def Ends.drop (D : Ends) (i : Nat) : Ends := { nx := fun σ H => D.nx (σ.set i none) H, rt := D.rt, bk := fun σ H => D.bk (σ.set i none) H, ct := fun σ H => D.ct (σ.set i none) H }
def tTryAs (K : PySem.W.Frag) (Dc : Addr) (i : Nat) (t : XK → TS) (th : TS) : TS := fun D σ H => t (fun c _ H1 => ∃ C, c = .ref C ∧ Catches K C Dc ∧ ∀ a, H1 a = none → th (D.drop i) (σ.set i (some (.ref a))) (upd H1 a (IsExc a C))) D σ H
theorem a_tryAs {K : PySem.W.Frag} {Dc : Addr} {i : Nat} {t : XK → TS} {th : TS} {D : Ends} {σ : St} {H : Hp} : tTryAs K Dc i t th D σ H = t (fun c _ H1 => ∃ C, c = .ref C ∧ Catches K C Dc ∧ ∀ a, H1 a = none → th (D.drop i) (σ.set i (some (.ref a))) (upd H1 a (IsExc a C))) D σ H := rfl
theorem a_drop_nx {D : Ends} {i : Nat} {σ : St} {H : Hp} : (D.drop i).nx σ H = D.nx (σ.set i none) H := rfl
section
variable {X : Cx} {st b0 : Stmt} {suite : List Stmt} {t : XK → TS} {th : TS} {x n : Str} {Dc : Addr} {np hpos pos : Pos} {i : Nat}
theorem ps_tryAs (T1 : Top1 X) (h1 : PX X st t) (hg : Gl X x) (hm : X.mg x = some (.ref Dc)) (hN : X.N.Nodup) (hi : X.N[i]? = some n) (hl : X.env.scope.names.lookup n = some .local) (hs : ∀ a, PSs (X.hdl a) (b0 :: suite) th) (hd : (x == ("__debug__" : Str)) = false := by decide) :
    PS X (.Try [st] [.ExceptHandler (some (.Name x np)) (some n) (b0 :: suite) hpos] [] [] pos) (tTryAs X.K Dc i t th) := by
  intro pins s σ H D I h
  have hfr : X.A.frames = some (X.env :: X.outer) := by rw [I.ok.frames, T1.st]
  refine wpAny_Try_except (wpAny_mono (wpAny_execs_cons (thn (h1 pins s σ H D _ I h) fun f s1 q => ?_)) (fun _ _ y => y) fun e s2 q => ?_)
  · cases f with
    | next => exact wpAny_execs_nil (wpAny_execs_nil q)
    | ret v => exact q
    | brk => exact q
    | cont => exact q
  · obtain ⟨H1, s1, I1, a, tt, C, H', B, rfl, os, bare, fl, G, sl, Cc, eC, kc, qh⟩ := q
    cases eC
    have fl0 : Heap.FlyingW B (X.env :: X.outer) a (.ref C) (.ref tt) s2.heap := by rw [← T1.st]; exact fl
    refine wpAny_looks_onW hfr T1.fr fl0 fun h4 held4 up4 => ?_
    refine wpAny_landsW held4 fun h5 fl5 up5 => ?_
    have sl5 := (sl.up I1 up4).up I1 up5
    have fl5' : Heap.FlyingW B X.stack a (.ref C) (.ref tt) h5 := by rw [T1.st]; exact fl5
    have J5 : Inv X pins σ (upd H' a (IsExc a C)) { s2 with heap := h5 } := landed (s3 := { s2 with heap := h5 }) I1 os bare fl5' G sl5
    refine wpAny_handleBy_cons (codeAny_handlers_test (ld_glob (X := X.hdl a) (J5.hdl a) hg hm ?_ hd)) (by intro q; cases q)
    obtain ⟨oe, vs, ho, hoc, _⟩ := fl5.first
    refine matches_ok kc J5.kIn ho hoc ?_
    refine codeAny_handlers_suite_as (lands_againW fl5 fun h6 fl6 up6 => ?_)
    have fl6' : Heap.FlyingW B X.stack a (.ref C) (.ref tt) h6 := by rw [T1.st]; exact fl6
    have J6 : Inv X pins σ (upd H' a (IsExc a C)) { s2 with heap := h6 } := landed (s3 := { s2 with heap := h6 }) I1 os bare fl6' G (sl5.up I1 up6)
    refine store_ok (X := X.hdl a) (J6.hdl a) hN hi (.inl hl) (v := .ref a) rfl (fun s7 J7 => ?_) (.inr hl)
    refine wpAny_mono (hs a pins s7 _ _ (D.drop i) J7 (qh a (exc_new I1 fl G sl).2)) (fun f s8 z => ?_) fun _ _ z => False.elim z
    cases f with
    | next => obtain ⟨σ', H3, I3, q⟩ := z; exact gone (I3.unhdl I.ok) hN hi hl fun s9 I9 => ⟨_, H3, I9, q⟩
    | brk => obtain ⟨σ', H3, I3, q⟩ := z; exact gone (I3.unhdl I.ok) hN hi hl fun s9 I9 => ⟨_, H3, I9, q⟩
    | cont => obtain ⟨σ', H3, I3, q⟩ := z; exact gone (I3.unhdl I.ok) hN hi hl fun s9 I9 => ⟨_, H3, I9, q⟩
    | ret u => obtain ⟨v, σ', H3, I3, r, q⟩ := z; exact gone (I3.unhdl I.ok) hN hi hl fun s9 I9 => ⟨v, _, H3, I9, r, q⟩
end
end L2
namespace L2
open PySem PySem.Spec PyProof.Rows
/-! ### xs[lo:hi:step] of a list: some of its items -/
theorem vals_pick {xs : List V} {us : List Value} (r : Vals xs us) : ∀ l : List Nat, Vals (l.filterMap fun i => xs[i]?) (l.filterMap fun i => us[i]?)
  | [] => .nil
  | i :: l => by
    rw [List.filterMap_cons, List.filterMap_cons]
    cases q : xs[i]? with
    | none => rw [r.none_of q]; exact vals_pick r l
    | some x =>
      obtain ⟨u, hu, ru⟩ := r.get q
      rw [hu]
      exact .cons ru (vals_pick r l)
theorem mem_pick {xs : List V} {l : List Nat} {y : V} (h : y ∈ l.filterMap fun i => xs[i]?) : y ∈ xs := by
  obtain ⟨i, _, e⟩ := List.mem_filterMap.mp h
  exact List.mem_of_getElem? e
section
variable {X : Cx} {e st : Expr} {te : TE} {lo hi : Option Expr} {tl th ts : TO} {pos p2 : Pos}
def tSl3 (K : PySem.W.Frag) (te : TE) (tl th ts : TO) : TE := fun σ H Q => te σ H fun x H1 => tl σ H1 fun l H2 => th σ H2 fun u H3 => ts σ H3 fun k H4 => ∃ a xs, x = .ref a ∧ k ≠ some 0 ∧ SqL K H4 a xs ∧
  ∀ ys p, (∀ y ∈ ys, y ∈ xs) → ys.length ≤ xs.length → H4 p = none → Q (.ref p) (upd H4 p (.lst ys))
theorem pe_slice3 (he : PE X e te) (hl : PO X lo tl) (hu : PO X hi th) (hk : PO X (some st) ts) : PE X (.Subscript e (.Slice lo hi (some st) p2) pos) (tSl3 X.K te tl th ts) := by
  intro pins s σ H Q I h
  refine Subscript_ (thn (he pins s σ H _ I h) fun v s1 ⟨x, H1, I1, r1, q1⟩ => ?_)
  refine wpAny_Slice (thn (hl pins s1 σ H1 _ I1 q1) fun vl s2 ⟨l, H2, I2, pl, q2⟩ => thn (hu pins s2 σ H2 _ I2 q2) fun vu s3 ⟨u, H3, I3, pu, q3⟩ => thn (hk pins s3 σ H3 _ I3 q3) fun vk s4 ⟨k, H4, I4, pk, q4⟩ => ?_)
  obtain ⟨a, xs, rfl, hk0, hx, q⟩ := q4
  cases r1
  have I5 : Inv X pins σ H4 { s4 with heap := s4.heap.push { cls := .type "slice", data := .fields #[vl, vu, vk] } } := I4.kept (t' := s4.toks) fun b ob q => Heap.get?_push_of_some _ q
  obtain ⟨its, r, ht, hz⟩ := I5.list hx
  have hlen := r.length
  show wpAny (model X.prog X.w) X.A (subscriptTail e (.Slice lo hi (some st) p2) (.ref a) (.ref s4.heap.objs.size)) (EP X pins σ Q) X.xe { s4 with heap := s4.heap.push { cls := .type "slice", data := .fields #[vl, vu, vk] } }
  refine tail_any (ops := [.ref a, .ref s4.heap.objs.size]) ht.isList.typeIs slot_list_getitem.lookup ?_ (by with_unfolding_all rfl)
  refine wpAny_getItem_list_slice ht.isList (Heap.IsSliceOf.new ..) pl pu pk hk0 ?_ (by rw [List.size_toArray] <;> omega)
  have ep : ∃ ns : List Nat, slicePick its.toArray l u k = (ns.filterMap fun i => its[i]?).toArray := by
    unfold slicePick
    exact ⟨_, by simp <;> rfl⟩
  obtain ⟨ns, ep⟩ := ep
  have le := slicePick_size_le its.toArray l u k
  rw [ep] at le ⊢
  have rp := vals_pick r ns
  have lp : (ns.filterMap fun i => xs[i]?).length ≤ xs.length := by
    have := rp.length
    simp only [List.size_toArray] at le
    omega
  refine ⟨.ref _, _, I5.laid (t' := s4.toks) (o := .lst (ns.filterMap fun i => xs[i]?)) (fun b ob q => Heap.get?_push_of_some _ q) (Nat.le_refl _) ?_, rfl, q _ _ (fun y hy => mem_pick hy) lp (I5.hok.fresh (Nat.le_refl _))⟩
  exact ⟨Nat.le_trans lp hz, _, 0, rp, Heap.get?_push_size _ rfl⟩
end
theorem a_sl3 {K : PySem.W.Frag} {te : TE} {tl th ts : TO} {σ : St} {H : Hp} {Q : VK} : tSl3 K te tl th ts σ H Q = te σ H fun x H1 => tl σ H1 fun l H2 => th σ H2 fun u H3 => ts σ H3 fun k H4 => ∃ a xs, x = .ref a ∧ k ≠ some 0 ∧ SqL K H4 a xs ∧
  ∀ ys p, (∀ y ∈ ys, y ∈ xs) → ys.length ≤ xs.length → H4 p = none → Q (.ref p) (upd H4 p (.lst ys)) := rfl
theorem ints_pick {ns : List Int} : ∀ {ys : List V}, (∀ y ∈ ys, y ∈ ns.map V.int) → ∃ zs : List Int, ys = zs.map V.int ∧ ∀ z ∈ zs, z ∈ ns
  | [], _ => ⟨[], rfl, fun _ h => nomatch h⟩
  | y :: ys, h => by
    obtain ⟨zs, e, hz⟩ := ints_pick fun y' hy => h y' (List.mem_cons_of_mem _ hy)
    obtain ⟨z, h1, rfl⟩ := List.mem_map.mp (h y List.mem_cons_self)
    refine ⟨z :: zs, by rw [e]; rfl, fun w hw => ?_⟩
    rcases List.mem_cons.mp hw with rfl | hw
    · exact h1
    · exact hz w hw
/-! ### enumerate, named -/
theorem lp_enum {K : PySem.W.Frag} {a : Addr} {xs : List V} {g : TG} {tb : TS} {D : Ends} {σ : St} {H : Hp} (Pv : Nat → St → Hp → Prop) (h0 : Pv 0 σ H) (hl : ∀ i σ H, i ≤ xs.length → Pv i σ H → SqL K H a xs)
    (hs : ∀ i v p σ H, xs[i]? = some v → Pv i σ H → H p = none → g (.ref p) σ (upd H p (.tup [.int i, v])) fun σ2 H2 => tb { D with nx := Pv (i + 1), ct := Pv (i + 1), bk := D.nx } σ2 H2) (hd : ∀ σ H, Pv xs.length σ H → D.nx σ H) : Loop (Ite K a) g tb D σ H := for_enum Pv h0 hl hs hd
end L2
namespace L2
open PySem PySem.Spec PyProof.Rows
/-! ### the least and the greatest of a list of ints, `is` of truths, a text with one number -/
theorem ints_are : ∀ {ns : List Int} {us : List Value}, Vals (ns.map V.int) us → IntsAre us ns
  | [], us, h => by
    cases h; exact .nil
  | n :: ns, us, h => by
    cases h with
    | cons r rr =>
      obtain ⟨t, rfl⟩ := r
      exact .cons n t (ints_are rr)
theorem at_best {zs : Array (Int × Tok)} {ns : List Int} (e : ns = zs.toList.map (·.1)) {j : Nat} (hj : j < zs.size) : numAt zs j ∈ ns := by
  rw [e, numAt_eq]
  exact PySem.getD_mem (by simpa using hj)
theorem of_best {zs : Array (Int × Tok)} {ns : List Int} (e : ns = zs.toList.map (·.1)) {x : Int} (hx : x ∈ ns) : ∃ j, j < zs.size ∧ numAt zs j = x := by
  rw [e] at hx
  obtain ⟨i, hi, h⟩ := mem_getD hx
  exact ⟨i, by simpa using hi, by rw [numAt_eq]; exact h⟩
theorem call_minL {X : Cx} (hc : X.calm = true) : CallR X (.builtin "min") (fun xs H Q => ∃ p ns, xs = [.ref p] ∧ SqL X.K H p (ns.map V.int) ∧ ns ≠ [] ∧ ∀ M, M ∈ ns → (∀ a, a ∈ ns → M ≤ a) → Q (.int M) H) := by
  intro pins s σ H xs us Q I r h
  obtain ⟨p, ns, rfl, hq, hne, q⟩ := h
  obtain ⟨u, rfl, rx⟩ := vals1 r
  cases rx
  obtain ⟨its, r', pl, hz⟩ := I.list hq
  have hi := ints_are r'
  obtain ⟨zs, e⟩ := hi.allInts.items
  have hns : ns = zs.toList.map (·.1) := by rw [← hi.numsOf, ← nums_intItems, ← e]
  have hsz : 0 < zs.size := by
    have h3 := List.length_pos_iff.mpr hne
    rw [hns, List.length_map, Array.length_toList] at h3; exact h3
  have hl := pl.isList
  rw [e] at hl
  refine min_intList (I.ok.hd hc) hl hsz fun v h' tk hv hk => ?_
  obtain ⟨tv, rfl⟩ := intItems_at hv
  obtain ⟨g1, g2⟩ := argBest_lt (numAt zs) (zs.size - 1)
  refine ⟨.int _, H, I.kept hk, ⟨tv, rfl⟩, q _ (at_best hns (by omega)) fun x hx => ?_⟩
  obtain ⟨i, hi, rfl⟩ := of_best hns hx
  exact g2 i (by omega)
theorem call_maxL {X : Cx} (hc : X.calm = true) : CallR X (.builtin "max") (fun xs H Q => ∃ p ns, xs = [.ref p] ∧ SqL X.K H p (ns.map V.int) ∧ ns ≠ [] ∧ ∀ M, M ∈ ns → (∀ a, a ∈ ns → a ≤ M) → Q (.int M) H) := by
  intro pins s σ H xs us Q I r h
  obtain ⟨p, ns, rfl, hq, hne, q⟩ := h
  obtain ⟨u, rfl, rx⟩ := vals1 r
  cases rx
  obtain ⟨its, r', pl, hz⟩ := I.list hq
  have hi := ints_are r'
  obtain ⟨zs, e⟩ := hi.allInts.items
  have hns : ns = zs.toList.map (·.1) := by rw [← hi.numsOf, ← nums_intItems, ← e]
  have hsz : 0 < zs.size := by
    have h3 := List.length_pos_iff.mpr hne
    rw [hns, List.length_map, Array.length_toList] at h3; exact h3
  have hl := pl.isList
  rw [e] at hl
  refine max_intList (I.ok.hd hc) hl hsz fun v h' tk hv hk => ?_
  obtain ⟨tv, rfl⟩ := intItems_at hv
  obtain ⟨g1, g2⟩ := argBest_gt (numAt zs) (zs.size - 1)
  refine ⟨.int _, H, I.kept hk, ⟨tv, rfl⟩, q _ (at_best hns (by omega)) fun x hx => ?_⟩
  obtain ⟨i, hi, rfl⟩ := of_best hns hx
  exact g2 i (by omega)
theorem op_isB {X : Cx} : OpR X (compareOp .Is) (fun x y H Q => ∃ b c, x = .bl b ∧ y = .bl c ∧ Q (.bl (b == c)) H) := by
  intro pins s σ H x y v u Q I rx ry h
  obtain ⟨b, c, rfl, rfl, q⟩ := h
  cases rx
  cases ry
  exact is_bool ⟨.bl _, H, I, rfl, q⟩
def tFst (x : Str) (te : TE) : TE := fun σ H Q => (Str.empty ++ x).length ≤ sizeLine ∧ te σ H fun v H1 => ∃ i, v = .int i ∧ i.natAbs.log2 < 1920 ∧ (Str.empty ++ x ++ Str.ofString (toString i)).length ≤ sizeLine ∧ Q (.str (Str.empty ++ x ++ Str.ofString (toString i))) H1
theorem a_fst {x : Str} {te : TE} {σ : St} {H : Hp} {Q : VK} : tFst x te σ H Q = ((Str.empty ++ x).length ≤ sizeLine ∧ te σ H fun v H1 => ∃ i, v = .int i ∧ i.natAbs.log2 < 1920 ∧ (Str.empty ++ x ++ Str.ofString (toString i)).length ≤ sizeLine ∧ Q (.str (Str.empty ++ x ++ Str.ofString (toString i))) H1) := rfl
theorem pe_fst {X : Cx} {x : Str} {j : Nat} {e : Expr} {te : TE} {p1 p2 p3 : Pos} (he : PE X e te) (hev : evalEach [.Constant (.str x) j p1, .FormattedValue e (-1) none p2] X.env = [eval (.Constant (.str x) j p1) X.env, eval (.FormattedValue e (-1) none p2) X.env] := by rfl) :
    PE X (.JoinedStr [.Constant (.str x) j p1, .FormattedValue e (-1) none p2] p3) (tFst x te) := by
  intro pins s σ H Q I h
  refine wpAny_JoinedStr ?_
  rw [hev]
  refine Calls.Constant_str ⟨x, _, rfl, ?_⟩
  obtain ⟨l1, hx⟩ : _ ∧ _ := h
  have h2 := he pins { s with toks := s.toks + 1 } σ H _ (I.tok _) hx
  refine ⟨l1, ?_⟩
  refine wpAny_FormattedValue_plain (wpAny_mono h2 (fun v s₁ z => ?_) fun _ _ y => y)
  obtain ⟨v', H1, I1, rv, i, rfl, hd, l2, q⟩ := z
  obtain ⟨t, rfl⟩ := rv
  exact wpAny_formatField_int hd ⟨_, _, rfl, l2, l2, .str _, H1, (I1.tok _).tok _, ⟨_, rfl⟩, q⟩
end L2
namespace L2
open PySem PySem.Spec PyProof.Rows
/-! ### a list comprehension of one clause with two names -/
/-- its block: the two variables in slots 0 and 1, the captured names behind them -/
@[reducible] def blk2 (X : Cx) (x z : Str) (fv : List (Nat × Str)) (scope : Scope) (cl : List (Str × Addr)) (C : Addr) (s : Shared) (H : Hp) (fp : List Addr) : Cx where
  prog := X.prog
  w := X.w
  K := X.K
  mg := X.mg
  base := X.base
  A := X.A
  N := x :: z :: fv.map (·.2)
  s₀ := s
  H₀ := H
  env := compEnvC scope cl C X.env
  outer := X.stack
  stack := X.stack
  ex := fp
  fn := fun _ => false
  calm := X.calm
  pn := []
  xe := fun _ _ => False
/-- the names' values in the block -/
def bst2 (fv : List (Nat × Str)) (σ : St) (v v2 : Option V) : St := v :: v2 :: fv.map fun p => (σ[p.1]?).getD none
/-- what its names must be -/
structure BlkOk2 (X : Cx) (x z : Str) (fv : List (Nat × Str)) (scope : Scope) (cl : List (Str × Addr)) : Prop where
  clos : closureFor scope X.env = pure cl
  nocell : ∀ y ∈ scope.names, y.2 ≠ .cell
  kind : scope.kind = .function
  names : ∀ y ∈ scope.names, y.2 = .local → scope.names.lookup y.1 = some .local
  here : scope.names.lookup x = some .local
  here2 : scope.names.lookup z = some .local
  nd : (x :: z :: fv.map (·.2)).Nodup
  sub : ∀ y c, cl.lookup y = some c → X.env.cells.lookup y = some c
  has : ∀ y, ((relabel scope X.env).names.lookup y = some .cell ∨ (relabel scope X.env).names.lookup y = some .free) → ∃ c, cl.lookup y = some c
  fvs : ∀ p ∈ fv, X.N[p.1]? = some p.2 ∧ (X.env.scope.names.lookup p.2 = some .cell ∨ X.env.scope.names.lookup p.2 = some .free) ∧
    ((relabel scope X.env).names.lookup p.2 = some .cell ∨ (relabel scope X.env).names.lookup p.2 = some .free) ∧ ∃ c, cl.lookup p.2 = some c

section
variable {X : Cx} {elt iter : Expr} {x z : Str} {px pz : Pos} {tk : Nat} {tpos : Pos} {fv : List (Nat × Str)} {scope : Scope} {cl : List (Str × Addr)} {pos : Pos} {te : TE} {wi : TI}
theorem blk_ok2 {pins : List (Addr × Obj)} {σ : St} {H : Hp} {s : Shared} {fp : List Addr} {C : Addr} (B : BlkOk2 X x z fv scope cl) (I : Inv X pins σ H s) (hf : ∀ b ∈ fp, FpOk X pins H b) (hC : s.heap.objs.size ≤ C) (hfC : ∀ b ∈ fp, b ≠ C) :
    (blk2 X x z fv scope cl C s H fp).Ok where
  mod := I.ok.mod
  kind := B.kind
  glob := I.ok.glob
  blt := I.ok.blt
  above := hC
  inj := fun y y' c h1 h2 => I.ok.inj y y' c (B.sub y c h1) (B.sub y' c h2)
  has := fun y hy => B.has y hy
  cab := fun y c h => nomatch h
  hd := I.ok.hd
  frames := I.ok.frames
  stk := .inl rfl
  exf := fun b hb => ⟨hfC b hb, fun y c e => (hf b hb).2.2.2.2.1 y c (B.sub y c e)⟩
  bs := I.bs
  bsz := Nat.le_trans I.ok.bsz I.sz
  noex := fun b o e hb => by
    obtain ⟨_, _, _, f3, _⟩ := hf b hb
    rcases f3 with z' | z'
    · exact I.ok.noex b o e z'
    · exact absurd (Nat.lt_of_lt_of_le (Heap.lt_size e) (Nat.le_trans I.ok.bsz z')) (Nat.lt_irrefl _)
  exfs := fun b hb hs => by
    obtain ⟨_, f1, f2, _⟩ := hf b hb
    rcases List.mem_cons.mp (I.stkSub b hs) with z | z
    · exact f1 z
    · exact f2 z
  funs := I.stack
  frf := I.stkFree

theorem bst_get2 {fv : List (Nat × Str)} {σ : St} {o o2 : Option V} {j : Nat} {y : Str} {v : V} (h1 : (x :: z :: fv.map (·.2))[j + 2]? = some y) (h2 : (bst2 fv σ o o2)[j + 2]? = some (some v)) : ∃ p ∈ fv, p.2 = y ∧ σ[p.1]? = some (some v) := by
  have e1 : (fv.map (·.2))[j]? = some y := by simpa using h1
  have e2 : (fv.map fun p => (σ[p.1]?).getD none)[j]? = some (some v) := by simpa [bst2] using h2
  rw [List.getElem?_map] at e1 e2
  cases q : fv[j]? with
  | none => rw [q] at e1; cases e1
  | some p =>
    rw [q] at e1 e2
    refine ⟨p, List.mem_of_getElem? q, Option.some.inj e1, ?_⟩
    have e3 : (σ[p.1]?).getD none = some v := Option.some.inj e2
    cases r : σ[p.1]? with
    | none => rw [r] at e3; cases e3
    | some w => rw [r] at e3; exact congrArg some e3

/-- the block's start, behind the new namespace -/
theorem blk_start2 {pins : List (Addr × Obj)} {σ : St} {H : Hp} {s s4 : Shared} {fp : List Addr} {C : Addr} {m : Str → Option Value} (B : BlkOk2 X x z fv scope cl) (I : Inv X pins σ H s) (hf : ∀ b ∈ fp, FpOk X pins H b) (hC : C = s.heap.objs.size)
    (hfC : ∀ b ∈ fp, b ≠ C) (os : s4.os = s.os) (gens : s4.gens = s.gens) (keep : ∀ b o, s.heap.get? b = some o → s4.heap.get? b = some o) (ns : s4.heap.Ns C m) :
    Inv (blk2 X x z fv scope cl C s H fp) [] (bst2 fv σ none none) H s4 := by
  subst hC
  refine ⟨blk_ok2 B I hf (Nat.le_refl _) hfC, os, by rw [gens]; exact I.bare, Un.kept keep, ⟨m, ns, fun i y v h1 h2 h3 => ?_⟩, fun y c e => ?_, I.hok.fresh (Nat.le_refl _), fun y c e => I.freeC y c (B.sub y c e), fun p hp => absurd (show p ∈ ([] : List (Addr × Obj)) from hp) (by simp), I.hok.kept keep, by simp [bst2]⟩
  · cases i with
    | zero => simp [bst2] at h2
    | succ j =>
     cases j with
     | zero => simp [bst2] at h2
     | succ j =>
      obtain ⟨p, hp, rfl, hv⟩ := bst_get2 h1 h2
      obtain ⟨hN, hk, hk2, c, hc⟩ := B.fvs p hp
      obtain ⟨m0, _, hl⟩ := I.loc
      have vis : Vis X.env.scope p.2 := hk.elim (fun z => .inr (.inl z)) fun z => .inr (.inr z)
      obtain ⟨u, r, l⟩ := hl p.1 p.2 v hN hv vis
      refine ⟨u, r, .inr ⟨hk2, c, hc, ?_⟩⟩
      rcases l with ⟨z, _⟩ | ⟨_, c', hc', o, ho, hd⟩
      · have z' : X.env.scope.names.lookup p.2 = some .local := z
        rcases hk with k | k <;> (rw [k] at z'; cases z')
      · have := B.sub p.2 c hc
        rw [hc'] at this; cases this
        exact ⟨o, keep _ o ho, hd⟩
  · obtain ⟨v, o, ho, hd⟩ := I.cell y c (B.sub y c e)
    exact ⟨v, o, keep c o ho, hd⟩

/-- the block's two variables are stored -/
theorem blk_store2 {s : Shared} {H0 : Hp} {fp : List Addr} {C : Addr} (hc : X.calm = true) (B : BlkOk2 X x z fv scope cl) :
    PG (blk2 X x z fv scope cl C s H0 fp) (.Tuple [.Name x px, .Name z pz] tk tpos) (gTup X.K 2 (gCons (gName 0) (gCons (gName 1) gNil))) := by
  have h1 : (relabel scope X.env).names.lookup x = some .local := lookup_relabel_local B.here
  have h2 : (relabel scope X.env).names.lookup z = some .local := lookup_relabel_local B.here2
  exact pg_tup (X := blk2 X x z fv scope cl C s H0 fp) hc (pgs_cons (pg_name (i := 0) B.nd rfl (.inl h1) (.inr h1)) (pgs_cons (pg_name (i := 1) B.nd rfl (.inl h2) (.inr h2)) pgs_nil))
/-- the whole block, from the state behind pyIter -/
theorem blk_run2 {pins : List (Addr × Obj)} {σ : St} {H : Hp} {s2 : Shared} {it : Addr} {fp : List Addr} {tn : Nat → Heap → Prop} {J : It} {Q : VK} {E : Value → Shared → Prop} {RR : Value → Addr → Result → Shared → Prop}
    (hc : X.calm = true) (B : BlkOk2 X x z fv scope cl) (he : ∀ C s H fp, PE (blk2 X x z fv scope cl C s H fp) elt te) (I : Inv X pins σ H s2) (T : Turn X.prog X.w X.K (.Tuple [.Name x px, .Name z pz] tk tpos) J fp it tn) (st : tn 0 s2.heap) (hf : ∀ b ∈ fp, FpOk X pins H b)
    (rd : ∀ D, H D = none → ∃ W : Nat → Nat → Hp → Prop, (∃ m, W 0 m (upd H D (.lst []))) ∧ ∀ i m H, W i m H →
      (J.stop i H ∧ Q (.ref D) H) ∨ (J.go i H ∧ ∃ N : Hp → Prop, (∀ H', N H' → ∃ m', m' < m ∧ W (i + 1) m' H') ∧ ∀ v H', J.yld i H v H' → ∃ q x1 x2, v = .ref q ∧ SqT X.K H' q [x1, x2] ∧ te (bst2 fv σ (some x1) (some x2)) H' fun y H2 => ∃ ys, H2 D = some (.lst ys) ∧ ys.length < sizeLine ∧ N (upd H2 D (.lst (ys ++ [y])))))
    (hRR : ∀ D C s' H' m', Inv X pins σ H' s' → FpOk X pins H' C → s'.heap.Ns C m' → Q (.ref D) H' → RR (.ref D) C (.ok .next) s') :
    wpAny (model X.prog X.w) X.A (newList []) (fun acc s₃ => wpAny (model X.prog X.w) X.A (newFunctionEnv scope X.env.globals cl [] X.env.qual none .none (some X.env)) (fun cenv s₄ =>
      codeAny (model X.prog X.w) X.A (.compStart (.ListComp elt [⟨(.Tuple [.Name x px, .Name z pz] tk tpos), iter, [], 0⟩] scope pos) 0 (.ref it) acc { cenv with scope := relabel scope X.env }) (RR acc cenv.locals) s₄) E s₃) E s2 := by
  refine wpAny_newObj_type ?_ (by show 0 ≤ sizeLine; exact Nat.zero_le _)
  have hD : H s2.heap.objs.size = none := I.hok.fresh (Nat.le_refl _)
  have I3 := I.lnew (ys := []) (its := []) (t' := s2.toks) .nil (Nat.zero_le _)
  generalize hs3 : ({ s2 with heap := s2.heap.push { cls := .type "list", data := .seq ([] : List Value).toArray }, toks := s2.toks } : Shared) = s3 at I3
  have sz3 : s3.heap.objs.size = s2.heap.objs.size + 1 := by rw [← hs3]; exact Heap.size_push ..
  have up3 : ∀ b o, s2.heap.get? b = some o → s3.heap.get? b = some o := fun b o e => by rw [← hs3]; exact Heap.get?_push_of_some _ e
  have hf3 : ∀ b ∈ fp, FpOk X pins (upd H s2.heap.objs.size (.lst [])) b := fun b hb => by
    obtain ⟨f0, r⟩ := hf b hb
    refine ⟨?_, r⟩
    obtain ⟨o, e, _⟩ := T.obj 0 _ st b hb
    rw [upd_ne (Nat.ne_of_lt (Heap.lt_size e))]; exact f0
  have ltf : ∀ b ∈ fp, b < s2.heap.objs.size := fun b hb => by
    obtain ⟨o, e, _⟩ := T.obj 0 _ st b hb
    exact Heap.lt_size e
  have st3 : tn 0 s3.heap := T.keep 0 _ _ st fun b _ o e => up3 b o e
  obtain ⟨W, ⟨m0, w0⟩, turn⟩ := rd _ hD
  refine wpAny_newFunctionEnv B.nocell (by intro y hy; simp at hy) (fun h₁ hns₁ hsb₁ => ?_) B.kind
  have hfC : ∀ b ∈ fp, b ≠ s3.heap.objs.size := fun b hb => Nat.ne_of_lt (by rw [sz3]; exact Nat.lt_succ_of_lt (ltf b hb))
  have up4 : ∀ b o, s3.heap.get? b = some o → h₁.get? b = some o := fun b o e => hsb₁.extBut b o (Nat.ne_of_lt (Heap.lt_size e)) (Heap.get?_push_of_some _ e)
  generalize hs4 : ({ s3 with heap := h₁, toks := s3.toks + ([] : List (Str × Value)).length } : Shared) = s4
  have h4 : s4.heap = h₁ := by rw [← hs4]
  have I4 : Inv (blk2 X x z fv scope cl s3.heap.objs.size s3 (upd H s2.heap.objs.size (.lst [])) fp) [] (bst2 fv σ none none) (upd H s2.heap.objs.size (.lst [])) s4 :=
    blk_start2 B I3 hf3 rfl hfC (by rw [← hs4]) (by rw [← hs4]) (fun b o e => by rw [h4]; exact up4 b o e) (by rw [h4]; exact hns₁)
  have st4 : tn 0 s4.heap := by rw [h4]; exact T.keep 0 _ _ st3 fun b _ o e => up4 b o e
  -- what stays true of the iterator's objects
  have stat : ∀ {H' : Hp}, (∀ b ∈ fp, H' b = none) → ∀ b ∈ fp, FpOk (blk2 X x z fv scope cl s3.heap.objs.size s3 (upd H s2.heap.objs.size (.lst [])) fp) [] H' b := fun {H'} hn b hb => by
    obtain ⟨_, f1, f2, f3, f4, f5⟩ := hf b hb
    refine ⟨hn b hb, hfC b hb, fun z' => ?_, .inl hb, fun y c e => f4 y c (B.sub y c e), fun p hp => absurd (show p ∈ ([] : List (Addr × Obj)) from hp) (by simp)⟩
    rcases List.mem_cons.mp (I.stkSub b z') with q | q
    · exact f1 q
    · exact f2 q
  have loop : codeAny (model X.prog X.w) X.A (.compLoop (.ListComp elt [⟨(.Tuple [.Name x px, .Name z pz] tk tpos), iter, [], 0⟩] scope pos) 0 (.ref it) (.ref s2.heap.objs.size) (compEnvC scope cl s3.heap.objs.size X.env)) (RR (.ref s2.heap.objs.size) s3.heap.objs.size) s4 := by
    refine compLoop_one (fun n s' => ∃ i H' o o2, Inv (blk2 X x z fv scope cl s3.heap.objs.size s3 (upd H s2.heap.objs.size (.lst [])) fp) [] (bst2 fv σ o o2) H' s' ∧ tn i s'.heap ∧ (∀ b ∈ fp, H' b = none) ∧ W i n H') ?_ m0
      ⟨0, _, none, none, I4, st4, fun b hb => (hf3 b hb).1, w0⟩
    rintro n s5 E' ⟨i, H5, o5, o6, I5, st5, fr5, w5⟩
    rcases turn i n H5 w5 with ⟨stop, q⟩ | ⟨go, N, hN, step⟩
    · refine thn (T.done (blk2 X x z fv scope cl s3.heap.objs.size s3 (upd H s2.heap.objs.size (.lst [])) fp) rfl rfl rfl hc i [] s5 _ H5 _ I5 (stat fr5) st5 stop) fun r s6 ⟨hr, I6⟩ => ?_
      subst hr
      obtain ⟨m6, hn6, _⟩ := I6.loc
      have un : Un (frs X.stack) fp H H5 s2.heap s6.heap := by
        have u1 : Un (frs X.stack) fp H (upd H s2.heap.objs.size (.lst [])) s2.heap s3.heap := Un.laid up3 (Nat.le_refl _) hD
        exact u1.trans I6.base
      have J6 : Inv X pins σ H5 s6 := by
        refine I.call' ?_ un I6.hok I6.bare fun b hb => ?_
        · have := I6.os
          rw [show (blk2 X x z fv scope cl s3.heap.objs.size s3 (upd H s2.heap.objs.size (.lst [])) fp).s₀.os = s2.os by rw [← hs3]] at this
          exact this
        · obtain ⟨_, f1, f2, f3, f4, f5⟩ := hf b hb
          exact ⟨f3, f1, f4, f5⟩
      refine hRR _ _ s6 H5 m6 J6 ?_ hn6 q
      exact I3.fpOk (Nat.le_refl _) I6.free
    · refine thn (T.item (blk2 X x z fv scope cl s3.heap.objs.size s3 (upd H s2.heap.objs.size (.lst [])) fp) rfl rfl rfl hc i [] s5 _ H5 _ I5 (stat fr5) st5 go) fun r s6 ⟨u, hr, h6⟩ => ?_
      subst hr
      refine thn h6 fun _ s7 ⟨v, H7, I7, r7, y7, st7, fr7⟩ => ?_
      have I7' := I7.pinned (stat fr7) (T.obj _ _ st7)
      obtain ⟨q7, x1, x2, ev, sq7, rd7⟩ := step v H7 y7
      refine wpAny_mono (blk_store2 (px := px) (pz := pz) (tk := tk) (tpos := tpos) hc B _ s7 _ H7 v u (fun σ' H' => σ' = bst2 fv σ (some x1) (some x2) ∧ H' = H7) I7' r7 ⟨q7, [x1, x2], ev, sq7, rfl, x1, [x2], rfl, x2, [], rfl, rfl, rfl, rfl⟩) (fun _ s8 ⟨σ8, H8, I8, e8a, e8b⟩ => ?_) fun _ _ z => False.elim z
      subst e8a e8b
      have e8 := he _ _ _ _ _ s8 _ _ _ I8 rd7
      refine wpAny_mono e8 (fun y s9 ⟨yv, H9, I9, r9, ys, hD9, hz, n9⟩ => ?_) fun _ _ z => False.elim z
      have a9 := mt_append (X := blk2 X x z fv scope cl s3.heap.objs.size s3 (upd H s2.heap.objs.size (.lst [])) fp) _ s9 _ H9 (.ref s2.heap.objs.size) [yv] (.ref s2.heap.objs.size) [y] (fun _ H10 => H10 = upd H9 s2.heap.objs.size (.lst (ys ++ [yv]))) I9 rfl (.cons r9 .nil)
        ⟨_, ys, yv, rfl, rfl, hD9, hz, rfl⟩
      refine wpAny_mono a9 (fun _ s10 ⟨_, H10, I10, _, e10⟩ => ?_) fun _ _ z => False.elim z
      subst e10
      obtain ⟨m', hm, w9⟩ := hN _ n9
      refine ⟨m', hm, i + 1, _, some x1, some x2, I10.unpinned, T.keep _ _ _ st7 fun b hb o e => (I10.pin (b, o) (List.mem_append_right _ (List.mem_append_right _ (mem_pinsAt hb e)))).1, fun b hb => ?_, w9⟩
      obtain ⟨o, e, _⟩ := T.obj _ _ st7 b hb
      exact (I10.pin (b, o) (List.mem_append_right _ (List.mem_append_right _ (mem_pinsAt hb e)))).2.1
  exact codeAny_compStart_list loop (T.self _ 0 _ _ _ st4 loop)
/-- the reading -/
def CLoop2 (K : PySem.W.Frag) (J : It) (fv : List (Nat × Str)) (te : TE) (Q : VK) (σ : St) (H1 : Hp) (D : Addr) : Prop := ∃ W : Nat → Nat → Hp → Prop, (∃ m, W 0 m (upd H1 D (.lst []))) ∧ ∀ i m H, W i m H →
  (J.stop i H ∧ Q (.ref D) H) ∨ (J.go i H ∧ ∃ N : Hp → Prop, (∀ H', N H' → ∃ m', m' < m ∧ W (i + 1) m' H') ∧ ∀ v H', J.yld i H v H' → ∃ q x1 x2, v = .ref q ∧ SqT K H' q [x1, x2] ∧ te (bst2 fv σ (some x1) (some x2)) H' fun y H2 => ∃ ys, H2 D = some (.lst ys) ∧ ys.length < sizeLine ∧ N (upd H2 D (.lst (ys ++ [y]))))
def tComp2 (K : PySem.W.Frag) (fv : List (Nat × Str)) (wi : TI) (te : TE) : TE := fun σ H Q => wi σ H fun J H1 => ∀ D, H1 D = none → CLoop2 K J fv te Q σ H1 D
theorem a_tComp2 {K : PySem.W.Frag} {σ : St} {H : Hp} {Q : VK} : tComp2 K fv wi te σ H Q = wi σ H fun J H1 => ∀ D, H1 D = none → CLoop2 K J fv te Q σ H1 D := rfl
/-- [elt for x, z in iter] as a value -/
theorem pe_lcomp2 (hc : X.calm = true) (B : BlkOk2 X x z fv scope cl) (hi : PI X (.Tuple [.Name x px, .Name z pz] tk tpos) iter wi) (he : ∀ C s H fp, PE (blk2 X x z fv scope cl C s H fp) elt te)
    (hs : ∀ v, foldedSetIterable iter X.env v = pure v := by intro _; rfl) : PE X (.ListComp elt [⟨.Tuple [.Name x px, .Name z pz] tk tpos, iter, [], 0⟩] scope pos) (tComp2 X.K fv wi te) := by
  intro pins s σ H Q I h
  rw [eval_ListComp]
  refine wpAny_comprehension_free (use := none) rfl hs B.clos B.kind B.names (thn (hi pins s σ H _ I h) fun v s1 h1 => thn h1 fun itv s2 h2 => ?_)
  obtain ⟨it, fp, tn, J, H2, e, I2, T, st2, f2, rd⟩ := h2
  subst e
  refine blk_run2 (RR := fun acc C => compPost (model X.prog X.w) X.A X.xe none (EP X pins σ Q) acc C) hc B he I2 T st2 f2 rd ?_
  intro D C s' H' m' I' fC hn q
  exact ⟨m', hn, fun h' sb => ⟨.ref D, H', I'.turned (t' := s'.toks) (fun b o hb e => (sb.2 b hb).trans e) fC.1 fC.2.1 fC.2.2.2.1 fC.2.2.2.2.1 fC.2.2.2.2.2, rfl, q⟩⟩
def FvOk2 (X : Cx) (scope : Scope) (cl : List (Str × Addr)) (fv : List (Nat × Str)) : Prop := ∀ p ∈ fv, X.N[p.1]? = some p.2 ∧ (X.env.scope.names.lookup p.2 = some .cell ∨ X.env.scope.names.lookup p.2 = some .free) ∧
    ((relabel scope X.env).names.lookup p.2 = some .cell ∨ (relabel scope X.env).names.lookup p.2 = some .free) ∧ ∃ c, cl.lookup p.2 = some c
theorem fv_nil2 {X : Cx} {scope : Scope} {cl : List (Str × Addr)} : FvOk2 X scope cl [] := fun _ h => nomatch h
theorem fv_cons2 {X : Cx} {scope : Scope} {cl : List (Str × Addr)} {fv : List (Nat × Str)} (i : Nat) (y : Str) (h2 : X.N[i]? = some y) (h3 : X.env.scope.names.lookup y = some .cell ∨ X.env.scope.names.lookup y = some .free)
    (h4 : (relabel scope X.env).names.lookup y = some .cell ∨ (relabel scope X.env).names.lookup y = some .free) (h5 : ∃ c, cl.lookup y = some c) (r : FvOk2 X scope cl fv) : FvOk2 X scope cl ((i, y) :: fv) := fun p hp => by
  rcases List.mem_cons.mp hp with rfl | hp
  · exact ⟨h2, h3, h4, h5⟩
  · exact r p hp
theorem blkok2 {X : Cx} {x z : Str} {fv : List (Nat × Str)} {scope : Scope} {cl : List (Str × Addr)} (clos : closureFor scope X.env = pure cl) (sub : ∀ y c, cl.lookup y = some c → X.env.cells.lookup y = some c) (fvs : FvOk2 X scope cl fv)
    (nd : (x :: z :: fv.map (·.2)).Nodup := by decide) (kind : scope.kind = .function := by rfl) (here : scope.names.lookup x = some .local := by rfl) (here2 : scope.names.lookup z = some .local := by rfl) (nocell : ∀ y ∈ scope.names, y.2 ≠ .cell := by decide +kernel)
    (names : ∀ y ∈ scope.names, y.2 = .local → scope.names.lookup y.1 = some .local := by decide +kernel)
    (has : ((relabel scope X.env).names.all fun p => (p.2 != .cell && p.2 != .free) || (cl.lookup p.1).isSome) = true := by rfl) : BlkOk2 X x z fv scope cl :=
  ⟨clos, nocell, kind, names, here, here2, nd, sub, has_of has, fvs⟩
end
/-! ### zip(xs, ys) -/
/-- (x_0, y_0), (x_1, y_1) .. of the lists at a and b: each a new tuple -/
def Itz (K : PySem.W.Frag) (a b : Addr) : It :=
  ⟨fun i H => ∃ xs ys x y, SqL K H a xs ∧ SqL K H b ys ∧ xs[i]? = some x ∧ ys[i]? = some y, fun i H v H' => ∃ p x y, H p = none ∧ v = .ref p ∧ H' = upd H p (.tup [x, y]) ∧ (∀ xs, SqL K H a xs → xs[i]? = some x) ∧ ∀ ys, SqL K H b ys → ys[i]? = some y,
    fun i H => ∃ xs ys, SqL K H a xs ∧ SqL K H b ys ∧ (xs.length ≤ i ∨ ys.length ≤ i)⟩
theorem turn_zip {P : Program} {w : World} {K : PySem.W.Frag} {elts : List Expr} {tk : Nat} {tpos : Pos} (a b z TI TO i1 i2 : Addr) (D : ZipApart z TI TO i1 i2 a b) :
    Turn P w K (.Tuple elts tk tpos) (Itz K a b) [z, TI, TO, i1, i2] z (fun i h => IsZip h z TI TO .none ∧ IsPair h TI (.ref i1) (.ref i2) ∧ (∃ u v, IsPair h TO u v) ∧ h.IsListIter i1 a i ∧ h.IsListIter i2 b i) where
  mem := by simp
  obj := fun i h st c hb => by
    obtain ⟨hz, hTI, ⟨u, v, hTO⟩, ⟨o1, e1, c1, d1⟩, ⟨o2, e2, c2, d2⟩⟩ := st
    simp only [List.mem_cons, List.not_mem_nil, or_false] at hb
    rcases hb with rfl | rfl | rfl | rfl | rfl
    · exact ⟨_, hz, fun v z => by
        have z' : Data.fields _ = Data.cell v := z
        cases z'⟩
    · exact ⟨_, hTI, fun v z => by
        have z' : Data.seq _ = Data.cell v := z
        cases z'⟩
    · exact ⟨_, hTO, fun v z => by
        have z' : Data.seq _ = Data.cell v := z
        cases z'⟩
    · exact ⟨o1, e1, fun v z => by rw [d1] at z; cases z⟩
    · exact ⟨o2, e2, fun v z => by rw [d2] at z; cases z⟩
  keep := fun i h h' st k => by
    obtain ⟨hz, hTI, ⟨u, v, hTO⟩, h1, h2⟩ := st
    exact ⟨k z (by simp) _ hz, k TI (by simp) _ hTI, ⟨u, v, k TO (by simp) _ hTO⟩, h1.at fun o q => k i1 (by simp) o q, h2.at fun o q => k i2 (by simp) o q⟩
  item := by
    intro X hP hw hK hc i pins s σ H E I hf st hg
    subst hP hw hK
    obtain ⟨xs, ys, x, y, hq1, hq2, hx, hy⟩ := hg
    obtain ⟨its1, rv1, pl1, hz1⟩ := I.list hq1
    obtain ⟨its2, rv2, pl2, hz2⟩ := I.list hq2
    obtain ⟨u1, hu1, ru1⟩ := rv1.get hx
    obtain ⟨u2, hu2, ru2⟩ := rv2.get hy
    obtain ⟨hz, hTI, ⟨_, _, hTO⟩, hit1, hit2⟩ := st
    refine wpAny_pyNext_zip_item D hz hTI hTO hit1 hit2 pl1.isList pl2.isList (x := u1) (y := u2) (by simpa using hu1) (by simpa using hu2) fun h1 ho hTO1 hi1 hi2 hT hsz hk => ?_
    refine ⟨_, rfl, wpAny_letOwnedTupleGo_zip ho fun h2 he2 hs2 => ?_⟩
    have hp : H s.heap.objs.size = none := I.hok.fresh (Nat.le_refl _)
    have hpz : s.heap.objs.size ≠ z := Nat.ne_of_gt (Heap.lt_size hz)
    have k2 : ∀ c o, c ∉ [z, TI, TO, i1, i2] → s.heap.get? c = some o → h2.get? c = some o := fun c o hb q =>
      (hs2.2 c fun e => hb (by simp [e])).trans (hk c o (fun e => hb (by simp [e])) (fun e => hb (by simp [e])) (fun e => hb (by simp [e])) (fun e => hb (by simp [e])) q)
    have hT2 : h2.get? s.heap.objs.size = some { cls := .type "tuple", data := .seq #[u1, u2] } := (hs2.2 _ hpz).trans hT
    have nch : ∀ c u, H c = some u → c ∉ [z, TI, TO, i1, i2] := fun c u q hb => by
      rw [(hf c hb).1] at q; cases q
    have up : ∀ c, c < s.heap.objs.size → c ≠ s.heap.objs.size := fun c hb => Nat.ne_of_lt hb
    have I2 : Inv X pins σ (upd H s.heap.objs.size (.tup [x, y])) { s with heap := h2 } := by
      refine I.step (g' := s.gens) (d' := s.drawn) (t' := s.toks) (ch := [z, TI, TO, i1, i2]) (fun c hb => ?_) (fun c o _ _ hc q _ => k2 c o hc q) (fun c o _ _ hc q _ => ⟨o.slots, k2 c o hc q⟩)
        (fun c o _ q n => by rw [upd_ne (up c (Heap.lt_size q))]; exact n) (fun c o hc q => ⟨o, k2 c o hc q⟩) (fun c ys q => by rw [upd_ne (ne_of_none q hp)]; exact q) (fun c o v q => by rw [upd_ne (ne_of_none q hp)]; exact q)
        (fun c ps q => ⟨#[], by rw [upd_ne (ne_of_none q hp), q]; simp⟩) (fun m hm => ?_) (fun c v q => ?_) I.bare
      · obtain ⟨f0, f1, f2, f3, f4, f5⟩ := hf c hb
        exact ⟨f3, f1, f4, f5⟩
      · obtain ⟨o, es, ep, q, r⟩ := hm
        refine ⟨o, es, ep, k2 _ o (fun e => ?_) q, r⟩
        exact (hf _ e).2.1 rfl
      · by_cases hb : c = s.heap.objs.size
        · subst hb
          rw [upd_same] at q; cases q
          exact ⟨by show 2 ≤ sizeLine; decide, [u1, u2], .cons ru1 (.cons ru2 .nil), ⟨_, hT2, rfl, _, rfl⟩⟩
        · rw [upd_ne hb] at q
          refine (I.hok c v q).stay (fun c' o hc r => k2 c' o ?_ r) (fun c' r => by rw [upd_ne (ne_of_none r hp)]; exact r) fun c' ys r => by rw [upd_ne (ne_of_none r hp)]; exact r
          rcases hc with e | e
          · rw [e]; exact nch c v q
          · exact nch c' _ e
    refine ⟨.ref s.heap.objs.size, _, I2, rfl, ⟨_, x, y, hp, rfl, rfl, fun zs hz' => by rw [I.list_inj hz' hq1]; exact hx, fun zs hz' => by rw [I.list_inj hz' hq2]; exact hy⟩,
      ⟨he2, (hs2.2 TI D.TIz).trans (hk TI _ D.TIz D.TITO D.TIi1 D.TIi2 hTI), ⟨_, _, (hs2.2 TO D.TOz).trans hTO1⟩, hi1.at fun o q => (hs2.2 i1 D.i1z).trans q, hi2.at fun o q => (hs2.2 i2 D.i2z).trans q⟩, fun c hb => ?_⟩
    have lb : c < s.heap.objs.size := by
      simp only [List.mem_cons, List.not_mem_nil, or_false] at hb
      rcases hb with rfl | rfl | rfl | rfl | rfl
      · exact Heap.lt_size hz
      · exact Heap.lt_size hTI
      · exact Heap.lt_size hTO
      · obtain ⟨_, q, _⟩ := hit1; exact Heap.lt_size q
      · obtain ⟨_, q, _⟩ := hit2; exact Heap.lt_size q
    rw [upd_ne (up c lb)]
    exact (hf c hb).1
  done := by
    intro X hP hw hK hc i pins s σ H E I hf st hg
    subst hP hw hK
    obtain ⟨xs, ys, hq1, hq2, hx⟩ := hg
    obtain ⟨its1, rv1, pl1, hz1⟩ := I.list hq1
    obtain ⟨its2, rv2, pl2, hz2⟩ := I.list hq2
    obtain ⟨hz, hTI, ⟨_, _, hTO⟩, hit1, hit2⟩ := st
    have hl1 := rv1.length
    have hl2 := rv2.length
    refine wpAny_pyNext_zip_end (I.ok.hd hc) D hz hTI hTO hit1 hit2 pl1.isList pl2.isList (by rcases hx with e | e; exact .inl (by simp; omega); exact .inr (by simp; omega)) fun h' eb => ⟨rfl, ?_⟩
    have k2 : ∀ c o, c ∉ [z, TI, TO, i1, i2] → s.heap.get? c = some o → h'.get? c = some o := fun c o hb q => eb c o (fun e => hb (by simp [e])) (fun e => hb (by simp [e])) (fun e => hb (by simp [e])) (fun e => hb (by simp [e])) q
    refine I.step (g' := s.gens) (d' := s.drawn) (t' := s.toks) (ch := [z, TI, TO, i1, i2]) (fun c hb => ?_) (fun c o _ _ hc q _ => k2 c o hc q) (fun c o _ _ hc q _ => ⟨o.slots, k2 c o hc q⟩)
      (fun c o _ q n => n) (fun c o hc q => ⟨o, k2 c o hc q⟩) (fun c ys q => q) (fun c o v q => q) (fun c ps q => ⟨#[], by rw [q]; simp⟩) (fun m hm => ?_) (fun c v q => ?_) I.bare
    · obtain ⟨f0, f1, f2, f3, f4, f5⟩ := hf c hb
      exact ⟨f3, f1, f4, f5⟩
    · obtain ⟨o, es, ep, q, r⟩ := hm
      exact ⟨o, es, ep, k2 _ o (fun e => (hf _ e).2.1 rfl) q, r⟩
    · refine (I.hok c v q).stay (fun c' o hc r => k2 c' o ?_ r) (fun c' r => r) fun c' ys r => r
      have nch : ∀ c u, H c = some u → c ∉ [z, TI, TO, i1, i2] := fun c u q hb => by
        rw [(hf c hb).1] at q; cases q
      rcases hc with e | e
      · rw [e]; exact nch c v q
      · exact nch c' _ e
  self := fun _ _ _ _ _ st h => wpAny_pyIter_zip st.1 h
section
variable {X : Cx}
def iZip (K : PySem.W.Frag) (ta : TA) : TI := fun σ H R => ta σ H fun vs H1 => ∃ a b xs ys, vs = [.ref a, .ref b] ∧ SqL K H1 a xs ∧ SqL K H1 b ys ∧ R (Itz K a b) H1
theorem pi_zip {elts : List Expr} {tk : Nat} {tpos : Pos} {a b : Expr} {ta : TA} {p pos : Pos} (hg : Gl X "zip") (hm : X.mg "zip" = none) (ha : PA X [a, b] ta) (hs : starEach [a, b] X.env = [(false, eval a X.env), (false, eval b X.env)] := by rfl)
    (hs2 : starEach [b] X.env = [(false, eval b X.env)] := by rfl) :
    PI X (.Tuple elts tk tpos) (.Call (.Name "zip" p) [a, b] [] pos) (iZip X.K ta) := by
  intro pins s σ H R I h
  refine Call_ (ld_blt I hg hm boot_zip (PyProof.Rows.callWith_type1 (thn (ha pos pins s σ H _ I h) fun us s1 ⟨vs, H1, I1, r1, q1⟩ => ?_) (by rw [hs, hs2]) (by rw [hs2]; rfl)))
  obtain ⟨a, b, xs, ys, e, hq1, hq2, q⟩ := q1
  subst e
  cases r1 with
  | cons r rr =>
   cases rr with
   | cons r' rr =>
    cases rr
    cases r
    cases r'
    obtain ⟨its1, rv1, pl1, hz1⟩ := I1.list hq1
    obtain ⟨its2, rv2, pl2, hz2⟩ := I1.list hq2
    have a1 : a < s1.heap.objs.size := by obtain ⟨_, e, _⟩ := pl1.isList; exact Heap.lt_size e
    have a2 : b < s1.heap.objs.size := by obtain ⟨_, e, _⟩ := pl2.isList; exact Heap.lt_size e
    refine call_zip_2 pl1.isList pl2.isList fun h1 hz hTI hTO hi1 hi2 hsz hk => ?_
    have I2 : Inv X pins σ H1 { s1 with heap := h1 } := I1.kept (t' := s1.toks) hk
    refine wpAny_pyIter_zip hz ?_
    refine ⟨s1.heap.objs.size + 4, [s1.heap.objs.size + 4, s1.heap.objs.size + 2, s1.heap.objs.size + 3, s1.heap.objs.size, s1.heap.objs.size + 1], _, _, H1, rfl, I2, turn_zip a b _ _ _ _ _ (zipApart_new a1 a2), ⟨hz, hTI, ⟨_, _, hTO⟩, hi1, hi2⟩, fun c hb => ?_, q⟩
    have hb' : s1.heap.objs.size ≤ c := by
      simp only [List.mem_cons, List.not_mem_nil, or_false] at hb
      rcases hb with rfl | rfl | rfl | rfl | rfl <;> omega
    exact I1.fpOk hb' (I1.hok.fresh hb')
end
theorem a_izip {K : PySem.W.Frag} {ta : TA} {σ : St} {H : Hp} {R : It → Hp → Prop} : iZip K ta σ H R = ta σ H fun vs H1 => ∃ a b xs ys, vs = [.ref a, .ref b] ∧ SqL K H1 a xs ∧ SqL K H1 b ys ∧ R (Itz K a b) H1 := rfl
theorem cl_zip {K : PySem.W.Frag} {a b : Addr} {xs ys : List V} {fv : List (Nat × Str)} {te : TE} {Q : VK} {σ : St} {H1 : Hp} {D : Addr} (Pv : Nat → Hp → Prop) (h0 : Pv 0 (upd H1 D (.lst []))) (hl : ∀ i H, i ≤ xs.length → i ≤ ys.length → Pv i H → SqL K H a xs ∧ SqL K H b ys)
    (hs : ∀ i v1 v2 p H, xs[i]? = some v1 → ys[i]? = some v2 → Pv i H → H p = none → te (bst2 fv σ (some v1) (some v2)) (upd H p (.tup [v1, v2])) fun y H2 => ∃ zs, H2 D = some (.lst zs) ∧ zs.length < sizeLine ∧ Pv (i + 1) (upd H2 D (.lst (zs ++ [y]))))
    (hd : ∀ H, Pv (min xs.length ys.length) H → Q (.ref D) H) : CLoop2 K (Itz K a b) fv te Q σ H1 D := by
  refine ⟨fun i m H => m = min xs.length ys.length - i ∧ i ≤ min xs.length ys.length ∧ Pv i H, ⟨_, rfl, Nat.zero_le _, h0⟩, ?_⟩
  rintro i m H ⟨rfl, hi, p⟩
  obtain ⟨q1, q2⟩ := hl i H (by omega) (by omega) p
  by_cases hlt : i < min xs.length ys.length
  · have l1 : i < xs.length := by omega
    have l2 : i < ys.length := by omega
    refine .inr ⟨⟨xs, ys, xs[i], ys[i], q1, q2, List.getElem?_eq_getElem l1, List.getElem?_eq_getElem l2⟩, Pv (i + 1), fun H' p' => ⟨min xs.length ys.length - (i + 1), by omega, rfl, hlt, p'⟩, fun v H' y => ?_⟩
    obtain ⟨pa, x1, x2, hn, e1, e2, y1, y2⟩ := y
    subst e1 e2
    exact ⟨pa, x1, x2, rfl, .inl (.inl upd_same), hs i x1 x2 pa H (y1 xs q1) (y2 ys q2) p hn⟩
  · have e : i = min xs.length ys.length := by omega
    refine .inl ⟨⟨xs, ys, q1, q2, by omega⟩, ?_⟩
    rw [e] at p
    exact hd H p
end L2
namespace L2
open PySem PySem.Spec PyProof.Rows
/-! ### a for over zip -/
theorem lp_zip {K : PySem.W.Frag} {a b : Addr} {xs ys : List V} {g : TG} {tb : TS} {D : Ends} {σ : St} {H : Hp} (Pv : Nat → St → Hp → Prop) (h0 : Pv 0 σ H) (hl : ∀ i σ H, i ≤ xs.length → i ≤ ys.length → Pv i σ H → SqL K H a xs ∧ SqL K H b ys)
    (hs : ∀ i v1 v2 p σ H, xs[i]? = some v1 → ys[i]? = some v2 → Pv i σ H → H p = none → g (.ref p) σ (upd H p (.tup [v1, v2])) fun σ2 H2 => tb { D with nx := Pv (i + 1), ct := Pv (i + 1), bk := D.nx } σ2 H2)
    (hd : ∀ σ H, Pv (min xs.length ys.length) σ H → D.nx σ H) : Loop (Itz K a b) g tb D σ H := by
  refine ⟨fun i m σ H => m = min xs.length ys.length - i ∧ i ≤ min xs.length ys.length ∧ Pv i σ H, ⟨_, rfl, Nat.zero_le _, h0⟩, ?_⟩
  rintro i m σ H ⟨rfl, hi, p⟩
  obtain ⟨q1, q2⟩ := hl i σ H (by omega) (by omega) p
  by_cases hlt : i < min xs.length ys.length
  · have l1 : i < xs.length := by omega
    have l2 : i < ys.length := by omega
    refine .inr ⟨⟨xs, ys, xs[i], ys[i], q1, q2, List.getElem?_eq_getElem l1, List.getElem?_eq_getElem l2⟩, Pv (i + 1), fun σ' H' p' => ⟨min xs.length ys.length - (i + 1), by omega, rfl, hlt, p'⟩, fun x H' y => ?_⟩
    obtain ⟨pa, x1, x2, hn, e1, e2, y1, y2⟩ := y
    subst e1 e2
    exact hs i x1 x2 pa σ H (y1 xs q1) (y2 ys q2) p hn
  · have e : i = min xs.length ys.length := by omega
    rw [e] at p
    exact .inl ⟨⟨xs, ys, q1, q2, by omega⟩, hd σ H p⟩
end L2
namespace My
/-! ### lists of numbers as polynomials -/
def trim (xs : List Int) : List Int := (xs.reverse.dropWhile (· == 0)).reverse
theorem trim_nil : trim [] = [] := rfl
theorem trim_zero (xs : List Int) : trim (xs ++ [0]) = trim xs := by
  unfold trim; rw [List.reverse_append]; rfl
theorem trim_ne (xs : List Int) {a : Int} (h : a ≠ 0) : trim (xs ++ [a]) = xs ++ [a] := by
  unfold trim
  rw [List.reverse_append]
  have : ([a].reverse ++ xs.reverse).dropWhile (· == 0) = a :: xs.reverse := by
    show (a :: xs.reverse).dropWhile (· == 0) = _
    rw [List.dropWhile_cons]
    simp [h]
  rw [this]; simp
def co (xs : List Int) (k : Nat) : Int := xs.getD k 0
theorem co_nil (k : Nat) : co [] k = 0 := rfl
theorem co_ge {xs : List Int} {k : Nat} (h : xs.length ≤ k) : co xs k = 0 := by
  unfold co; rw [List.getD_eq_getElem?_getD, List.getElem?_eq_none h]; rfl
theorem co_lt {xs : List Int} {k : Nat} (h : k < xs.length) : co xs k = xs[k] := by
  unfold co; rw [List.getD_eq_getElem?_getD, List.getElem?_eq_getElem h]; rfl
theorem co_snoc (xs : List Int) (a : Int) (k : Nat) : co (xs ++ [a]) k = if k = xs.length then a else co xs k := by
  by_cases h : k < xs.length
  · rw [if_neg (by omega)]
    unfold co; rw [List.getD_eq_getElem?_getD, List.getD_eq_getElem?_getD, List.getElem?_append_left h]
  · by_cases h2 : k = xs.length
    · subst h2; rw [if_pos rfl]; unfold co; rw [List.getD_eq_getElem?_getD, List.getElem?_append_right (Nat.le_refl _)]; simp
    · rw [if_neg h2, co_ge (by simp; omega), co_ge (by omega)]
theorem snoc_ind {P : List Int → Prop} (h0 : P []) (h1 : ∀ xs a, P xs → P (xs ++ [a])) (xs : List Int) : P xs := by
  have : ∀ ys : List Int, P ys.reverse := fun ys => by
    induction ys with
    | nil => exact h0
    | cons a r ih => rw [List.reverse_cons]; exact h1 _ _ ih
  have := this xs.reverse
  rwa [List.reverse_reverse] at this
theorem trim_co (xs : List Int) (k : Nat) : co (trim xs) k = co xs k := by
  refine snoc_ind (P := fun xs => co (trim xs) k = co xs k) rfl (fun xs a ih => ?_) xs
  by_cases h : a = 0
  · subst h; rw [trim_zero, ih, co_snoc]
    by_cases h2 : k = xs.length
    · rw [if_pos h2, co_ge (by omega)]
    · rw [if_neg h2]
  · rw [trim_ne _ h]
/-- no nought at its end -/
def Nml (xs : List Int) : Prop := ∀ a ys, xs = ys ++ [a] → a ≠ 0
theorem trim_nml (xs : List Int) : Nml (trim xs) := by
  refine snoc_ind (P := fun xs => Nml (trim xs)) (fun a ys h => ?_) (fun xs a ih => ?_) xs
  · rw [trim_nil] at h; simp at h
  · by_cases h : a = 0
    · subst h; rw [trim_zero]; exact ih
    · rw [trim_ne _ h]
      intro b ys e
      have := List.append_inj' e rfl
      have e2 : a = b := by simpa using this.2
      rw [← e2]; exact h
theorem nml_trim {xs : List Int} (h : Nml xs) : trim xs = xs := by
  rcases List.eq_nil_or_concat xs with rfl | ⟨ys, a, rfl⟩
  · rfl
  · rw [List.concat_eq_append] at *; exact trim_ne _ (h a ys rfl)
theorem nml_len {xs : List Int} (h : Nml xs) {n : Nat} (hz : ∀ k, n ≤ k → co xs k = 0) : xs.length ≤ n := by
  rcases List.eq_nil_or_concat xs with rfl | ⟨ys, a, rfl⟩
  · exact Nat.zero_le _
  · rw [List.concat_eq_append] at *
    have ha := h a ys rfl
    by_cases hn : (ys ++ [a]).length ≤ n
    · exact hn
    · have := hz ys.length (by simp at hn; omega)
      rw [co_snoc, if_pos rfl] at this
      exact absurd this ha
theorem co_ext {xs ys : List Int} (hl : xs.length = ys.length) (h : ∀ k, k < xs.length → co xs k = co ys k) : xs = ys := by
  refine List.ext_getElem hl fun k h1 h2 => ?_
  have := h k h1
  rw [co_lt h1, co_lt h2] at this; exact this
theorem nml_ext {xs ys : List Int} (hx : Nml xs) (hy : Nml ys) (h : ∀ k, co xs k = co ys k) : xs = ys := by
  have l1 : xs.length ≤ ys.length := nml_len hx fun k hk => by rw [h, co_ge hk]
  have l2 : ys.length ≤ xs.length := nml_len hy fun k hk => by rw [← h, co_ge hk]
  exact co_ext (by omega) fun k _ => h k
theorem trim_ext {xs ys : List Int} (h : ∀ k, co xs k = co ys k) : trim xs = trim ys :=
  nml_ext (trim_nml _) (trim_nml _) fun k => by rw [trim_co, trim_co, h]
theorem trim_len (xs : List Int) : (trim xs).length ≤ xs.length := nml_len (trim_nml _) fun k hk => by rw [trim_co, co_ge hk]
/-- the loop that cuts: from size on all noughts -/
theorem trim_take {xs : List Int} {n : Nat} (hn : n ≤ xs.length) (hz : ∀ k, n ≤ k → co xs k = 0) (he : n = 0 ∨ co xs (n - 1) ≠ 0) : trim xs = xs.take n := by
  have c : ∀ k, co (xs.take n) k = co xs k := fun k => by
    by_cases hk : k < n
    · unfold co; rw [List.getD_eq_getElem?_getD, List.getD_eq_getElem?_getD, List.getElem?_take_of_lt hk]
    · rw [co_ge (by simp; omega), hz k (by omega)]
  have nm : Nml (xs.take n) := fun a ys e => by
    have hl : ys.length + 1 = n := by
      have := congrArg List.length e
      rw [List.length_take, List.length_append, List.length_singleton] at this; omega
    rcases he with h0 | h0
    · omega
    · have := c (n - 1)
      rw [e, co_snoc, if_pos (by omega)] at this
      rw [this]; exact h0
  exact nml_ext (trim_nml _) nm fun k => by rw [trim_co, c]
end My
namespace My
/-! ### products -/
def sumN : Nat → (Nat → Int) → Int
  | 0, _ => 0
  | n + 1, f => sumN n f + f n
theorem sumN_congr {n : Nat} {f g : Nat → Int} (h : ∀ j, j < n → f j = g j) : sumN n f = sumN n g := by
  induction n with
  | zero => rfl
  | succ n ih => simp only [sumN]; rw [ih fun j hj => h j (by omega), h n (by omega)]
theorem sumN_zero {n : Nat} {f : Nat → Int} (h : ∀ j, j < n → f j = 0) : sumN n f = 0 := by
  induction n with
  | zero => rfl
  | succ n ih => simp only [sumN]; rw [ih fun j hj => h j (by omega), h n (by omega)]; rfl
/-- the number at k - j, nought where that is none -/
def cz (xs : List Int) (k j : Nat) : Int := if j ≤ k then co xs (k - j) else 0
/-- the part of the product at k that the first l numbers of one give -/
def cv (one other : List Int) (l k : Nat) : Int := sumN l fun j => co one j * cz other k j
def mulL (one other : List Int) : List Int := trim ((List.range (one.length + other.length)).map fun k => cv one other one.length k)
theorem co_map (n : Nat) (f : Nat → Int) (k : Nat) : co ((List.range n).map f) k = if k < n then f k else 0 := by
  by_cases h : k < n
  · rw [if_pos h, co_lt (by simpa using h)]; simp
  · rw [if_neg h, co_ge (by simp; omega)]
theorem cv_big (one other : List Int) (k : Nat) (h : one.length + other.length ≤ k + 1) : cv one other one.length k = 0 :=
  sumN_zero fun j hj => by
    unfold cz
    rw [if_pos (by omega), co_ge (xs := other) (by omega), Int.mul_zero]
theorem mul_eq (one other ans : List Int) (h : ∀ k, co ans k = if k + 1 < one.length + other.length then cv one other one.length k else 0) : trim ans = mulL one other := by
  refine trim_ext fun k => ?_
  rw [h, co_map]
  by_cases h1 : k + 1 < one.length + other.length
  · rw [if_pos h1, if_pos (by omega)]
  · rw [if_neg h1]
    by_cases h2 : k < one.length + other.length
    · rw [if_pos h2, cv_big _ _ _ (by omega)]
    · rw [if_neg h2]
/-! ### sums and differences -/
def addL (one other : List Int) : List Int := trim ((List.range (max one.length other.length)).map fun k => co one k + co other k)
def subL (one other : List Int) : List Int := trim ((List.range (max one.length other.length)).map fun k => co one k - co other k)
theorem add_eq (one other ans : List Int) (h : ∀ k, co ans k = co one k + co other k) : trim ans = addL one other := by
  refine trim_ext fun k => ?_
  rw [h, co_map]
  by_cases h1 : k < max one.length other.length
  · rw [if_pos h1]
  · rw [if_neg h1, co_ge (by omega), co_ge (by omega)]; rfl
theorem co_neg (xs : List Int) (k : Nat) : co (xs.map fun x => -x) k = - co xs k := by
  by_cases h : k < xs.length
  · rw [co_lt (by simpa using h), co_lt h]; simp
  · rw [co_ge (by simp; omega), co_ge (by omega)]; rfl
theorem sub_eq (one other : List Int) : addL one (other.map fun x => -x) = subL one other := by
  refine trim_ext fun k => ?_
  rw [co_map, co_map, co_neg, List.length_map]; rfl
theorem co_set (xs : List Int) (i k : Nat) (v : Int) (h : i < xs.length) : co (xs.set i v) k = if k = i then v else co xs k := by
  by_cases hk : k < xs.length
  · rw [co_lt (by simpa using hk), List.getElem_set, co_lt hk]
    by_cases e : k = i
    · rw [if_pos e, if_pos e.symm]
    · rw [if_neg e, if_neg (Ne.symm e)]
  · rw [co_ge (by simp; omega), if_neg (by omega), co_ge (by omega)]
end My
namespace My
/-! ### values and shifts -/
def val (n : Int) : List Int → Int
  | [] => 0
  | c :: r => c + n * val n r
def hd (xs : List Int) : Int := xs.headD 0
def synth (b : Int) : List Int → List Int
  | [] => []
  | c :: r => (c + b * hd (synth b r)) :: synth b r
theorem synth_len (b : Int) : ∀ xs, (synth b xs).length = xs.length
  | [] => rfl
  | _ :: r => by simp [synth, synth_len b r]
def shiftN (b : Int) : Nat → List Int → List Int
  | 0, _ => []
  | n + 1, xs => hd (synth b xs) :: shiftN b n (synth b xs).tail
def shiftL (b : Int) (xs : List Int) : List Int := shiftN b xs.length xs
theorem val_split (b x : Int) : ∀ xs, val x xs = hd (synth b xs) + (x - b) * val x (synth b xs).tail
  | [] => by simp [val, synth, hd]
  | c :: r => by
    have ih := val_split b x r
    cases e : synth b r with
    | nil =>
      rw [e] at ih
      simp only [hd, List.headD_nil, List.tail_nil, val, Int.mul_zero, Int.add_zero] at ih
      simp only [val, synth, e, hd, List.headD_nil, List.headD_cons, List.tail_cons, ih, Int.mul_zero, Int.add_zero]
    | cons h q =>
      rw [e] at ih
      simp only [hd, List.headD_cons, List.tail_cons] at ih
      simp only [val, synth, e, hd, List.headD_cons, List.tail_cons, ih]
      simp only [Int.mul_add, Int.sub_mul, Int.mul_sub]
      have : x * (x * val x q) - x * (b * val x q) = x * (x * val x q) - b * (x * val x q) := by
        rw [← Int.mul_assoc x b, Int.mul_comm x b, Int.mul_assoc b x]
      omega
theorem val_shiftN (b n : Int) : ∀ (k : Nat) (xs : List Int), xs.length = k → val n (shiftN b k xs) = val (n + b) xs
  | 0, xs, h => by
    have : xs = [] := List.eq_nil_of_length_eq_zero h
    subst this; rfl
  | k + 1, xs, h => by
    show hd (synth b xs) + n * val n (shiftN b k (synth b xs).tail) = _
    rw [val_shiftN b n k _ (by rw [List.length_tail, synth_len, h]; rfl), val_split b (n + b) xs]
    have : n + b - b = n := by omega
    rw [this]
theorem val_shift (b n : Int) (xs : List Int) : val n (shiftL b xs) = val (n + b) xs := val_shiftN b n _ xs rfl
theorem shiftN_len (b : Int) : ∀ (k : Nat) (xs : List Int), (shiftN b k xs).length = k
  | 0, _ => rfl
  | k + 1, xs => by simp [shiftN, shiftN_len b k]
theorem shift_len (b : Int) (xs : List Int) : (shiftL b xs).length = xs.length := shiftN_len b _ xs
/-- far enough out a value of nought tells noughts -/
theorem val_zero : ∀ (xs : List Int) (M : Int), (∀ n, M < n → val n xs = 0) → ∀ x ∈ xs, x = 0
  | [], _, _, _, h => nomatch h
  | c :: r, M, h, x, hx => by
    have hc : c = 0 := by
      have h1 := h (max M 0 + c.natAbs + 1) (by omega)
      simp only [val] at h1
      have hd : (max M 0 + c.natAbs + 1) ∣ c := ⟨-(val (max M 0 + c.natAbs + 1) r), by rw [Int.mul_neg]; omega⟩
      by_cases hz : c = 0
      · exact hz
      · have := Int.natAbs_dvd_natAbs.mpr hd
        have := Nat.le_of_dvd (by omega) this
        omega
    have hr : ∀ n, max M 0 < n → val n r = 0 := fun n hn => by
      have h1 := h n (by omega)
      simp only [val, hc, Int.zero_add] at h1
      rcases Int.mul_eq_zero.mp h1 with z | z
      · omega
      · exact z
    rcases List.mem_cons.mp hx with rfl | hx
    · exact hc
    · exact val_zero r _ hr x hx
theorem val_sub (n : Int) : ∀ (xs ys : List Int), xs.length = ys.length → val n (List.zipWith (· - ·) xs ys) = val n xs - val n ys
  | [], [], _ => rfl
  | x :: xs, y :: ys, h => by
    have ih := val_sub n xs ys (by simpa using h)
    simp only [List.zipWith_cons_cons, val, ih, Int.mul_sub]; omega
theorem zip_zero : ∀ (xs ys : List Int), xs.length = ys.length → (∀ d ∈ List.zipWith (· - ·) xs ys, d = 0) → xs = ys
  | [], [], _, _ => rfl
  | x :: xs, y :: ys, h, hz => by
    have h1 := hz (x - y) (by simp)
    have h2 := zip_zero xs ys (by simpa using h) fun d hd => hz d (by simp [hd])
    rw [h2, show x = y by omega]
theorem val_ext {xs ys : List Int} (hl : xs.length = ys.length) (h : ∀ n, val n xs = val n ys) : xs = ys :=
  zip_zero xs ys hl (val_zero _ 0 fun n _ => by rw [val_sub n xs ys hl, h n]; omega)
theorem shift_back (b : Int) (xs : List Int) : shiftL (-b) (shiftL b xs) = xs :=
  val_ext (by rw [shift_len, shift_len]) fun n => by rw [val_shift, val_shift]; congr 1; omega
end My
namespace My
/-! ### the shift, step by step in one list -/
def mixed (b : Int) (zs : List Int) (j : Nat) : List Int := zs.take j ++ synth b (zs.drop j)
theorem mixed_len (b : Int) (zs : List Int) (j : Nat) : (mixed b zs j).length = zs.length := by
  unfold mixed; rw [List.length_append, synth_len, ← List.length_append, List.take_append_drop]
theorem mixed_zero (b : Int) (zs : List Int) : mixed b zs 0 = synth b zs := by simp [mixed]
theorem mixed_last (b : Int) (zs : List Int) (h : zs ≠ []) : mixed b zs (zs.length - 1) = zs := by
  rcases List.eq_nil_or_concat zs with rfl | ⟨ys, a, rfl⟩
  · exact absurd rfl h
  · rw [List.concat_eq_append]
    unfold mixed
    have e : (ys ++ [a]).length - 1 = ys.length := by simp
    rw [e, List.take_left, List.drop_left]
    simp [synth, hd]
theorem mixed_at (b : Int) (zs : List Int) (j : Nat) (h : j < zs.length) : (mixed b zs (j + 1))[j]? = some zs[j] := by
  unfold mixed
  rw [List.getElem?_append_left (by rw [List.length_take]; omega), List.getElem?_take_of_lt (by omega), List.getElem?_eq_getElem h]
theorem mixed_next (b : Int) (zs : List Int) (j : Nat) (h : j + 1 < zs.length) : (mixed b zs (j + 1))[j + 1]? = some (hd (synth b (zs.drop (j + 1)))) := by
  unfold mixed
  rw [List.getElem?_append_right (by rw [List.length_take]; omega)]
  have e : j + 1 - (zs.take (j + 1)).length = 0 := by rw [List.length_take]; omega
  have hl : 0 < (synth b (zs.drop (j + 1))).length := by rw [synth_len, List.length_drop]; omega
  rw [e]
  cases q : synth b (zs.drop (j + 1)) with
  | nil => rw [q] at hl; exact absurd hl (by simp)
  | cons x r => simp [hd]
theorem mixed_set (b : Int) (zs : List Int) (j : Nat) (h : j < zs.length) : (mixed b zs (j + 1)).set j (zs[j] + b * hd (synth b (zs.drop (j + 1)))) = mixed b zs j := by
  unfold mixed
  rw [List.take_succ_eq_append_getElem h, List.append_assoc, List.set_append_right _ _ (by rw [List.length_take]; omega)]
  have e : j - (zs.take j).length = 0 := by rw [List.length_take]; omega
  rw [e, List.drop_eq_getElem_cons h]
  rfl
/-- one turn of the outer loop -/
theorem shift_turn (b : Int) (m : Nat) (zs : List Int) (h : zs.length = m + 1) : shiftN b (m + 1) zs = hd (synth b zs) :: shiftN b m (synth b zs).tail ∧ synth b zs = hd (synth b zs) :: (synth b zs).tail ∧ (synth b zs).tail.length = m := by
  refine ⟨rfl, ?_, by rw [List.length_tail, synth_len, h]; rfl⟩
  have hl := synth_len b zs
  cases q : synth b zs with
  | nil => rw [q, h] at hl; simp at hl
  | cons x r => simp [hd]
theorem shift_one (b c : Int) : shiftN b 1 [c] = [c] := by simp [shiftN, synth, hd]
end My
namespace My
theorem nml_last {xs : List Int} : Nml xs ↔ ∀ a, xs.getLast? = some a → a ≠ 0 := by
  constructor
  · intro h a e
    rcases List.eq_nil_or_concat xs with rfl | ⟨ys, b, rfl⟩
    · simp at e
    · rw [List.concat_eq_append] at *
      rw [List.getLast?_concat] at e
      rw [← Option.some.inj e]; exact h b ys rfl
  · intro h a ys e
    exact h a (by rw [e, List.getLast?_concat])
theorem synth_last (b : Int) : ∀ xs : List Int, (synth b xs).getLast? = xs.getLast?
  | [] => rfl
  | [c] => by simp [synth, hd]
  | c :: d :: r => by
    have ih := synth_last b (d :: r)
    have e : synth b (c :: d :: r) = (c + b * hd (synth b (d :: r))) :: synth b (d :: r) := rfl
    rw [e]
    have hl := synth_len b (d :: r)
    cases q : synth b (d :: r) with
    | nil => rw [q] at hl; simp at hl
    | cons x s => rw [List.getLast?_cons_cons, ← q, ih, List.getLast?_cons_cons]
theorem shiftN_last (b : Int) : ∀ (n : Nat) (xs : List Int), xs.length = n → (shiftN b n xs).getLast? = xs.getLast?
  | 0, xs, h => by rw [List.eq_nil_of_length_eq_zero h]; rfl
  | n + 1, xs, h => by
    obtain ⟨s1, s2, s3⟩ := shift_turn b n xs h
    rw [s1]
    have ih := shiftN_last b n (synth b xs).tail s3
    have hs := synth_last b xs
    rw [s2] at hs
    cases q : (synth b xs).tail with
    | nil =>
      rw [q] at s3 hs
      have : n = 0 := by simpa using s3.symm
      subst this
      rw [← hs]; rfl
    | cons x r =>
      rw [q] at ih hs
      have hl := shiftN_len b n (x :: r)
      rw [q] at s3
      cases q2 : shiftN b n (x :: r) with
      | nil => rw [q2] at hl; rw [← s3] at hl; simp at hl
      | cons y t => rw [List.getLast?_cons_cons, ← q2, ih, ← hs, List.getLast?_cons_cons]
theorem shift_nml {b : Int} {xs : List Int} (h : Nml xs) : Nml (shiftL b xs) := nml_last.mpr fun a e => nml_last.mp h a (by rw [← shiftN_last b xs.length xs rfl]; exact e)
end My
namespace My
/-! ### products by places, of any two rows of numbers -/
def pm (f g : Nat → Int) (k : Nat) : Int := sumN (k + 1) fun j => f j * g (k - j)
theorem sumN_add (n : Nat) (f g : Nat → Int) : sumN n (fun j => f j + g j) = sumN n f + sumN n g := by
  induction n with
  | zero => rfl
  | succ n ih => simp only [sumN]; rw [ih]; omega
theorem sumN_mulc (n : Nat) (c : Int) (f : Nat → Int) : sumN n (fun j => c * f j) = c * sumN n f := by
  induction n with
  | zero => simp [sumN]
  | succ n ih => simp only [sumN]; rw [ih, Int.mul_add]
theorem sumN_one {n i : Nat} {f : Nat → Int} (hi : i < n) (h : ∀ j, j < n → j ≠ i → f j = 0) : sumN n f = f i := by
  induction n with
  | zero => omega
  | succ n ih =>
    simp only [sumN]
    by_cases e : i = n
    · subst e
      rw [sumN_zero fun j hj => h j (by omega) (by omega)]; omega
    · rw [ih (by omega) fun j hj hne => h j (by omega) hne, h n (by omega) (Ne.symm e)]; omega
theorem pm_sub (f g h : Nat → Int) (k : Nat) : pm f (fun j => g j - h j) k = pm f g k - pm f h k := by
  unfold pm
  have : (fun j => f j * (g (k - j) - h (k - j))) = fun j => f j * g (k - j) + (-1) * (f j * h (k - j)) := by
    funext j; rw [Int.mul_sub]; omega
  rw [this, sumN_add, sumN_mulc]; omega
theorem pm_add (f g h : Nat → Int) (k : Nat) : pm f (fun j => g j + h j) k = pm f g k + pm f h k := by
  unfold pm
  have : (fun j => f j * (g (k - j) + h (k - j))) = fun j => f j * g (k - j) + f j * h (k - j) := by
    funext j; rw [Int.mul_add]
  rw [this, sumN_add]
theorem pm_scale (f g : Nat → Int) (c : Int) (k : Nat) : pm f (fun j => c * g j) k = c * pm f g k := by
  unfold pm
  have : (fun j => f j * (c * g (k - j))) = fun j => c * (f j * g (k - j)) := by
    funext j; rw [← Int.mul_assoc, Int.mul_comm (f j) c, Int.mul_assoc]
  rw [this, sumN_mulc]
theorem pm_scaleL (f g : Nat → Int) (c : Int) (k : Nat) : pm (fun j => c * f j) g k = c * pm f g k := by
  unfold pm
  rw [← sumN_mulc]
  exact sumN_congr fun j _ => by rw [Int.mul_assoc]
theorem pm_zero {f g : Nat → Int} (h : ∀ j, g j = 0) (k : Nat) : pm f g k = 0 := sumN_zero fun j _ => by rw [h]; simp
/-- the topmost place -/
theorem pm_top {g d : Nat → Int} {m t : Nat} (hg : ∀ j, m + 1 ≤ j → g j = 0) (hd : ∀ j, t + 1 ≤ j → d j = 0) : pm g d (t + m) = g m * d t := by
  unfold pm
  rw [sumN_one (i := m) (by omega) fun j hj hne => ?_]
  · rw [show t + m - m = t by omega]
  · by_cases h : j < m
    · rw [hd (t + m - j) (by omega)]; simp
    · rw [hg j (by omega)]; simp
/-- no product's top goes: what is nought from t + m on has a factor that is nought from t on -/
theorem pm_deg {g d : Nat → Int} {m : Nat} (hg : ∀ j, m + 1 ≤ j → g j = 0) (h0 : g m ≠ 0) (t : Nat) : ∀ n, (∀ j, t + n ≤ j → d j = 0) → (∀ k, t + m ≤ k → pm g d k = 0) → ∀ j, t ≤ j → d j = 0
  | 0, hd, _, j, hj => hd j (by omega)
  | n + 1, hd, hz, j, hj => by
    have top := pm_top (t := t + n) hg (fun j hj => hd j (by omega))
    rw [hz _ (by omega)] at top
    have dn : d (t + n) = 0 := by
      rcases Int.mul_eq_zero.mp top.symm with z | z
      · exact absurd z h0
      · exact z
    exact pm_deg hg h0 t n (fun j hj => by
      by_cases e : j = t + n
      · rw [e]; exact dn
      · exact hd j (by omega)) hz j hj
/-- one is other times q -/
def Div (one other q : List Int) : Prop := ∀ k, co one k = pm (co other) (co q) k
theorem co_last {xs : List Int} (h : Nml xs) (hne : xs ≠ []) : co xs (xs.length - 1) ≠ 0 := by
  rcases List.eq_nil_or_concat xs with rfl | ⟨ys, a, rfl⟩
  · exact absurd rfl hne
  · rw [List.concat_eq_append] at *
    rw [show (ys ++ [a]).length - 1 = ys.length by simp, co_snoc, if_pos rfl]
    exact h a ys rfl
theorem co_over {xs : List Int} (j : Nat) (h : xs.length - 1 + 1 ≤ j) : co xs j = 0 := co_ge (by omega)
/-- at most one q -/
theorem div_uniq {one other q r : List Int} (ho : Nml other) (hne : other ≠ []) (hq : Nml q) (hr : Nml r) (h1 : Div one other q) (h2 : Div one other r) : q = r := by
  refine nml_ext hq hr fun k => ?_
  have z := pm_deg (g := co other) (d := fun j => co q j - co r j) (m := other.length - 1) (fun j hj => co_over j hj) (co_last ho hne) 0 (q.length + r.length)
    (fun j hj => by show co q j - co r j = 0; rw [co_ge (by omega), co_ge (by omega)]; rfl) (fun k _ => by rw [pm_sub, ← h1 k, ← h2 k]; omega) k (by omega)
  have z' : co q k - co r k = 0 := z
  omega
/-- a rest shorter than other: only where it is nought is there a quotient, and then it is q -/
theorem div_rest {one other q r l : List Int} (ho : Nml other) (hne : other ≠ []) (hl : l.length + 1 ≤ other.length) (h1 : ∀ k, co one k = pm (co other) (co q) k + co l k) (h2 : Div one other r) :
    (∀ k, co l k = 0) ∧ ∀ k, co r k = co q k := by
  have z := pm_deg (g := co other) (d := fun j => co r j - co q j) (m := other.length - 1) (fun j hj => co_over j hj) (co_last ho hne) 0 (q.length + r.length)
    (fun j hj => by show co r j - co q j = 0; rw [co_ge (by omega), co_ge (by omega)]; rfl) (fun k hk => by
      rw [pm_sub, ← h2 k, h1 k, co_ge (xs := l) (by omega)]; omega)
  have e : ∀ k, co r k = co q k := fun k => by
    have z' : co r k - co q k = 0 := z k (by omega)
    omega
  refine ⟨fun k => ?_, e⟩
  have h3 := h1 k
  have h4 := h2 k
  have : pm (co other) (co r) k = pm (co other) (co q) k := by unfold pm; exact sumN_congr fun j _ => by rw [e]
  omega
/-- the quotient's length -/
theorem div_len {one other q : List Int} (ho : Nml other) (hne : other ≠ []) (h1 : Nml one) (hq : Nml q) (h : Div one other q) (hone : one ≠ []) : q ≠ [] ∧ one.length + 1 = q.length + other.length := by
  have qne : q ≠ [] := by
    intro z
    have := co_last h1 hone
    rw [h, z] at this
    exact this (pm_zero (fun j => rfl) _)
  have lq : 0 < q.length := List.length_pos_iff.mpr qne
  have lo : 0 < other.length := List.length_pos_iff.mpr hne
  have l1 : 0 < one.length := List.length_pos_iff.mpr hone
  refine ⟨qne, ?_⟩
  have top := pm_top (g := co other) (d := co q) (m := other.length - 1) (t := q.length - 1) (fun j hj => co_over j hj) (fun j hj => co_over j hj)
  rw [← h] at top
  have tne : co one (q.length - 1 + (other.length - 1)) ≠ 0 := by
    rw [top]
    intro z
    rcases Int.mul_eq_zero.mp z with z | z
    · exact co_last ho hne z
    · exact co_last hq qne z
  have lt : q.length - 1 + (other.length - 1) < one.length := by
    by_cases hlt : q.length - 1 + (other.length - 1) < one.length
    · exact hlt
    · exact absurd (co_ge (by omega)) tne
  have big : one.length ≤ q.length - 1 + (other.length - 1) + 1 := nml_len h1 fun k hk => by
    rw [h]
    refine sumN_zero fun j hj => ?_
    by_cases hjm : j < other.length
    · rw [co_ge (xs := q) (by omega)]; simp
    · rw [co_ge (xs := other) (by omega)]; simp
  omega
/-! ### the division, step by step -/
/-- behind the steps down to low: one = other times the answer, plus the rest, which is nought from low + m on -/
structure DivAt (one other ans rest : List Int) (low : Nat) : Prop where
  la : ans.length + other.length = one.length + 1
  lr : rest.length = one.length
  eq : ∀ k, co one k = pm (co other) (co ans) k + co rest k
  hi : ∀ k, low + (other.length - 1) ≤ k → co rest k = 0
  lo : ∀ j, j < low → co ans j = 0
theorem div_start {one other : List Int} {n : Nat} (hne : other ≠ []) (hn : n + other.length = one.length + 1) : DivAt one other (List.replicate n 0) one n where
  la := by rw [List.length_replicate]; exact hn
  lr := rfl
  eq := fun k => by
    rw [pm_zero fun j => ?_]
    · omega
    · unfold co
      rw [List.getD_eq_getElem?_getD, List.getElem?_replicate]
      split <;> rfl
  hi := fun k hk => co_ge (by have := List.length_pos_iff.mpr hne; omega)
  lo := fun j _ => by
    unfold co
    rw [List.getD_eq_getElem?_getD, List.getElem?_replicate]
    split <;> rfl
/-- where there is a quotient, the top of the rest is a multiple -/
theorem div_step {one other ans rest q : List Int} {low : Nat} (ho : Nml other) (hne : other ≠ []) (D : DivAt one other ans rest (low + 1)) (hq : Div one other q) :
    co rest (low + (other.length - 1)) = co other (other.length - 1) * (co q low - co ans low) := by
  have e : ∀ k, co rest k = pm (co other) (fun j => co q j - co ans j) k := fun k => by
    have h1 := D.eq k
    rw [pm_sub, ← hq k]; omega
  have z := pm_deg (g := co other) (d := fun j => co q j - co ans j) (m := other.length - 1) (fun j hj => co_over j hj) (co_last ho hne) (low + 1) (q.length + ans.length)
    (fun j hj => by show co q j - co ans j = 0; rw [co_ge (by omega), co_ge (by omega)]; rfl) (fun k hk => by rw [← e]; exact D.hi k (by omega))
  rw [e]
  exact pm_top (fun j hj => co_over j hj) z
/-- the turn: the rest less the factor's part -/
theorem div_turn {one other ans rest rest' : List Int} {low : Nat} {f : Int} (hne : other ≠ []) (D : DivAt one other ans rest (low + 1)) (hlow : low < ans.length) (hf : f * co other (other.length - 1) = co rest (low + (other.length - 1)))
    (hr : rest'.length = rest.length) (h : ∀ k, co rest' k = co rest k - if low ≤ k then f * co other (k - low) else 0) : DivAt one other (ans.set low f) rest' low where
  la := by rw [List.length_set]; exact D.la
  lr := by rw [hr]; exact D.lr
  eq := fun k => by
    have e1 : pm (co other) (co (ans.set low f)) k = pm (co other) (co ans) k + (if low ≤ k then f * co other (k - low) else 0) := by
      have e2 : (co (ans.set low f)) = fun j => co ans j + if j = low then f else 0 := by
        funext j
        rw [co_set _ _ _ _ hlow]
        by_cases e : j = low
        · rw [if_pos e, if_pos e, e, D.lo low (by omega)]; omega
        · rw [if_neg e, if_neg e]; omega
      rw [e2, pm_add]
      congr 1
      unfold pm
      by_cases hk : low ≤ k
      · rw [if_pos hk, sumN_one (i := k - low) (by omega) fun j hj hne => by show co other j * (if k - j = low then f else 0) = 0; rw [if_neg (by omega)]; simp]
        show co other (k - low) * (if k - (k - low) = low then f else 0) = _
        rw [if_pos (by omega), Int.mul_comm]
      · rw [if_neg hk]
        exact sumN_zero fun j hj => by show co other j * (if k - j = low then f else 0) = 0; rw [if_neg (by omega)]; simp
    rw [e1, h, D.eq k]; omega
  hi := fun k hk => by
    rw [h]
    have lo := List.length_pos_iff.mpr hne
    by_cases e : k = low + (other.length - 1)
    · rw [if_pos (by omega), e, ← hf, show low + (other.length - 1) - low = other.length - 1 by omega]; omega
    · rw [D.hi k (by omega)]
      by_cases hl : low ≤ k
      · rw [if_pos hl, co_ge (xs := other) (by omega)]; simp
      · rw [if_neg hl]; rfl
  lo := fun j hj => by
    rw [co_set _ _ _ _ hlow, if_neg (by omega)]
    exact D.lo j (by omega)
end My
namespace My
theorem div_good {one other ans rest : List Int} (D : DivAt one other ans rest 0) (hz : ∀ k, co rest k = 0) : Div one other ans := fun k => by rw [D.eq k, hz k]; omega
theorem div_bad {one other ans rest : List Int} (ho : Nml other) (hne : other ≠ []) (D : DivAt one other ans rest 0) (q : List Int) (hq : Div one other q) : ∀ k, co rest k = 0 := by
  have hl : (rest.take (other.length - 1)).length + 1 ≤ other.length := by
    have := List.length_pos_iff.mpr hne
    rw [List.length_take]; omega
  have ec : ∀ k, co (rest.take (other.length - 1)) k = co rest k := fun k => by
    by_cases hk : k < other.length - 1
    · unfold co; rw [List.getD_eq_getElem?_getD, List.getD_eq_getElem?_getD, List.getElem?_take_of_lt hk]
    · rw [co_ge (by simp; omega), D.hi k (by omega)]
  have z := (div_rest (q := ans) ho hne hl (fun k => by rw [ec]; exact D.eq k) hq).1
  exact fun k => by rw [← ec]; exact z k
theorem div_fail {one other ans rest q : List Int} {low : Nat} (ho : Nml other) (hne : other ≠ []) (D : DivAt one other ans rest (low + 1)) (hq : Div one other q) :
    (co rest (low + (other.length - 1))).fdiv (co other (other.length - 1)) * co other (other.length - 1) = co rest (low + (other.length - 1)) := by
  rw [div_step ho hne D hq, Int.mul_fdiv_cancel_left _ (co_last ho hne), Int.mul_comm]
/-- an answer of a quotient has no nought at its end -/
theorem div_nml {one other ans : List Int} (hne : other ≠ []) (h1 : Nml one) (hone : one ≠ []) (la : ans.length + other.length = one.length + 1) (h : Div one other ans) : Nml ans := by
  have l1 := List.length_pos_iff.mpr hone
  have l2 := List.length_pos_iff.mpr hne
  intro a ys e
  have la' : ans.length = ys.length + 1 := by rw [e]; simp
  have top := pm_top (g := co other) (d := co ans) (m := other.length - 1) (t := ans.length - 1) (fun j hj => co_over j hj) (fun j hj => co_over j hj)
  rw [← h, show ans.length - 1 + (other.length - 1) = one.length - 1 by omega] at top
  have t0 := co_last h1 hone
  rw [top] at t0
  have ea : co ans (ans.length - 1) = a := by rw [show ans.length - 1 = ys.length by omega, e, co_snoc, if_pos rfl]
  rw [ea] at t0
  intro z
  exact t0 (by rw [z]; simp)
theorem nml_nil : Nml [] := fun a ys e => by simp at e
theorem nml_zero {xs : List Int} (h : Nml xs) (hz : ∀ k, co xs k = 0) : xs = [] := nml_ext h nml_nil fun k => by rw [hz]; rfl
theorem div_nil {other : List Int} : Div [] other [] := fun k => (pm_zero (f := co other) (g := co []) (fun _ => rfl) k).symm
theorem trim_nilI {xs : List Int} : trim xs = [] ↔ ∀ k, co xs k = 0 := by
  constructor
  · intro h k; rw [← trim_co, h]; rfl
  · intro h; exact nml_zero (trim_nml _) fun k => by rw [trim_co]; exact h k
end My
namespace My
/-! ### moved by Horner's steps; clear -/
theorem val_add (n : Int) : ∀ (xs ys : List Int), xs.length = ys.length → val n (List.zipWith (· + ·) xs ys) = val n xs + val n ys
  | [], [], _ => rfl
  | x :: xs, y :: ys, h => by
    have ih := val_add n xs ys (by simpa using h)
    simp only [List.zipWith_cons_cons, val, ih, Int.mul_add]; omega
theorem val_scaled (n b : Int) : ∀ xs : List Int, val n (xs.map (fun x => b * x) ++ [0]) = b * val n xs
  | [] => by simp [val]
  | x :: xs => by
    have ih := val_scaled n b xs
    simp only [List.map_cons, List.cons_append, val, ih, Int.mul_add]
    rw [← Int.mul_assoc n b, Int.mul_comm n b, Int.mul_assoc]
def hstep (b c : Int) (f : List Int) : List Int := List.zipWith (· + ·) (c :: f) (f.map (fun x => b * x) ++ [0])
theorem hstep_len (b c : Int) (f : List Int) : (hstep b c f).length = f.length + 1 := by simp [hstep]
theorem val_hstep (n b c : Int) (f : List Int) : val n (hstep b c f) = c + (n + b) * val n f := by
  unfold hstep
  rw [val_add n _ _ (by simp), val_scaled]
  simp only [val, Int.add_mul]; omega
def movedL (b : Int) : List Int → List Int
  | [] => []
  | c :: r => hstep b c (movedL b r)
theorem moved_len (b : Int) : ∀ xs, (movedL b xs).length = xs.length
  | [] => rfl
  | c :: r => by rw [movedL, hstep_len, moved_len b r]; rfl
theorem val_moved (b n : Int) : ∀ xs, val n (movedL b xs) = val (n + b) xs
  | [] => rfl
  | c :: r => by rw [movedL, val_hstep, val_moved b n r]; rfl
theorem moved_eq (b : Int) (xs : List Int) : movedL b xs = shiftL b xs := val_ext (by rw [moved_len, shift_len]) fun n => by rw [val_moved, val_shift]
theorem co_cons (c : Int) (f : List Int) (j : Nat) : co (c :: f) j = if j = 0 then c else co f (j - 1) := by
  cases j with
  | zero => rfl
  | succ j => rw [if_neg (by omega)]; rfl
theorem co_zip (xs ys : List Int) (h : xs.length = ys.length) (j : Nat) : co (List.zipWith (· + ·) xs ys) j = co xs j + co ys j := by
  by_cases hj : j < xs.length
  · rw [co_lt (by simp; omega), co_lt hj, co_lt (by omega)]; simp
  · rw [co_ge (by simp; omega), co_ge (by omega), co_ge (by omega)]; rfl
theorem co_scaled (b : Int) (f : List Int) (j : Nat) : co (f.map (fun x => b * x) ++ [0]) j = b * co f j := by
  rw [co_snoc]
  by_cases e : j = (f.map fun x => b * x).length
  · rw [if_pos e, co_ge (xs := f) (by rw [e]; simp)]; simp
  · rw [if_neg e]
    by_cases hj : j < f.length
    · rw [co_lt (by simpa using hj), co_lt hj]; simp
    · rw [co_ge (by simp; omega), co_ge (by omega)]; simp
theorem co_hstep (b c : Int) (f : List Int) (j : Nat) : co (hstep b c f) j = (if j = 0 then c else co f (j - 1)) + b * co f j := by
  unfold hstep
  rw [co_zip _ _ (by simp), co_cons, co_scaled]
/-- clear: the first number not 0, none of another sign -/
def Clear (ys : List Int) : Prop := hd ys ≠ 0 ∧ ∀ y ∈ ys, 0 ≤ y * hd ys
theorem val_sign {n : Int} (hn : 0 ≤ n) (c : Int) : ∀ ys : List Int, (∀ y ∈ ys, 0 ≤ y * c) → 0 ≤ val n ys * c
  | [], _ => by simp [val]
  | y :: ys, h => by
    have ih := val_sign hn c ys fun z hz => h z (List.mem_cons_of_mem _ hz)
    have hy := h y List.mem_cons_self
    simp only [val, Int.add_mul, Int.mul_assoc]
    have := Int.mul_nonneg hn ih
    omega
theorem clear_val {n : Int} (hn : 0 ≤ n) {ys : List Int} (h : Clear ys) : val n ys ≠ 0 := by
  cases ys with
  | nil => exact absurd rfl h.1
  | cons c r =>
    obtain ⟨h1, h2⟩ := h
    have h1 : c ≠ 0 := h1
    have h2 : ∀ y ∈ c :: r, 0 ≤ y * c := h2
    have hr := val_sign hn c r fun y hy => h2 y (List.mem_cons_of_mem _ hy)
    intro z
    have e : val n (c :: r) * c = c * c + n * (val n r * c) := by simp only [val, Int.add_mul, Int.mul_assoc]
    rw [z, Int.zero_mul] at e
    have p := Int.mul_nonneg hn hr
    have q : 0 < c * c := by
      rcases Int.lt_or_gt_of_ne h1 with g | g
      · exact Int.mul_pos_of_neg_of_neg g g
      · exact Int.mul_pos g g
    omega
theorem clear_from {xs : List Int} {m n : Int} (hn : m ≤ n) (h : Clear (shiftL m xs)) : val n xs ≠ 0 := by
  have := clear_val (n := n - m) (by omega) h
  rwa [val_shift, show n - m + m = n by omega] at this
/-- by the least and the greatest -/
theorem clear_iff {ys : List Int} (h0 : hd ys ≠ 0) : Clear ys ↔ (∀ y ∈ ys, 0 ≤ y) ∨ (∀ y ∈ ys, y ≤ 0) := by
  have hm : hd ys ∈ ys := by
    cases ys with
    | nil => exact absurd rfl h0
    | cons c r => exact List.mem_cons_self
  constructor
  · intro h
    rcases Int.lt_or_gt_of_ne h0 with g | g
    · refine .inr fun y hy => ?_
      have := h.2 y hy
      by_cases z : y ≤ 0
      · exact z
      · have := Int.mul_neg_of_pos_of_neg (show 0 < y by omega) g
        omega
    · refine .inl fun y hy => ?_
      have := h.2 y hy
      by_cases z : 0 ≤ y
      · exact z
      · have := Int.mul_neg_of_neg_of_pos (show y < 0 by omega) g
        omega
  · rintro (h | h)
    · exact ⟨h0, fun y hy => Int.mul_nonneg (h y hy) (h _ hm)⟩
    · exact ⟨h0, fun y hy => Int.mul_nonneg_of_nonpos_of_nonpos (h y hy) (h _ hm)⟩
end My
namespace My
/-! ### a factor's value far out: no factor with an unknown is small there -/
def sh (g : Nat → Int) (j : Nat) : Int := if j = 0 then 0 else g (j - 1)
theorem sumN_first (n : Nat) (f : Nat → Int) : sumN (n + 1) f = f 0 + sumN n fun j => f (j + 1) := by
  induction n with
  | zero => simp [sumN]
  | succ n ih =>
    rw [show sumN (n + 1 + 1) f = sumN (n + 1) f + f (n + 1) from rfl, ih]
    simp only [sumN]; omega
theorem pm_sh (f g : Nat → Int) (k : Nat) : pm f (sh g) k = sh (pm f g) k := by
  unfold sh
  by_cases h : k = 0
  · subst h
    rw [if_pos rfl]
    simp [pm, sumN]
  · rw [if_neg h]
    obtain ⟨m, rfl⟩ : ∃ m, k = m + 1 := ⟨k - 1, by omega⟩
    unfold pm
    rw [show sumN (m + 1 + 1) (fun j => f j * if m + 1 - j = 0 then 0 else g (m + 1 - j - 1)) = sumN (m + 1) (fun j => f j * if m + 1 - j = 0 then 0 else g (m + 1 - j - 1)) + f (m + 1) * (if m + 1 - (m + 1) = 0 then 0 else g (m + 1 - (m + 1) - 1)) from rfl]
    rw [if_pos (by omega), Int.mul_zero, Int.add_zero, show m + 1 - 1 = m by omega]
    exact sumN_congr fun j hj => by rw [if_neg (by omega), show m + 1 - j - 1 = m - j by omega]
theorem pm_congr {f g h : Nat → Int} (e : ∀ j, g j = h j) (k : Nat) : pm f g k = pm f h k := sumN_congr fun j _ => by rw [e]
theorem pm_high {f g : Nat → Int} {t e : Nat} (hf : ∀ j, t + 1 ≤ j → f j = 0) (hg : ∀ j, e ≤ j → g j = 0) (k : Nat) (hk : t + e ≤ k) : pm f g k = 0 :=
  sumN_zero fun j hj => by
    by_cases h : t + 1 ≤ j
    · rw [hf j h, Int.zero_mul]
    · rw [hg (k - j) (by omega), Int.mul_zero]
/-- value of the part from s on -/
def ev (p : Int) (f : Nat → Int) : Nat → Nat → Int
  | 0, _ => 0
  | n + 1, s => f s + p * ev p f n (s + 1)
theorem ev_lin (p a b : Int) (f g : Nat → Int) : ∀ n s, ev p (fun j => a * f j - b * g j) n s = a * ev p f n s - b * ev p g n s
  | 0, _ => by simp [ev]
  | n + 1, s => by
    simp only [ev]
    rw [ev_lin p a b f g n (s + 1), Int.mul_sub, Int.mul_add, Int.mul_add, ← Int.mul_assoc p a, ← Int.mul_assoc p b, Int.mul_comm p a, Int.mul_comm p b, Int.mul_assoc, Int.mul_assoc]
    omega
/-- one step down -/
theorem down (p : Int) {K Z : Nat → Int} {e : Nat} (hK : ∀ j, e + 1 ≤ j → K j = 0) (hZ : ∀ j, e ≤ j → Z j = 0) :
    ∃ Z' : Nat → Int, (∀ j, e ≤ j → Z' j = 0) ∧ ∀ j, p * Z' j - sh Z' j = ev p K (e + 1) 0 * Z j - ev p Z (e + 1) 0 * K j := by
  let k0 := ev p K (e + 1) 0
  let z0 := ev p Z (e + 1) 0
  let F : Nat → Int := fun j => k0 * Z j - z0 * K j
  let v : Nat → Int := fun j => ev p F (e + 1 - j) j
  have hF : ∀ j, e + 1 ≤ j → F j = 0 := fun j hj => by show k0 * Z j - z0 * K j = 0; rw [hZ j (by omega), hK j hj]; simp
  have hv : ∀ j, v j = F j + p * v (j + 1) := fun j => by
    show ev p F (e + 1 - j) j = F j + p * ev p F (e + 1 - (j + 1)) (j + 1)
    by_cases h : j ≤ e
    · rw [show e + 1 - j = (e - j) + 1 by omega, show e + 1 - (j + 1) = e - j by omega]; rfl
    · rw [show e + 1 - j = 0 by omega, show e + 1 - (j + 1) = 0 by omega, hF j (by omega)]; simp [ev]
  have h0 : v 0 = 0 := by
    show ev p (fun j => k0 * Z j - z0 * K j) (e + 1) 0 = 0
    rw [ev_lin]
    show k0 * z0 - z0 * k0 = 0
    rw [Int.mul_comm]; omega
  refine ⟨fun j => - v (j + 1), fun j hj => ?_, fun j => ?_⟩
  · show - ev p F (e + 1 - (j + 1)) (j + 1) = 0
    rw [show e + 1 - (j + 1) = 0 by omega]; rfl
  · show p * (- v (j + 1)) - sh (fun j => - v (j + 1)) j = F j
    have a := hv j
    unfold sh
    by_cases h : j = 0
    · subst h
      rw [if_pos rfl]
      rw [h0] at a
      rw [Int.mul_neg]; omega
    · rw [if_neg h]
      show p * (- v (j + 1)) - (- v (j - 1 + 1)) = F j
      rw [show j - 1 + 1 = j by omega, Int.mul_neg]; omega
/-- a place with the greatest size, of finitely many -/
theorem sup_at (f : Nat → Int) : ∀ n, ∃ j, ∀ i, i < n → (f i).natAbs ≤ (f j).natAbs
  | 0 => ⟨0, fun i hi => by omega⟩
  | n + 1 => by
    obtain ⟨j, hj⟩ := sup_at f n
    by_cases h : (f j).natAbs ≤ (f n).natAbs
    · exact ⟨n, fun i hi => by
        by_cases e : i = n
        · rw [e]; exact Nat.le_refl _
        · exact Nat.le_trans (hj i (by omega)) h⟩
    · exact ⟨j, fun i hi => by
        by_cases e : i = n
        · rw [e]; omega
        · exact hj i (by omega)⟩
section
variable {p : Int} {K L : Nat → Int} {e t M : Nat} (he : 1 ≤ e) (hK : ∀ j, e + 1 ≤ j → K j = 0) (kt : K e ≠ 0) (hL : ∀ j, t + 1 ≤ j → L j = 0) (lt : L t ≠ 0) (hM : ∀ j, (pm L K j).natAbs ≤ M) (hp : (ev p K (e + 1) 0).natAbs + M + 1 < p.natAbs)
include he hK kt hL lt hM hp
/-- the size of the next one -/
theorem next_size {Z Z' : Nat → Int} {n : Nat} (hZ : ∀ j, e ≤ j → Z j = 0) (hZ' : ∀ j, e ≤ j → Z' j = 0) (hr : ∀ j, p * Z' j - sh Z' j = ev p K (e + 1) 0 * Z j - ev p Z (e + 1) 0 * K j) (hn : ∀ j, (pm L Z j).natAbs ≤ n) :
    ∃ b, (∀ j, (pm L Z' j).natAbs ≤ b) ∧ (ev p Z (e + 1) 0).natAbs ≤ b ∧ (p.natAbs - 1 - M) * b ≤ (ev p K (e + 1) 0).natAbs * n := by
  have r : ∀ j, p * pm L Z' j - sh (pm L Z') j = ev p K (e + 1) 0 * pm L Z j - ev p Z (e + 1) 0 * pm L K j := fun j => by
    rw [← pm_sh, ← pm_scale, ← pm_scale, ← pm_scale, ← pm_sub, ← pm_sub]
    exact pm_congr hr j
  obtain ⟨j0, hj0⟩ := sup_at (pm L Z') (t + e)
  have hb : ∀ j, (pm L Z' j).natAbs ≤ (pm L Z' j0).natAbs := fun j => by
    by_cases h : j < t + e
    · exact hj0 j h
    · rw [pm_high hL hZ' j (by omega)]; exact Nat.zero_le _
  have top : pm L K (e + t) = L t * K e := pm_top hL hK
  have hz : (ev p Z (e + 1) 0).natAbs ≤ (pm L Z' j0).natAbs := by
    have a := r (e + t)
    rw [pm_high hL hZ' (e + t) (by omega), pm_high hL hZ (e + t) (by omega), top] at a
    unfold sh at a
    rw [if_neg (by omega)] at a
    have a' : pm L Z' (e + t - 1) = ev p Z (e + 1) 0 * (L t * K e) := by
      rw [Int.mul_zero, Int.mul_zero] at a; omega
    have b := hb (e + t - 1)
    rw [a', Int.natAbs_mul, Int.natAbs_mul] at b
    have c : 1 ≤ (L t).natAbs * (K e).natAbs := Nat.mul_pos (Int.natAbs_pos.mpr lt) (Int.natAbs_pos.mpr kt)
    exact Nat.le_trans (Nat.le_mul_of_pos_right _ c) b
  refine ⟨_, hb, hz, ?_⟩
  have a := r j0
  generalize hB : (pm L Z' j0).natAbs = b at hb hz
  have s1 : (sh (pm L Z') j0).natAbs ≤ b := by
    unfold sh
    by_cases h : j0 = 0
    · rw [if_pos h]; exact Nat.zero_le _
    · rw [if_neg h]; exact hb _
  have e1 : (p * pm L Z' j0).natAbs = p.natAbs * b := by rw [Int.natAbs_mul, hB]
  have e2 : (ev p K (e + 1) 0 * pm L Z j0).natAbs ≤ (ev p K (e + 1) 0).natAbs * n := by rw [Int.natAbs_mul]; exact Nat.mul_le_mul_left _ (hn j0)
  have e3 : (ev p Z (e + 1) 0 * pm L K j0).natAbs ≤ b * M := by rw [Int.natAbs_mul]; exact Nat.mul_le_mul hz (hM j0)
  have e4 : p.natAbs * b ≤ (ev p K (e + 1) 0).natAbs * n + b * M + b := by omega
  have e5 : (p.natAbs - 1 - M) * b = p.natAbs * b - b - b * M := by rw [Nat.sub_mul, Nat.sub_mul, Nat.one_mul, Nat.mul_comm M b]
  omega
theorem no_small (h0 : ev p K (e + 1) 0 ≠ 0) : ∀ (n : Nat) (Z : Nat → Int), (∀ j, e ≤ j → Z j = 0) → (∀ j, (pm L Z j).natAbs ≤ n) → ∀ j, Z j = 0 := by
  intro n
  induction n using Nat.strongRecOn with
  | _ n ih =>
    intro Z hZ hn
    by_cases hn0 : n = 0
    · intro j
      have z := pm_deg (g := L) (d := Z) (m := t) hL lt 0 e (fun j hj => hZ j (by omega)) (fun k _ => by have := hn k; omega)
      exact z j (by omega)
    · obtain ⟨Z', hZ', hr⟩ := down p hK hZ
      obtain ⟨b, hb, hz, hs⟩ := next_size he hK kt hL lt hM hp hZ hZ' hr hn
      have lt1 : b < n := by
        refine Nat.lt_of_not_le fun hle => ?_
        have m1 : ((ev p K (e + 1) 0).natAbs + 1) * n ≤ (p.natAbs - 1 - M) * b := Nat.mul_le_mul (by omega) hle
        rw [Nat.succ_mul] at m1
        omega
      have z' := ih b lt1 Z' hZ' hb
      have r' : ∀ j, ev p K (e + 1) 0 * Z j = ev p Z (e + 1) 0 * K j := fun j => by
        have a := hr j
        rw [z' j] at a
        have s0 : sh Z' j = 0 := by
          unfold sh
          by_cases h : j = 0
          · rw [if_pos h]
          · rw [if_neg h]; exact z' _
        rw [s0, Int.mul_zero] at a; omega
      have zz : ev p Z (e + 1) 0 = 0 := by
        have a := r' e
        rw [hZ e (Nat.le_refl _), Int.mul_zero] at a
        exact (Int.mul_eq_zero.mp a.symm).resolve_right kt
      intro j
      have a := r' j
      rw [zz, Int.zero_mul] at a
      exact (Int.mul_eq_zero.mp a).resolve_left h0
/-- a factor with an unknown is no small number at p -/
theorem factor_far : False := by
  have ev1 : ∀ n, ev p (fun j => if j = 0 then (1 : Int) else 0) (n + 1) 0 = 1 := fun n => by
    have z : ∀ n s, ev p (fun j => if j = 0 then (1 : Int) else 0) n (s + 1) = 0 := fun n => by
      induction n with
      | zero => intro s; rfl
      | succ n ih => intro s; simp only [ev]; rw [ih (s + 1)]; simp
    simp only [ev]
    rw [z n 0]; simp
  have hZ : ∀ j, e ≤ j → (fun j => if j = 0 then (1 : Int) else 0) j = 0 := fun j hj => if_neg (by omega)
  obtain ⟨j0, hj0⟩ := sup_at (pm L fun j => if j = 0 then (1 : Int) else 0) (t + e)
  have hn : ∀ j, (pm L (fun j => if j = 0 then (1 : Int) else 0) j).natAbs ≤ (pm L (fun j => if j = 0 then (1 : Int) else 0) j0).natAbs := fun j => by
    by_cases h : j < t + e
    · exact hj0 j h
    · rw [pm_high hL hZ j (by omega)]; exact Nat.zero_le _
  by_cases h0 : ev p K (e + 1) 0 = 0
  · obtain ⟨Z', hZ', hr⟩ := down p hK hZ
    obtain ⟨b, hb, hz, hs⟩ := next_size he hK kt hL lt hM hp hZ hZ' hr hn
    rw [h0] at hs
    rw [ev1] at hz
    have hz1 : 1 ≤ b := hz
    have q : 0 < (p.natAbs - 1 - M) * b := Nat.mul_pos (by omega) hz1
    rw [Int.natAbs_zero, Nat.zero_mul] at hs
    omega
  · have := no_small he hK kt hL lt hM hp h0 _ _ hZ hn 0
    simp at this
end
end My
namespace My
/-! ### what divides all numbers of a product -/
def Prm (q : Nat) : Prop := 1 < q ∧ ∀ m, m ∣ q → m = 1 ∨ m = q
theorem prm_ex : ∀ n : Nat, 1 < n → ∃ q, q ∣ n ∧ Prm q := by
  intro n
  induction n using Nat.strongRecOn with
  | _ n ih =>
    intro h
    by_cases p : ∀ m, m ∣ n → m = 1 ∨ m = n
    · exact ⟨n, Nat.dvd_refl n, h, p⟩
    · obtain ⟨m, hm⟩ := Classical.not_forall.mp p
      have hd : m ∣ n := Classical.byContradiction fun z => hm fun y => absurd y z
      have h1 : ¬ (m = 1 ∨ m = n) := fun z => hm fun _ => z
      have h0 : m ≠ 0 := fun z => by rw [z] at hd; have := Nat.eq_zero_of_zero_dvd hd; omega
      have hle := Nat.le_of_dvd (by omega) hd
      obtain ⟨q, hq, hp⟩ := ih m (by omega) (by omega)
      exact ⟨q, Nat.dvd_trans hq hd, hp⟩
theorem two_prm : Prm 2 := ⟨by decide, fun m hm => by
  have h1 := Nat.le_of_dvd (by decide) hm
  have h2 : m ≠ 0 := fun z => by
    rw [z] at hm
    exact absurd (Nat.eq_zero_of_zero_dvd hm) (by decide)
  omega⟩
theorem prm_mul {q : Nat} (hq : Prm q) {x y : Int} (h : (q : Int) ∣ x * y) : (q : Int) ∣ x ∨ (q : Int) ∣ y := by
  have h' : q ∣ x.natAbs * y.natAbs := by
    have := Int.natAbs_dvd_natAbs.mpr h
    rwa [Int.natAbs_natCast, Int.natAbs_mul] at this
  rcases hq.2 (Nat.gcd q x.natAbs) (Nat.gcd_dvd_left _ _) with z | z
  · refine .inr ?_
    have : q ∣ y.natAbs := Nat.Coprime.dvd_of_dvd_mul_left z h'
    exact Int.natAbs_dvd_natAbs.mp (by rw [Int.natAbs_natCast]; exact this)
  · refine .inl ?_
    have : q ∣ x.natAbs := by have := Nat.gcd_dvd_right q x.natAbs; rwa [z] at this
    exact Int.natAbs_dvd_natAbs.mp (by rw [Int.natAbs_natCast]; exact this)
theorem first_not {q : Int} {f : Nat → Int} (h : ¬ ∀ j, q ∣ f j) : ∃ i, ¬ q ∣ f i ∧ ∀ j, j < i → q ∣ f j := by
  obtain ⟨n, hn⟩ := Classical.not_forall.mp h
  induction n using Nat.strongRecOn with
  | _ n ih =>
    by_cases z : ∀ j, j < n → q ∣ f j
    · exact ⟨n, hn, z⟩
    · obtain ⟨j, hj⟩ := Classical.not_forall.mp z
      have h1 : j < n := Classical.byContradiction fun y => hj fun x => absurd x y
      exact ih j h1 fun y => hj fun _ => y
theorem sum_dvd {q : Int} {f : Nat → Int} : ∀ n, (∀ j, j < n → q ∣ f j) → q ∣ sumN n f
  | 0, _ => Int.dvd_zero q
  | n + 1, h => Int.dvd_add (sum_dvd n fun j hj => h j (by omega)) (h n (by omega))
/-- all but one -/
theorem sum_one_dvd {q : Int} {f : Nat → Int} {i : Nat} : ∀ n, i < n → (∀ j, j < n → j ≠ i → q ∣ f j) → q ∣ sumN n f → q ∣ f i
  | 0, h, _, _ => by omega
  | n + 1, hi, h, hs => by
    have e : sumN (n + 1) f = sumN n f + f n := rfl
    rw [e] at hs
    by_cases z : i = n
    · subst z
      exact (Int.dvd_add_right (sum_dvd i fun j hj => h j (by omega) (by omega))).mp hs
    · have fn := h n (by omega) (by omega)
      exact sum_one_dvd n (by omega) (fun j hj hne => h j (by omega) hne) ((Int.dvd_add_left fn).mp hs)
theorem gauss {q : Nat} (hq : Prm q) {f g : Nat → Int} (h : ∀ k, (q : Int) ∣ pm f g k) : (∀ j, (q : Int) ∣ f j) ∨ (∀ j, (q : Int) ∣ g j) := by
  by_cases hf : ∀ j, (q : Int) ∣ f j
  · exact .inl hf
  by_cases hg : ∀ j, (q : Int) ∣ g j
  · exact .inr hg
  exfalso
  obtain ⟨a, ha, ha'⟩ := first_not hf
  obtain ⟨b, hb, hb'⟩ := first_not hg
  have hs := h (a + b)
  have := sum_one_dvd (i := a) (a + b + 1) (by omega) (fun j hj hne => by
    show (q : Int) ∣ f j * g (a + b - j)
    by_cases z : j < a
    · exact Int.dvd_trans (ha' j z) (Int.dvd_mul_right _ _)
    · exact Int.dvd_trans (hb' (a + b - j) (by omega)) (Int.dvd_mul_left _ _)) hs
  rw [show a + b - a = b by omega] at this
  exact (prm_mul hq this).elim ha hb
/-- nothing above 1 divides all numbers -/
def Prim (f : Nat → Int) : Prop := ∀ d : Nat, (∀ j, (d : Int) ∣ f j) → d = 1
theorem prim_mul {f g : Nat → Int} (hf : Prim f) (hg : Prim g) : Prim (pm f g) := fun d hd => by
  by_cases h1 : d = 1
  · exact h1
  by_cases h0 : d = 0
  · -- all numbers nought: then 2 divides them
    have z : ∀ k, ((2 : Nat) : Int) ∣ pm f g k := fun k => by
      have := hd k
      rw [h0] at this
      have e : pm f g k = 0 := Int.zero_dvd.mp (by simpa using this)
      rw [e]; exact Int.dvd_zero _
    rcases gauss (q := 2) two_prm z with y | y
    · exact absurd (hf 2 y) (by decide)
    · exact absurd (hg 2 y) (by decide)
  · obtain ⟨q, hq, hp⟩ := prm_ex d (by omega)
    have z : ∀ k, (q : Int) ∣ pm f g k := fun k => Int.dvd_trans (Int.natCast_dvd_natCast.mpr hq) (hd k)
    rcases gauss hp z with y | y
    · have := hf q y; have := hp.1; omega
    · have := hg q y; have := hp.1; omega
/-- what times a primitive one is divided by m is divided by m -/
theorem prim_dvd {f : Nat → Int} (hf : Prim f) : ∀ (m : Nat), 0 < m → ∀ k : Nat → Int, (∀ j, (m : Int) ∣ pm f k j) → ∀ j, (m : Int) ∣ k j := by
  intro m
  induction m using Nat.strongRecOn with
  | _ m ih =>
    intro h0 k hk
    by_cases h1 : m = 1
    · intro j; rw [h1]; exact Int.one_dvd _
    obtain ⟨q, ⟨r, hr⟩, hp⟩ := prm_ex m (by omega)
    have q1 := hp.1
    have r0 : 0 < r := Nat.pos_of_ne_zero fun z => by rw [z] at hr; omega
    have rm : r < m := by
      rw [hr]
      calc r = 1 * r := (Nat.one_mul r).symm
        _ < q * r := Nat.mul_lt_mul_of_pos_right q1 r0
    have mq : (m : Int) = (q : Int) * (r : Int) := by rw [hr]; exact Int.natCast_mul q r
    have d1 : ∀ j, (q : Int) ∣ k j := by
      rcases gauss hp (f := f) (g := k) fun j => Int.dvd_trans (by rw [mq]; exact Int.dvd_mul_right _ _) (hk j) with y | y
      · have := hf q y; omega
      · exact y
    have e : ∀ j, k j = q * (k j / q) := fun j => (Int.mul_ediv_cancel' (d1 j)).symm
    have d2 := ih r rm r0 (fun j => k j / q) fun j => by
      have a := hk j
      have b : pm f k j = q * pm f (fun j => k j / q) j := by
        rw [← pm_scale]
        refine sumN_congr fun i _ => ?_
        show f i * k (j - i) = f i * (q * (k (j - i) / q))
        rw [← e]
      rw [b, mq] at a
      exact Int.dvd_of_mul_dvd_mul_left (by omega) a
    intro j
    rw [e j, mq]
    exact Int.mul_dvd_mul_left _ (d2 j)
end My
namespace My
/-! ### products of lists by their values -/
def addP : List Int → List Int → List Int
  | [], ys => ys
  | xs, [] => xs
  | x :: xs, y :: ys => (x + y) :: addP xs ys
theorem val_addP (n : Int) : ∀ xs ys, val n (addP xs ys) = val n xs + val n ys
  | [], ys => by simp [addP, val]
  | x :: xs, [] => by simp [addP, val]
  | x :: xs, y :: ys => by
    simp only [addP, val]
    rw [val_addP n xs ys, Int.mul_add]; omega
theorem val_map (n c : Int) : ∀ xs : List Int, val n (xs.map fun x => c * x) = c * val n xs
  | [] => by simp [val]
  | x :: xs => by
    simp only [List.map_cons, val]
    rw [val_map n c xs, Int.mul_add, ← Int.mul_assoc n c, Int.mul_comm n c, Int.mul_assoc]
def mulP : List Int → List Int → List Int
  | [], _ => []
  | c :: f, g => addP (g.map fun x => c * x) (0 :: mulP f g)
theorem val_mulP (n : Int) : ∀ f g, val n (mulP f g) = val n f * val n g
  | [], g => by simp [mulP, val]
  | c :: f, g => by
    simp only [mulP]
    rw [val_addP, val_map]
    simp only [val]
    rw [val_mulP n f g, Int.add_mul, Int.mul_assoc]; omega
theorem co_addP : ∀ (xs ys : List Int) (k : Nat), co (addP xs ys) k = co xs k + co ys k
  | [], ys, k => by simp [addP, co_nil]
  | x :: xs, [], k => by simp [addP, co_nil]
  | x :: xs, y :: ys, k => by
    simp only [addP]
    rw [co_cons, co_cons, co_cons]
    by_cases h : k = 0
    · simp [h]
    · rw [if_neg h, if_neg h, if_neg h, co_addP xs ys]
theorem co_mulP : ∀ (f g : List Int) (k : Nat), co (mulP f g) k = pm (co f) (co g) k
  | [], g, k => by
    rw [show mulP [] g = [] from rfl, co_nil]
    exact (sumN_zero fun j _ => by rw [co_nil, Int.zero_mul]).symm
  | c :: f, g, k => by
    simp only [mulP]
    rw [co_addP, co_cons]
    have e1 : co (g.map fun x => c * x) k = c * co g k := by
      by_cases h : k < g.length
      · rw [co_lt (by simpa using h), co_lt h, List.getElem_map]
      · rw [co_ge (by simp; omega), co_ge (by omega), Int.mul_zero]
    rw [e1]
    unfold pm
    rw [sumN_first]
    have e2 : co (c :: f) 0 = c := rfl
    rw [e2, Nat.sub_zero]
    by_cases h : k = 0
    · subst h
      rw [if_pos rfl]; simp [sumN]
    · rw [if_neg h, co_mulP f g (k - 1)]
      obtain ⟨m, rfl⟩ : ∃ m, k = m + 1 := ⟨k - 1, by omega⟩
      unfold pm
      rw [show m + 1 - 1 = m by omega]
      congr 1
      refine sumN_congr fun j hj => ?_
      rw [co_cons, if_neg (by omega), show j + 1 - 1 = j by omega, show m + 1 - (j + 1) = m - j by omega]
theorem val_pad (n : Int) (xs : List Int) : ∀ k, val n (xs ++ List.replicate k 0) = val n xs := by
  intro k
  induction xs with
  | nil =>
    induction k with
    | zero => rfl
    | succ k ih => rw [List.nil_append] at *; rw [List.replicate_succ]; simp only [val]; rw [ih]; simp [val]
  | cons x xs ih => simp only [List.cons_append, val]; rw [ih]
theorem co_pad (xs : List Int) (k j : Nat) : co (xs ++ List.replicate k 0) j = co xs j := by
  by_cases h : j < xs.length
  · unfold co; rw [List.getD_eq_getElem?_getD, List.getD_eq_getElem?_getD, List.getElem?_append_left h]
  · rw [co_ge (xs := xs) (by omega)]
    unfold co
    rw [List.getD_eq_getElem?_getD, List.getElem?_append_right (by omega), List.getElem?_replicate]
    split <;> rfl
theorem co_of_val {xs ys : List Int} (h : ∀ n, val n xs = val n ys) (k : Nat) : co xs k = co ys k := by
  have e : xs ++ List.replicate ys.length 0 = ys ++ List.replicate xs.length 0 := val_ext (by simp; omega) fun n => by rw [val_pad, val_pad, h]
  rw [← co_pad xs ys.length k, e, co_pad]
theorem val_of_co {xs ys : List Int} (h : ∀ k, co xs k = co ys k) (n : Int) : val n xs = val n ys := by
  have e : xs ++ List.replicate ys.length 0 = ys ++ List.replicate xs.length 0 := co_ext (by simp; omega) fun k _ => by rw [co_pad, co_pad, h]
  rw [← val_pad n xs ys.length, e, val_pad]
theorem div_val {one other q : List Int} : Div one other q ↔ ∀ n, val n one = val n other * val n q := by
  constructor
  · intro h n
    rw [← val_mulP]
    exact val_of_co (fun k => by rw [h k, co_mulP]) n
  · intro h k
    rw [← co_mulP]
    exact co_of_val (fun n => by rw [h n, val_mulP]) k
theorem ev_val (p : Int) (xs : List Int) : ∀ n s, ev p (co xs) n s = val p ((xs.drop s).take n)
  | 0, s => by simp [ev, val]
  | n + 1, s => by
    simp only [ev]
    rw [ev_val p xs n (s + 1)]
    by_cases h : s < xs.length
    · rw [List.drop_eq_getElem_cons h, List.take_succ_cons]
      simp only [val]
      rw [co_lt h]
    · rw [co_ge (by omega), List.drop_eq_nil_of_le (by omega), List.drop_eq_nil_of_le (by omega)]; simp [val]
/-! ### what stands when the search for the common ends -/
theorem common_found {p : Int} {M : Nat} {f a b g x y qa qb U V : List Int} {c h m : Int} (hp : 2 * (M : Int) + 29 ≤ p)
    (fp : Prim (co f)) (fn : Nml f) (f0 : f ≠ []) (c1 : 1 ≤ c) (fs : ∀ z ∈ f, 2 * (c * z).natAbs ≤ p.natAbs) (gp : Prim (co g)) (gn : Nml g)
    (ha : Div a g x) (hb : Div b g y) (hM : (a ≠ [] ∧ Nml a ∧ ∀ z ∈ a, z.natAbs ≤ M) ∨ (b ≠ [] ∧ Nml b ∧ ∀ z ∈ b, z.natAbs ≤ M))
    (fa : Div a f qa) (fb : Div b f qb) (m0 : m ≠ 0) (bz : ∀ n, val n U * val n a + val n V * val n b = m * val n g) (h1 : 1 ≤ h) (fv : 0 < val p f) (hv : c * val p f = h * (val p g).natAbs) :
    f = g ∨ f = g.map fun z => -1 * z := by
  have va := div_val.mp ha
  have vb := div_val.mp hb
  have wa := div_val.mp fa
  have wb := div_val.mp fb
  let W := addP (mulP U qa) (mulP V qb)
  have vW : ∀ n, val n f * val n W = m * val n g := fun n => by
    show val n f * val n (addP (mulP U qa) (mulP V qb)) = _
    rw [val_addP, val_mulP, val_mulP, ← bz n, wa n, wb n, Int.mul_add, Int.mul_left_comm, Int.mul_left_comm (val n V)]
  have dW : ∀ j, ((m.natAbs : Nat) : Int) ∣ pm (co f) (co W) j := fun j => by
    rw [← co_mulP, co_of_val (ys := g.map fun z => m * z) (fun n => by rw [val_mulP, vW, val_map]) j]
    have e1 : co (g.map fun z => m * z) j = m * co g j := by
      by_cases h : j < g.length
      · rw [co_lt (by simpa using h), co_lt h, List.getElem_map]
      · rw [co_ge (by simp; omega), co_ge (by omega), Int.mul_zero]
    rw [e1]
    exact Int.dvd_trans (Int.natAbs_dvd.mpr (Int.dvd_refl m)) (Int.dvd_mul_right _ _)
  have dk := prim_dvd fp m.natAbs (Int.natAbs_pos.mpr m0) (co W) dW
  let k := trim (W.map fun z => z / m)
  have vk : ∀ n, val n g = val n f * val n k := fun n => by
    have e : val n W = m * val n k := by
      show _ = m * val n (trim (W.map fun z => z / m))
      rw [val_of_co (trim_co _) n, ← val_map]
      refine val_of_co (fun j => ?_) n
      rw [List.map_map]
      by_cases h : j < W.length
      · rw [co_lt (xs := W) h, co_lt (xs := W.map _) (by simpa using h), List.getElem_map]
        have z := dk j
        rw [co_lt h] at z
        exact (Int.mul_ediv_cancel' (Int.natAbs_dvd.mp z)).symm
      · rw [co_ge (xs := W) (by omega), co_ge (xs := W.map _) (by simp; omega)]
    have z := vW n
    rw [e, Int.mul_left_comm] at z
    exact (Int.eq_of_mul_eq_mul_left m0 z).symm
  have kn : Nml k := trim_nml _
  have c2 : c = h * (val p k).natAbs := by
    have z := hv
    rw [vk p, Int.natAbs_mul, Int.natCast_mul, Int.natAbs_of_nonneg (Int.le_of_lt fv), Int.mul_comm, Int.mul_left_comm] at z
    exact Int.eq_of_mul_eq_mul_left (by omega) z
  have cp : 2 * c ≤ p := by
    have l0 := co_last fn f0
    have hl : f.length - 1 < f.length := by have := List.length_pos_iff.mpr f0; omega
    rw [co_lt hl] at l0
    have z := fs _ (List.getElem_mem hl)
    rw [Int.natAbs_mul] at z
    have z2 : c.natAbs ≤ c.natAbs * f[f.length - 1].natAbs := Nat.le_mul_of_pos_right _ (Int.natAbs_pos.mpr l0)
    omega
  have kc : ((val p k).natAbs : Int) ≤ c := by
    rw [c2]
    have : (0 : Int) ≤ ((val p k).natAbs : Int) := Int.natCast_nonneg _
    have z := Int.mul_le_mul_of_nonneg_right h1 this
    rw [Int.one_mul] at z; exact z
  have kl : ∀ (d w : List Int), d ≠ [] → Nml d → (∀ z ∈ d, z.natAbs ≤ M) → (∀ n, val n d = val n g * val n w) → k.length ≤ 1 := fun d w d0 dn dM vd => by
    refine Nat.le_of_not_lt fun h2 => ?_
    let l := trim (mulP f w)
    have vl : ∀ n, val n d = val n l * val n k := fun n => by
      show _ = val n (trim (mulP f w)) * _
      rw [val_of_co (trim_co _) n, val_mulP, vd, vk, Int.mul_assoc, Int.mul_comm (val n k), Int.mul_assoc]
    have l0 : l ≠ [] := fun z => by
      have e : d = [] := nml_zero dn fun j => by
        have := co_of_val (xs := d) (ys := []) (fun n => by rw [vl n, z]; simp [val]) j
        rw [this]; rfl
      exact d0 e
    have ll := List.length_pos_iff.mpr l0
    have k0 : k ≠ [] := List.length_pos_iff.mp (by omega)
    have dd : Div d l k := div_val.mpr vl
    refine factor_far (p := p) (K := co k) (L := co l) (e := k.length - 1) (t := l.length - 1) (M := M) (by omega) (fun j hj => co_ge (by omega)) (co_last kn k0) (fun j hj => co_ge (by omega)) (co_last (trim_nml _) l0) (fun j => ?_) ?_
    · rw [← dd j]
      by_cases hj : j < d.length
      · rw [co_lt hj]; exact dM _ (List.getElem_mem hj)
      · rw [co_ge (by omega)]; exact Nat.zero_le _
    · rw [ev_val, List.drop_zero, List.take_of_length_le (by omega)]
      omega
  have k1 : k.length ≤ 1 := by
    rcases hM with ⟨d0, dn, dM⟩ | ⟨d0, dn, dM⟩
    · exact kl a x d0 dn dM va
    · exact kl b y d0 dn dM vb
  have cg : ∀ k0 : Int, (∀ n, val n g = val n f * k0) → ∀ j, co g j = k0 * co f j := fun k0 hk j => by
    have e1 : co (f.map fun z => k0 * z) j = k0 * co f j := by
      by_cases h : j < f.length
      · rw [co_lt (xs := f.map _) (by simpa using h), co_lt h, List.getElem_map]
      · rw [co_ge (xs := f.map _) (by simp; omega), co_ge (by omega), Int.mul_zero]
    rw [← e1]
    exact co_of_val (fun n => by rw [hk n, val_map, Int.mul_comm]) j
  have two : ∀ d : Int, (∀ j, co g j = d * co f j) → d.natAbs = 1 := fun d hd => gp d.natAbs fun j => by
    rw [hd j]
    exact Int.dvd_trans (Int.natAbs_dvd.mpr (Int.dvd_refl d)) (Int.dvd_mul_right _ _)
  obtain ⟨k0, hk⟩ : ∃ k0 : Int, ∀ n, val n g = val n f * k0 := by
    generalize k = kk at k1 vk
    match kk, k1 with
    | [], _ => exact ⟨0, fun n => by rw [vk n]; simp [val]⟩
    | [z], _ => exact ⟨z, fun n => by rw [vk n]; simp [val]⟩
    | _ :: _ :: _, h => simp at h
  have cj := cg k0 hk
  have k01 := two k0 cj
  have kk : k0 = 1 ∨ k0 = -1 := by omega
  rcases kk with rfl | rfl
  · exact .inl (nml_ext fn gn fun j => by rw [cj j]; omega)
  · refine .inr (nml_ext fn (fun z ys e => ?_) fun j => ?_)
    · have e' := congrArg (List.map fun z => -1 * z) e
      rw [List.map_map, List.map_append, List.map_singleton] at e'
      have e2 : (fun z : Int => -1 * z) ∘ (fun z : Int => -1 * z) = id := funext fun z => by simp
      rw [e2, List.map_id] at e'
      have := gn _ _ e'
      omega
    · have e1 : co (g.map fun z => -1 * z) j = -1 * co g j := by
        by_cases h : j < g.length
        · rw [co_lt (xs := g.map _) (by simpa using h), co_lt h, List.getElem_map]
        · rw [co_ge (xs := g.map _) (by simp; omega), co_ge (by omega), Int.mul_zero]
      rw [e1, cj j]; omega
end My
namespace My
/-! ### balanced digits -/
theorem digits_uniq {p : Int} (hp : 0 < p) : ∀ (f g : List Int), (∀ x ∈ f, 2 * x.natAbs ≤ p.natAbs) → (∀ x ∈ g, 2 * x.natAbs < p.natAbs) → val p f = val p g → ∀ k, co f k = co g k := by
  have key : ∀ (x y s t : Int), 2 * x.natAbs ≤ p.natAbs → 2 * y.natAbs < p.natAbs → x + p * s = y + p * t → x = y ∧ s = t := fun x y s t hx hy h => by
    have e : p * (s - t) = y - x := by rw [Int.mul_sub]; omega
    have z : s - t = 0 := by
      rcases Int.lt_trichotomy (s - t) 0 with u | u | u
      · have := Int.mul_le_mul_of_nonneg_left (show s - t ≤ -1 by omega) (Int.le_of_lt hp)
        rw [e, Int.mul_neg, Int.mul_one] at this; omega
      · exact u
      · have := Int.mul_le_mul_of_nonneg_left (show 1 ≤ s - t by omega) (Int.le_of_lt hp)
        rw [e, Int.mul_one] at this; omega
    rw [z, Int.mul_zero] at e
    exact ⟨by omega, by omega⟩
  have nil : ∀ g : List Int, (∀ x ∈ g, 2 * x.natAbs ≤ p.natAbs) → val p g = 0 → ∀ k, co g k = 0 := by
    intro g
    induction g with
    | nil => intro _ _ k; rfl
    | cons y g ih =>
      intro hg h k
      have h' : y + p * val p g = 0 + p * 0 := by
        have : val p (y :: g) = y + p * val p g := rfl
        rw [this] at h; rw [Int.mul_zero]; omega
      obtain ⟨e1, e2⟩ := key y 0 (val p g) 0 (hg y (by simp)) (by simp; omega) h'
      rw [co_cons]
      by_cases z : k = 0
      · rw [if_pos z]; exact e1
      · rw [if_neg z]; exact ih (fun x hx => hg x (by simp [hx])) e2 (k - 1)
  intro f
  induction f with
  | nil =>
    intro g _ hg h k
    rw [nil g (fun x hx => Nat.le_of_lt (hg x hx)) h.symm k]; rfl
  | cons x f ih =>
    intro g hf hg h k
    cases g with
    | nil => rw [nil (x :: f) hf h k]; rfl
    | cons y g =>
      obtain ⟨e1, e2⟩ := key x y (val p f) (val p g) (hf x (by simp)) (hg y (by simp)) h
      rw [co_cons, co_cons]
      by_cases z : k = 0
      · rw [if_pos z, if_pos z]; exact e1
      · rw [if_neg z, if_neg z]
        exact ih g (fun w hw => hf w (by simp [hw])) (fun w hw => hg w (by simp [hw])) e2 (k - 1)
/-- how great a value is by its top -/
theorem digits_top {p : Int} (hp : 1 ≤ p) : ∀ (f : List Int), f ≠ [] → (∀ x ∈ f, 2 * x.natAbs ≤ p.natAbs) → 0 < co f (f.length - 1) → p ^ (f.length - 1) ≤ 2 ^ (f.length - 1) * val p f ∧ 0 < val p f := by
  intro f
  induction f with
  | nil => intro h; exact absurd rfl h
  | cons x f ih =>
    intro _ hf ht
    by_cases z : f = []
    · subst z
      have e : val p [x] = x := by simp [val]
      have ht' : 0 < x := ht
      rw [e]
      exact ⟨by simp; omega, ht'⟩
    · have hl := List.length_pos_iff.mpr z
      have ht' : 0 < co f (f.length - 1) := by
        have : (x :: f).length - 1 = f.length := by simp
        rw [this, co_cons, if_neg (by omega)] at ht
        exact ht
      obtain ⟨i1, i2⟩ := ih z (fun w hw => hf w (by simp [hw])) ht'
      have hx := hf x (by simp)
      have e : val p (x :: f) = x + p * val p f := rfl
      have m1 : p * 1 ≤ p * val p f := Int.mul_le_mul_of_nonneg_left (by omega) (by omega)
      have hv : p * val p f ≤ 2 * val p (x :: f) := by rw [e]; omega
      refine ⟨?_, by omega⟩
      have l1 : (x :: f).length - 1 = f.length - 1 + 1 := by simp; omega
      rw [l1, Int.pow_succ, Int.pow_succ]
      have two : (0 : Int) ≤ 2 ^ (f.length - 1) := Int.pow_nonneg (by decide)
      calc p ^ (f.length - 1) * p ≤ 2 ^ (f.length - 1) * val p f * p := Int.mul_le_mul_of_nonneg_right i1 (by omega)
        _ = 2 ^ (f.length - 1) * (p * val p f) := by rw [Int.mul_assoc, Int.mul_comm (val p f) p]
        _ ≤ 2 ^ (f.length - 1) * (2 * val p (x :: f)) := Int.mul_le_mul_of_nonneg_left hv two
        _ = 2 ^ (f.length - 1) * 2 * val p (x :: f) := by rw [Int.mul_assoc]
end My
namespace My
open PySem PySem.Spec PyProof.Rows L2
def top (i : Nat) : Stmt := PySem.Challenge.pw_sumcraft_k35_thinned.main.body.getD i (.Pass ⟨0, 0, 0, 0⟩)
abbrev s_trimmed : Stmt := top 4
theorem sc_trimmed : FnScope ["numbers", "size"] ["numbers"] (defScope s_trimmed) := ⟨rfl, rfl, rfl, by decide +kernel, rfl, by decide +kernel, by decide +kernel⟩
abbrev s_shifted : Stmt := top 5
theorem sc_shifted : FnScope ["poly", "by", "answer", "low", "place"] ["poly", "by"] (defScope s_shifted) := ⟨rfl, rfl, rfl, by decide +kernel, rfl, by decide +kernel, by decide +kernel⟩
abbrev s_poly_value : Stmt := top 6
theorem sc_poly_value : FnScope ["poly", "n", "answer", "number"] ["poly", "n"] (defScope s_poly_value) := ⟨rfl, rfl, rfl, by decide +kernel, rfl, by decide +kernel, by decide +kernel⟩
abbrev s_quotient : Stmt := top 7
theorem sc_quotient : FnScope ["one", "other", "rest", "steps", "answer", "low", "top", "factor", "place", "number"] ["one", "other"] (defScope s_quotient) := ⟨rfl, rfl, rfl, by decide +kernel, rfl, by decide +kernel, by decide +kernel⟩
abbrev s_divisor : Stmt := top 12
theorem sc_divisor : FnScope ["one", "other", "big", "small", "pair", "rest"] ["one", "other"] (defScope s_divisor) := ⟨rfl, rfl, rfl, by decide +kernel, rfl, by decide +kernel, by decide +kernel⟩
abbrev s_content : Stmt := top 14
theorem sc_content : FnScope ["poly", "answer", "number"] ["poly"] (defScope s_content) := ⟨rfl, rfl, rfl, by decide +kernel, rfl, by decide +kernel, by decide +kernel⟩
abbrev s_over : Stmt := top 15
theorem sc_over : FnScope ["poly", "number"] ["poly", "number"] (defScope s_over) := ⟨rfl, rfl, rfl, by decide +kernel, rfl, by decide +kernel, by decide +kernel⟩
abbrev s_upright : Stmt := top 16
theorem sc_upright : FnScope ["poly"] ["poly"] (defScope s_upright) := ⟨rfl, rfl, rfl, by decide +kernel, rfl, by decide +kernel, by decide +kernel⟩
abbrev s_spread : Stmt := top 17
theorem sc_spread : FnScope ["number", "base", "answer", "low"] ["number", "base"] (defScope s_spread) := ⟨rfl, rfl, rfl, by decide +kernel, rfl, by decide +kernel, by decide +kernel⟩
abbrev s_greatest_size : Stmt := top 18
theorem sc_greatest_size : FnScope ["poly"] ["poly"] (defScope s_greatest_size) := ⟨rfl, rfl, rfl, by decide +kernel, rfl, by decide +kernel, by decide +kernel⟩
abbrev s_bare_common : Stmt := top 19
theorem sc_bare_common : FnScope ["one", "other", "place", "found"] ["one", "other"] (defScope s_bare_common) := ⟨rfl, rfl, rfl, by decide +kernel, rfl, by decide +kernel, by decide +kernel⟩
abbrev s_common : Stmt := top 20
theorem sc_common : FnScope ["one", "other", "first", "second", "shared"] ["one", "other"] (defScope s_common) := ⟨rfl, rfl, rfl, by decide +kernel, rfl, by decide +kernel, by decide +kernel⟩
abbrev s_common_of : Stmt := top 21
theorem sc_common_of : FnScope ["polys", "answer", "poly"] ["polys"] (defScope s_common_of) := ⟨rfl, rfl, rfl, by decide +kernel, rfl, by decide +kernel, by decide +kernel⟩
abbrev s_clear : Stmt := top 22
theorem sc_clear : FnScope ["poly", "m", "moved"] ["poly", "m"] (defScope s_clear) := ⟨rfl, rfl, rfl, by decide +kernel, rfl, by decide +kernel, by decide +kernel⟩
abbrev s_thinned : Stmt := top 24
theorem sc_thinned : FnScope ["polys", "shared"] ["polys"] (defScope s_thinned) := ⟨rfl, rfl, rfl, by decide +kernel, rfl, by decide +kernel, by decide +kernel⟩
abbrev s__law_cell_at : Stmt := top 26
theorem sc__law_cell_at : FnScope ["_law_script", "_law_k"] ["_law_script", "_law_k"] (defScope s__law_cell_at) := ⟨rfl, rfl, rfl, by decide +kernel, rfl, by decide +kernel, by decide +kernel⟩
abbrev s__law_cut : Stmt := top 27
theorem sc__law_cut : FnScope ["_law_numbers", "_law_found"] ["_law_numbers"] (defScope s__law_cut) := ⟨rfl, rfl, rfl, by decide +kernel, rfl, by decide +kernel, by decide +kernel⟩
abbrev s__law_product : Stmt := top 28
theorem sc__law_product : FnScope ["_law_one", "_law_other", "_law_found", "_law_i", "_law_j"] ["_law_one", "_law_other"] (defScope s__law_product) := ⟨rfl, rfl, rfl, by decide +kernel, rfl, by decide +kernel, by decide +kernel⟩
abbrev s__law_factor : Stmt := top 29
theorem sc__law_factor : FnScope ["_law_cell", "_law_a", "_law_b"] ["_law_cell"] (defScope s__law_factor) := ⟨rfl, rfl, rfl, by decide +kernel, rfl, by decide +kernel, by decide +kernel⟩
abbrev s__law_parts : Stmt := top 30
theorem sc__law_parts : FnScope ["_law_script", "_law_h", "_law_more", "_law_found", "_law_cell", "_law_turn"] ["_law_script"] (defScope s__law_parts) := ⟨rfl, rfl, rfl, by decide +kernel, rfl, by decide +kernel, by decide +kernel⟩
abbrev s__law_number : Stmt := top 31
theorem sc__law_number : FnScope ["_law_cell", "_law_number_here"] ["_law_cell"] (defScope s__law_number) := ⟨rfl, rfl, rfl, by decide +kernel, rfl, by decide +kernel, by decide +kernel⟩
abbrev s__law_is : Stmt := top 32
theorem sc__law_is : FnScope ["_law_found", "_law_due", "_law_poly", "_law_right", "_law_k"] ["_law_found", "_law_due"] (defScope s__law_is) := ⟨rfl, rfl, rfl, by decide +kernel, rfl, by decide +kernel, by decide +kernel⟩
abbrev s_law : Stmt := top 33
theorem sc_law : FnScope ["_law_script", "_law_parts_here", "_law_c", "_law_factor_here", "_law_goes", "_law_due", "_law_sign", "_law_polys", "_law_handed", "_law_found", "_law_poly"] ["_law_script"] (defScope s_law) := ⟨rfl, rfl, rfl, by decide +kernel, rfl, by decide +kernel, by decide +kernel⟩
/-- what stands behind the top -/
structure Tx (K : PySem.W.Frag) (mg : Str → Option Value) where
  a_trimmed : Addr
  fd_trimmed : FuncData
  F_trimmed : Fun K "trimmed" "trimmed" s_trimmed a_trimmed fd_trimmed
  m_trimmed : mg "trimmed" = some (.ref a_trimmed)
  b_trimmed : Binds K fd_trimmed ["numbers"] []
  a_shifted : Addr
  fd_shifted : FuncData
  F_shifted : Fun K "shifted" "shifted" s_shifted a_shifted fd_shifted
  m_shifted : mg "shifted" = some (.ref a_shifted)
  b_shifted : Binds K fd_shifted ["poly", "by"] []
  a_poly_value : Addr
  fd_poly_value : FuncData
  F_poly_value : Fun K "poly_value" "poly_value" s_poly_value a_poly_value fd_poly_value
  m_poly_value : mg "poly_value" = some (.ref a_poly_value)
  b_poly_value : Binds K fd_poly_value ["poly", "n"] []
  a_quotient : Addr
  fd_quotient : FuncData
  F_quotient : Fun K "quotient" "quotient" s_quotient a_quotient fd_quotient
  m_quotient : mg "quotient" = some (.ref a_quotient)
  b_quotient : Binds K fd_quotient ["one", "other"] []
  a_divisor : Addr
  fd_divisor : FuncData
  F_divisor : Fun K "divisor" "divisor" s_divisor a_divisor fd_divisor
  m_divisor : mg "divisor" = some (.ref a_divisor)
  b_divisor : Binds K fd_divisor ["one", "other"] []
  a_content : Addr
  fd_content : FuncData
  F_content : Fun K "content" "content" s_content a_content fd_content
  m_content : mg "content" = some (.ref a_content)
  b_content : Binds K fd_content ["poly"] []
  a_over : Addr
  fd_over : FuncData
  F_over : Fun K "over" "over" s_over a_over fd_over
  m_over : mg "over" = some (.ref a_over)
  b_over : Binds K fd_over ["poly", "number"] []
  a_upright : Addr
  fd_upright : FuncData
  F_upright : Fun K "upright" "upright" s_upright a_upright fd_upright
  m_upright : mg "upright" = some (.ref a_upright)
  b_upright : Binds K fd_upright ["poly"] []
  a_spread : Addr
  fd_spread : FuncData
  F_spread : Fun K "spread" "spread" s_spread a_spread fd_spread
  m_spread : mg "spread" = some (.ref a_spread)
  b_spread : Binds K fd_spread ["number", "base"] []
  a_greatest_size : Addr
  fd_greatest_size : FuncData
  F_greatest_size : Fun K "greatest_size" "greatest_size" s_greatest_size a_greatest_size fd_greatest_size
  m_greatest_size : mg "greatest_size" = some (.ref a_greatest_size)
  b_greatest_size : Binds K fd_greatest_size ["poly"] []
  a_bare_common : Addr
  fd_bare_common : FuncData
  F_bare_common : Fun K "bare_common" "bare_common" s_bare_common a_bare_common fd_bare_common
  m_bare_common : mg "bare_common" = some (.ref a_bare_common)
  b_bare_common : Binds K fd_bare_common ["one", "other"] []
  a_common : Addr
  fd_common : FuncData
  F_common : Fun K "common" "common" s_common a_common fd_common
  m_common : mg "common" = some (.ref a_common)
  b_common : Binds K fd_common ["one", "other"] []
  a_common_of : Addr
  fd_common_of : FuncData
  F_common_of : Fun K "common_of" "common_of" s_common_of a_common_of fd_common_of
  m_common_of : mg "common_of" = some (.ref a_common_of)
  b_common_of : Binds K fd_common_of ["polys"] []
  a_clear : Addr
  fd_clear : FuncData
  F_clear : Fun K "clear" "clear" s_clear a_clear fd_clear
  m_clear : mg "clear" = some (.ref a_clear)
  b_clear : Binds K fd_clear ["poly", "m"] []
  a_thinned : Addr
  fd_thinned : FuncData
  F_thinned : Fun K "thinned" "thinned" s_thinned a_thinned fd_thinned
  m_thinned : mg "thinned" = some (.ref a_thinned)
  b_thinned : Binds K fd_thinned ["polys"] []
  a__law_cell_at : Addr
  fd__law_cell_at : FuncData
  F__law_cell_at : Fun K "_law_cell_at" "_law_cell_at" s__law_cell_at a__law_cell_at fd__law_cell_at
  m__law_cell_at : mg "_law_cell_at" = some (.ref a__law_cell_at)
  b__law_cell_at : Binds K fd__law_cell_at ["_law_script", "_law_k"] []
  a__law_cut : Addr
  fd__law_cut : FuncData
  F__law_cut : Fun K "_law_cut" "_law_cut" s__law_cut a__law_cut fd__law_cut
  m__law_cut : mg "_law_cut" = some (.ref a__law_cut)
  b__law_cut : Binds K fd__law_cut ["_law_numbers"] []
  a__law_product : Addr
  fd__law_product : FuncData
  F__law_product : Fun K "_law_product" "_law_product" s__law_product a__law_product fd__law_product
  m__law_product : mg "_law_product" = some (.ref a__law_product)
  b__law_product : Binds K fd__law_product ["_law_one", "_law_other"] []
  a__law_factor : Addr
  fd__law_factor : FuncData
  F__law_factor : Fun K "_law_factor" "_law_factor" s__law_factor a__law_factor fd__law_factor
  m__law_factor : mg "_law_factor" = some (.ref a__law_factor)
  b__law_factor : Binds K fd__law_factor ["_law_cell"] []
  a__law_parts : Addr
  fd__law_parts : FuncData
  F__law_parts : Fun K "_law_parts" "_law_parts" s__law_parts a__law_parts fd__law_parts
  m__law_parts : mg "_law_parts" = some (.ref a__law_parts)
  b__law_parts : Binds K fd__law_parts ["_law_script"] []
  a__law_number : Addr
  fd__law_number : FuncData
  F__law_number : Fun K "_law_number" "_law_number" s__law_number a__law_number fd__law_number
  m__law_number : mg "_law_number" = some (.ref a__law_number)
  b__law_number : Binds K fd__law_number ["_law_cell"] []
  a__law_is : Addr
  fd__law_is : FuncData
  F__law_is : Fun K "_law_is" "_law_is" s__law_is a__law_is fd__law_is
  m__law_is : mg "_law_is" = some (.ref a__law_is)
  b__law_is : Binds K fd__law_is ["_law_found", "_law_due"] []
  a_law : Addr
  fd_law : FuncData
  F_law : Fun K "law" "law" s_law a_law fd_law
  m_law : mg "law" = some (.ref a_law)
  b_law : Binds K fd_law ["_law_script"] []
  c_NoNumber : Addr
  mc_NoNumber : mg "NoNumber" = some (.ref c_NoNumber)
  xc_NoNumber : PySem.W.excIn K c_NoNumber bmV "ValueError.__new__" = true
  z_len : mg "len" = none
  z_list : mg "list" = none
  z_range : mg "range" = none
  z_reversed : mg "reversed" = none
  z_max : mg "max" = none
  z_enumerate : mg "enumerate" = none
  z_abs : mg "abs" = none
  z_min : mg "min" = none
  z_zip : mg "zip" = none
  z_isinstance : mg "isinstance" = none
  z_bool : mg "bool" = none
  z_int : mg "int" = none
  g_LONG : { t : Tok // mg "LONG" = some (.int 4000 t) }
/-! #### divisors -/
theorem abs_nat (a : Int) : (if a < 0 then -a else a) = ((a.natAbs : Nat) : Int) := by split <;> omega
def spGcd : Sp := fun vs H Q _ => ∃ a b : Int, vs = [.int a, .int b] ∧ b.natAbs < 2 ^ 4000 ∧ Q (.int (Nat.gcd a.natAbs b.natAbs : Nat)) H
theorem bits_le {b : Int} (h : b.natAbs < 2 ^ 4000) : ¬ (4000 : Int) < ((Builtin.Int.intBits ((b.natAbs : Nat) : Int) : Nat) : Int) := by
  have := intBits_le_of (i := ((b.natAbs : Nat) : Int)) (k := 4000) (by rw [Int.natAbs_natCast]; exact h)
  omega
theorem ok_divisor {P : Program} {w : World} {K : PySem.W.Frag} {mg : Str → Option Value} {base : Heap} (T : Tx K mg) : FnOk P w K mg base CX0 1 T.a_divisor T.fd_divisor ["one", "other"] spGcd := by
  refine T.F_divisor.ok sc_divisor (fun vs H Q E h => ?_) (fun cdv A outer s H vs Q E hr h => ?_)
  · obtain ⟨a, b, rfl, _⟩ := h
    rfl
  obtain ⟨a, b, rfl, hb, q⟩ := h
  refine ⟨_, ((pss_cons (ps_set (i := 2) sc_divisor.nd rfl (Or.inl rfl) (pe_callB call_abs rfl T.z_abs bt_abs (pa_cons (pv 0) pa_nil)))
    (pss_cons (ps_set (i := 3) sc_divisor.nd rfl (Or.inl rfl) (pe_callB call_abs rfl T.z_abs bt_abs (pa_cons (pv 1) pa_nil)))
    (pss_cons (ps_while PassesOwn.never (pt_cmpR op_gt (pe_bm0 PySem.F.plainAttrs_int PySem.F.slot_int_bit_length PySem.F.type_int_bit_length mt_bitlen (pv 3)) (pe_glob (v := .int 4000) rfl T.g_LONG.2 ⟨_, rfl⟩) (nomark _)) pss_never)
    (pss_cons (ps_while PassesOwn.never (pt_cmpR op_ne (pv 3) pe_int (nomark _)) (pss_cons (ps_set (i := 5) sc_divisor.nd rfl (Or.inl rfl) (pe_op op_mod (pv 2) (pv 3)))
    (pss_cons (ps_set (i := 2) sc_divisor.nd rfl (Or.inl rfl) (pv 3))
    (pss_one (ps_set (i := 3) sc_divisor.nd rfl (Or.inl rfl) (pv 5))))))
    (pss_one (ps_ret (pv 2)))))))), ?_⟩
  simp only [a_izip, a_drop_nx, a_raise, a_seq, a_next, a_drop, a_ret, a_retN, a_if, a_asg, a_gname, a_gsub, a_gtup, a_gnil, a_gcons, a_aug, a_augS, a_ipI, a_var, a_c, a_op, a_un, a_rI, a_rI0, a_rU, a_eqI, a_neI, a_eqB, a_neB, a_tB, a_test, a_and, a_or, a_not, a_andV, a_orV, a_notV, a_nil, a_cons, a_lst, a_tup, a_call, a_cb, a_bm0, a_bm, a_sl, a_nopart, a_part, a_tyI, a_for, a_comp, a_ilist, a_irng1, a_irng2, a_irng3, a_cxK, and_assoc, a_irev, a_ienum, a_cat, a_rep, a_pop, a_clear, a_rslL, a_ixL, a_ixT, a_setL, a_app,
    List.getElem?_cons_zero, List.getElem?_cons_succ, List.set_cons_zero, List.set_cons_succ, Option.some.injEq, V.int.injEq, V.bl.injEq, V.ref.injEq, V.ty.injEq, exists_eq_left', exists_eq_left, exists_and_left, decide_eq_true_eq, List.cons_append, List.nil_append, List.append_nil, List.cons.injEq, and_true, true_and, Bool.not_eq_true', decide_eq_false_iff_not, ite_true, ite_false, Bool.false_eq_true, if_true, if_false, List.length_cons, List.length_nil, L2.start, List.map_cons, List.map_nil, List.replicate_succ, List.replicate_zero, abs_nat]
  refine while_of (fun m σ H' => σ = [some (V.int a), some (V.int b), some (V.int a.natAbs), some (V.int b.natAbs), none, none] ∧ H' = H) 0 ⟨rfl, rfl⟩ ?_
  rintro m σ H' ⟨rfl, rfl⟩
  simp only [a_izip, a_drop_nx, a_raise, a_seq, a_next, a_drop, a_ret, a_retN, a_if, a_asg, a_gname, a_gsub, a_gtup, a_gnil, a_gcons, a_aug, a_augS, a_ipI, a_var, a_c, a_op, a_un, a_rI, a_rI0, a_rU, a_eqI, a_neI, a_eqB, a_neB, a_tB, a_test, a_and, a_or, a_not, a_andV, a_orV, a_notV, a_nil, a_cons, a_lst, a_tup, a_call, a_cb, a_bm0, a_bm, a_sl, a_nopart, a_part, a_tyI, a_for, a_comp, a_ilist, a_irng1, a_irng2, a_irng3, a_cxK, and_assoc, a_irev, a_ienum, a_cat, a_rep, a_pop, a_clear, a_rslL, a_ixL, a_ixT, a_setL, a_app,
    List.getElem?_cons_zero, List.getElem?_cons_succ, List.set_cons_zero, List.set_cons_succ, Option.some.injEq, V.int.injEq, V.bl.injEq, V.ref.injEq, V.ty.injEq, exists_eq_left', exists_eq_left, exists_and_left, decide_eq_true_eq, List.cons_append, List.nil_append, List.append_nil, List.cons.injEq, and_true, true_and, Bool.not_eq_true', decide_eq_false_iff_not, ite_true, ite_false, Bool.false_eq_true, if_true, if_false, List.length_cons, List.length_nil, L2.start, List.map_cons, List.map_nil, List.replicate_succ, List.replicate_zero]
  rw [if_neg (bits_le hb)]
  refine while_of (fun m σ H1 => ∃ (x y : Nat) (r : Option V), σ = [some (V.int a), some (V.int b), some (.int x), some (.int y), none, r] ∧ H1 = H' ∧ m = y ∧ Nat.gcd x y = Nat.gcd a.natAbs b.natAbs) b.natAbs ⟨a.natAbs, b.natAbs, none, rfl, rfl, rfl, rfl⟩ ?_
  rintro m σ H1 ⟨x, y, r, rfl, rfl, rfl, hg⟩
  simp only [a_izip, a_drop_nx, a_raise, a_seq, a_next, a_drop, a_ret, a_retN, a_if, a_asg, a_gname, a_gsub, a_gtup, a_gnil, a_gcons, a_aug, a_augS, a_ipI, a_var, a_c, a_op, a_un, a_rI, a_rI0, a_rU, a_eqI, a_neI, a_eqB, a_neB, a_tB, a_test, a_and, a_or, a_not, a_andV, a_orV, a_notV, a_nil, a_cons, a_lst, a_tup, a_call, a_cb, a_bm0, a_bm, a_sl, a_nopart, a_part, a_tyI, a_for, a_comp, a_ilist, a_irng1, a_irng2, a_irng3, a_cxK, and_assoc, a_irev, a_ienum, a_cat, a_rep, a_pop, a_clear, a_rslL, a_ixL, a_ixT, a_setL, a_app,
    List.getElem?_cons_zero, List.getElem?_cons_succ, List.set_cons_zero, List.set_cons_succ, Option.some.injEq, V.int.injEq, V.bl.injEq, V.ref.injEq, V.ty.injEq, exists_eq_left', exists_eq_left, exists_and_left, decide_eq_true_eq, List.cons_append, List.nil_append, List.append_nil, List.cons.injEq, and_true, true_and, Bool.not_eq_true', decide_eq_false_iff_not, ite_true, ite_false, Bool.false_eq_true, if_true, if_false, List.length_cons, List.length_nil, L2.start, List.map_cons, List.map_nil, List.replicate_succ, List.replicate_zero]
  refine ite2 (fun h => ?_) (fun h => ?_)
  · refine ⟨fun σ' H2 => σ' = [some (V.int a), some (V.int b), some (V.int m), some (V.int ((x : Int) % (m : Int))), none, some (V.int ((x : Int) % (m : Int)))] ∧ H2 = H1, ?_, by omega, rfl, rfl⟩
    rintro σ' H2 ⟨rfl, rfl⟩
    refine ⟨x % m, Nat.mod_lt _ (by omega), m, x % m, _, by rw [← Int.natCast_emod], rfl, rfl, ?_⟩
    rw [Nat.gcd_comm m, ← Nat.gcd_rec, Nat.gcd_comm]; exact hg
  · have h0 : m = 0 := by omega
    subst h0
    rw [Nat.gcd_zero_right] at hg
    rw [hg]; exact q

/-! #### trimmed -/
def spTrim (K : PySem.W.Frag) : Sp := fun vs H Q _ => ∃ (a : Addr) (xs : List Int), vs = [.ref a] ∧ SqL K H a (xs.map V.int) ∧ xs.length ≤ 1000 ∧ newL H Q ((trim xs).map V.int)
theorem ok_trimmed {P : Program} {w : World} {K : PySem.W.Frag} {mg : Str → Option Value} {base : Heap} (T : Tx K mg) : FnOk P w K mg base CX0 1 T.a_trimmed T.fd_trimmed ["numbers"] (spTrim K) := by
  refine T.F_trimmed.ok sc_trimmed (fun vs H Q E h => ?_) (fun cdv A outer s H vs Q E hr h => ?_)
  · obtain ⟨a, xs, rfl, _⟩ := h
    rfl
  obtain ⟨a, xs, rfl, hS, hl, q⟩ := h
  refine ⟨_, ((pss_cons (ps_set (i := 1) sc_trimmed.nd rfl (Or.inl rfl) (pe_callB call_len_seq rfl T.z_len bt_len (pa_cons (pv 0) pa_nil)))
    (pss_cons (ps_while PassesOwn.never (PW.pt (pw_and (pt_cmpR op_gt (pv 1) pe_int (nomark _)) (pw_and1 (pt_cmpR op_eq (pe_ix ix_list (pv 0) (pe_op op_sub (pv 1) pe_int) (fun _ _ => rfl)) pe_int (nomark _))))) (pss_one (ps_aug (i := 1) sc_trimmed.nd rfl (Or.inl rfl) pe_int ip_sub)))
    (pss_one (ps_ret (pe_callTy call_list_of rfl T.z_list bt_list (pa_cons (pe_slice sl_list (pv 0) po_none (po_some (pv 1))) pa_nil))))))), ?_⟩
  simp only [a_izip, a_drop_nx, a_raise, a_seq, a_next, a_drop, a_ret, a_retN, a_if, a_asg, a_gname, a_gsub, a_gtup, a_gnil, a_gcons, a_aug, a_augS, a_ipI, a_var, a_c, a_op, a_un, a_rI, a_rI0, a_rU, a_eqI, a_neI, a_eqB, a_neB, a_tB, a_test, a_and, a_or, a_not, a_andV, a_orV, a_notV, a_nil, a_cons, a_lst, a_tup, a_call, a_cb, a_bm0, a_bm, a_sl, a_nopart, a_part, a_tyI, a_for, a_comp, a_ilist, a_irng1, a_irng2, a_irng3, a_cxK, and_assoc, a_irev, a_ienum, a_cat, a_rep, a_pop, a_clear, a_rslL, a_ixL, a_ixT, a_setL, a_app,
    List.getElem?_cons_zero, List.getElem?_cons_succ, List.set_cons_zero, List.set_cons_succ, Option.some.injEq, V.int.injEq, V.bl.injEq, V.ref.injEq, V.ty.injEq, exists_eq_left', exists_eq_left, exists_and_left, decide_eq_true_eq, List.cons_append, List.nil_append, List.append_nil, List.cons.injEq, and_true, true_and, Bool.not_eq_true', decide_eq_false_iff_not, ite_true, ite_false, Bool.false_eq_true, if_true, if_false, List.length_cons, List.length_nil, L2.start, List.map_cons, List.map_nil, List.replicate_succ, List.replicate_zero]
  refine ⟨_, .inl hS, ?_⟩
  rw [List.length_map]
  refine while_of (fun m σ H' => m ≤ xs.length ∧ σ = [some (.ref a), some (.int (m : Int))] ∧ H' = H ∧ ∀ k, m ≤ k → co xs k = 0) xs.length ⟨Nat.le_refl _, rfl, rfl, fun k hk => co_ge hk⟩ ?_
  have fin : ∀ n : Nat, n ≤ xs.length → trim xs = xs.take n → ∃ x, SqL K H a x ∧ ∀ p, H p = none → ∃ x1, (SqL K (upd H p (.lst (cutV x none (some (n : Int))))) p x1 ∨ SqT K (upd H p (.lst (cutV x none (some (n : Int))))) p x1) ∧
      ∀ l, upd H p (.lst (cutV x none (some (n : Int)))) l = none → Q (.ref l) (upd (upd H p (.lst (cutV x none (some (n : Int))))) l (.lst x1)) := by
    intro n hn e
    refine ⟨_, hS, fun p hp => ⟨_, .inl (SqL.of upd_same), fun r hr' => ?_⟩⟩
    rw [cutV_map] at hr' ⊢
    have e2 : ((xs.drop (HT.sIx xs.length 0 none)).take (HT.sIx xs.length xs.length (some ((n : Nat) : Int)) - HT.sIx xs.length 0 none)) = trim xs := by
      rw [HT.sIx_nat, HT.sIx_none, List.drop_zero, e, Nat.min_eq_left hn]; rfl
    rw [e2] at hr' ⊢
    exact q r _ ((same_upd hp _).trans (same_upd hr' _)) ((same_upd hp _).free hr') upd_same
  rintro m σ H' ⟨hm, rfl, rfl, hz⟩
  cases m with
  | zero =>
    simp only [a_izip, a_drop_nx, a_raise, a_seq, a_next, a_drop, a_ret, a_retN, a_if, a_asg, a_gname, a_gsub, a_gtup, a_gnil, a_gcons, a_aug, a_augS, a_ipI, a_var, a_c, a_op, a_un, a_rI, a_rI0, a_rU, a_eqI, a_neI, a_eqB, a_neB, a_tB, a_test, a_and, a_or, a_not, a_andV, a_orV, a_notV, a_nil, a_cons, a_lst, a_tup, a_call, a_cb, a_bm0, a_bm, a_sl, a_nopart, a_part, a_tyI, a_for, a_comp, a_ilist, a_irng1, a_irng2, a_irng3, a_cxK, and_assoc, a_irev, a_ienum, a_cat, a_rep, a_pop, a_clear, a_rslL, a_ixL, a_ixT, a_setL, a_app,
    List.getElem?_cons_zero, List.getElem?_cons_succ, List.set_cons_zero, List.set_cons_succ, Option.some.injEq, V.int.injEq, V.bl.injEq, V.ref.injEq, V.ty.injEq, exists_eq_left', exists_eq_left, exists_and_left, decide_eq_true_eq, List.cons_append, List.nil_append, List.append_nil, List.cons.injEq, and_true, true_and, Bool.not_eq_true', decide_eq_false_iff_not, ite_true, ite_false, Bool.false_eq_true, if_true, if_false, List.length_cons, List.length_nil, L2.start, List.map_cons, List.map_nil, List.replicate_succ, List.replicate_zero]
    rw [if_neg (by simp)]
    exact fin 0 (Nat.zero_le _) (trim_take (Nat.zero_le _) hz (.inl rfl))
  | succ m =>
    have e1 : ((m + 1 : Nat) : Int) - 1 = (m : Int) := by omega
    simp only [a_izip, a_drop_nx, a_raise, a_seq, a_next, a_drop, a_ret, a_retN, a_if, a_asg, a_gname, a_gsub, a_gtup, a_gnil, a_gcons, a_aug, a_augS, a_ipI, a_var, a_c, a_op, a_un, a_rI, a_rI0, a_rU, a_eqI, a_neI, a_eqB, a_neB, a_tB, a_test, a_and, a_or, a_not, a_andV, a_orV, a_notV, a_nil, a_cons, a_lst, a_tup, a_call, a_cb, a_bm0, a_bm, a_sl, a_nopart, a_part, a_tyI, a_for, a_comp, a_ilist, a_irng1, a_irng2, a_irng3, a_cxK, and_assoc, a_irev, a_ienum, a_cat, a_rep, a_pop, a_clear, a_rslL, a_ixL, a_ixT, a_setL, a_app,
    List.getElem?_cons_zero, List.getElem?_cons_succ, List.set_cons_zero, List.set_cons_succ, Option.some.injEq, V.int.injEq, V.bl.injEq, V.ref.injEq, V.ty.injEq, exists_eq_left', exists_eq_left, exists_and_left, decide_eq_true_eq, List.cons_append, List.nil_append, List.append_nil, List.cons.injEq, and_true, true_and, Bool.not_eq_true', decide_eq_false_iff_not, ite_true, ite_false, Bool.false_eq_true, if_true, if_false, List.length_cons, List.length_nil, L2.start, List.map_cons, List.map_nil, List.replicate_succ, List.replicate_zero, e1]
    rw [if_pos (by omega)]
    refine ⟨_, hS, _, at_int (by omega), ?_⟩
    simp only [a_izip, a_drop_nx, a_raise, a_seq, a_next, a_drop, a_ret, a_retN, a_if, a_asg, a_gname, a_gsub, a_gtup, a_gnil, a_gcons, a_aug, a_augS, a_ipI, a_var, a_c, a_op, a_un, a_rI, a_rI0, a_rU, a_eqI, a_neI, a_eqB, a_neB, a_tB, a_test, a_and, a_or, a_not, a_andV, a_orV, a_notV, a_nil, a_cons, a_lst, a_tup, a_call, a_cb, a_bm0, a_bm, a_sl, a_nopart, a_part, a_tyI, a_for, a_comp, a_ilist, a_irng1, a_irng2, a_irng3, a_cxK, and_assoc, a_irev, a_ienum, a_cat, a_rep, a_pop, a_clear, a_rslL, a_ixL, a_ixT, a_setL, a_app,
    List.getElem?_cons_zero, List.getElem?_cons_succ, List.set_cons_zero, List.set_cons_succ, Option.some.injEq, V.int.injEq, V.bl.injEq, V.ref.injEq, V.ty.injEq, exists_eq_left', exists_eq_left, exists_and_left, decide_eq_true_eq, List.cons_append, List.nil_append, List.append_nil, List.cons.injEq, and_true, true_and, Bool.not_eq_true', decide_eq_false_iff_not, ite_true, ite_false, Bool.false_eq_true, if_true, if_false, List.length_cons, List.length_nil, L2.start, List.map_cons, List.map_nil, List.replicate_succ, List.replicate_zero]
    refine ite2 (fun h => ?_) (fun h => ?_)
    · refine ⟨fun σ' H1 => σ' = [some (V.ref a), some (V.int (m : Int))] ∧ H1 = H', ?_, rfl, rfl⟩
      rintro σ' H1 ⟨rfl, rfl⟩
      refine ⟨m, Nat.lt_succ_self _, by omega, rfl, rfl, fun k hk => ?_⟩
      by_cases e : k = m
      · rw [e, co_lt (by omega)]; exact h
      · exact hz k (by omega)
    · exact fin (m + 1) hm (trim_take hm hz (.inr (by show co xs m ≠ 0; rw [co_lt (by omega)]; exact h)))

/-! #### poly_value -/
def spValue (K : PySem.W.Frag) : Sp := fun vs H Q _ => ∃ (a : Addr) (xs : List Int) (n : Int) (k l : Nat), vs = [.ref a, .int n] ∧ SqL K H a (xs.map V.int) ∧ xs.length ≤ 64 ∧ (∀ x ∈ xs, Bd k x) ∧ Bd l n ∧ k + l * 100 ≤ 60000000 ∧ Q (.int (val n xs)) H
theorem val_drop (n : Int) (xs : List Int) (i : Nat) (h : i < xs.length) : val n (xs.drop (xs.length - 1 - i)) = val n (xs.drop (xs.length - i)) * n + xs[xs.length - 1 - i] := by
  rw [List.drop_eq_getElem_cons (by omega), show xs.length - 1 - i + 1 = xs.length - i by omega]
  simp only [val]
  rw [Int.mul_comm]; omega
theorem ok_poly_value {P : Program} {w : World} {K : PySem.W.Frag} {mg : Str → Option Value} {base : Heap} (T : Tx K mg) : FnOk P w K mg base CX0 1 T.a_poly_value T.fd_poly_value ["poly", "n"] (spValue K) := by
  refine T.F_poly_value.ok sc_poly_value (fun vs H Q E h => ?_) (fun cdv A outer s H vs Q E hr h => ?_)
  · obtain ⟨a, xs, n, k, l, rfl, _⟩ := h
    rfl
  obtain ⟨a, xs, n, k, l, rfl, hS, hl, hk, hb, hf, q⟩ := h
  refine ⟨_, ((pss_cons (ps_set (i := 2) sc_poly_value.nd rfl (Or.inl rfl) pe_int)
    (pss_cons (ps_for PassesOwn.never rfl (pi_rev rfl T.z_reversed (pa_cons (pv 0) pa_nil)) (pg_name (i := 3) sc_poly_value.nd rfl (Or.inl rfl)) (pss_one (ps_set (i := 2) sc_poly_value.nd rfl (Or.inl rfl) (pe_op op_add (pe_op op_mulZ (pv 2) (pv 1)) (pv 3)))))
    (pss_one (ps_ret (pv 2)))))), ?_⟩
  simp only [a_izip, a_drop_nx, a_raise, a_seq, a_next, a_drop, a_ret, a_retN, a_if, a_asg, a_gname, a_gsub, a_gtup, a_gnil, a_gcons, a_aug, a_augS, a_ipI, a_var, a_c, a_op, a_un, a_rI, a_rI0, a_rU, a_eqI, a_neI, a_eqB, a_neB, a_tB, a_test, a_and, a_or, a_not, a_andV, a_orV, a_notV, a_nil, a_cons, a_lst, a_tup, a_call, a_cb, a_bm0, a_bm, a_sl, a_nopart, a_part, a_tyI, a_for, a_comp, a_ilist, a_irng1, a_irng2, a_irng3, a_cxK, and_assoc, a_irev, a_ienum, a_cat, a_rep, a_pop, a_clear, a_rslL, a_ixL, a_ixT, a_setL, a_app,
    List.getElem?_cons_zero, List.getElem?_cons_succ, List.set_cons_zero, List.set_cons_succ, Option.some.injEq, V.int.injEq, V.bl.injEq, V.ref.injEq, V.ty.injEq, exists_eq_left', exists_eq_left, exists_and_left, decide_eq_true_eq, List.cons_append, List.nil_append, List.append_nil, List.cons.injEq, and_true, true_and, Bool.not_eq_true', decide_eq_false_iff_not, ite_true, ite_false, Bool.false_eq_true, if_true, if_false, List.length_cons, List.length_nil, L2.start, List.map_cons, List.map_nil, List.replicate_succ, List.replicate_zero]
  refine ⟨_, hS, ?_⟩
  obtain ⟨Pv, hPv⟩ : ∃ Pv : Nat → L2.St → Hp → Prop, ∀ i σ H', Pv i σ H' ↔ (∃ r, σ = [some (V.ref a), some (V.int n), some (V.int (val n (xs.drop (xs.length - i)))), r]) ∧ Bd (k + (l + 1) * i) (val n (xs.drop (xs.length - i))) ∧ H' = H := ⟨_, fun _ _ _ => Iff.rfl⟩
  refine lp_rev Pv ((hPv _ _ _).mpr ⟨⟨none, by simp [val]⟩, by simp [val, Bd.zero], rfl⟩) (fun i σ H' _ z => by rw [((hPv i σ H').mp z).2.2]; exact hS) ?_ ?_
  · intro i v σ H' hi hv hp
    obtain ⟨⟨r, rfl⟩, hbd, rfl⟩ := (hPv _ _ _).mp hp
    rw [List.length_map] at hi hv
    rw [List.getElem?_map, List.getElem?_eq_getElem (by omega)] at hv
    obtain rfl : V.int xs[xs.length - 1 - i] = v := Option.some.inj hv
    simp only [a_izip, a_drop_nx, a_raise, a_seq, a_next, a_drop, a_ret, a_retN, a_if, a_asg, a_gname, a_gsub, a_gtup, a_gnil, a_gcons, a_aug, a_augS, a_ipI, a_var, a_c, a_op, a_un, a_rI, a_rI0, a_rU, a_eqI, a_neI, a_eqB, a_neB, a_tB, a_test, a_and, a_or, a_not, a_andV, a_orV, a_notV, a_nil, a_cons, a_lst, a_tup, a_call, a_cb, a_bm0, a_bm, a_sl, a_nopart, a_part, a_tyI, a_for, a_comp, a_ilist, a_irng1, a_irng2, a_irng3, a_cxK, and_assoc, a_irev, a_ienum, a_cat, a_rep, a_pop, a_clear, a_rslL, a_ixL, a_ixT, a_setL, a_app,
    List.getElem?_cons_zero, List.getElem?_cons_succ, List.set_cons_zero, List.set_cons_succ, Option.some.injEq, V.int.injEq, V.bl.injEq, V.ref.injEq, V.ty.injEq, exists_eq_left', exists_eq_left, exists_and_left, decide_eq_true_eq, List.cons_append, List.nil_append, List.append_nil, List.cons.injEq, and_true, true_and, Bool.not_eq_true', decide_eq_false_iff_not, ite_true, ite_false, Bool.false_eq_true, if_true, if_false, List.length_cons, List.length_nil, L2.start, List.map_cons, List.map_nil, List.replicate_succ, List.replicate_zero]
    have hx : Bd k xs[xs.length - 1 - i] := hk _ (List.getElem_mem _)
    have e : xs.length - (i + 1) = xs.length - 1 - i := by omega
    have i64 : (l + 1) * i ≤ l * 64 + 64 := by have := Nat.mul_le_mul_left (l + 1) (by omega : i ≤ 64); omega
    refine ⟨hbd.fits hb (by omega), (hPv _ _ _).mpr ⟨⟨_, by rw [e, val_drop n xs i hi]⟩, ?_, rfl⟩⟩
    rw [e, val_drop n xs i hi]
    refine ((hbd.mul hb).add (hx.mono (by omega : k ≤ k + (l + 1) * i + l))).mono ?_
    rw [Nat.mul_succ]; omega
  · intro σ H' hp
    obtain ⟨⟨r, rfl⟩, _, rfl⟩ := (hPv _ _ _).mp hp
    simp only [a_izip, a_drop_nx, a_raise, a_seq, a_next, a_drop, a_ret, a_retN, a_if, a_asg, a_gname, a_gsub, a_gtup, a_gnil, a_gcons, a_aug, a_augS, a_ipI, a_var, a_c, a_op, a_un, a_rI, a_rI0, a_rU, a_eqI, a_neI, a_eqB, a_neB, a_tB, a_test, a_and, a_or, a_not, a_andV, a_orV, a_notV, a_nil, a_cons, a_lst, a_tup, a_call, a_cb, a_bm0, a_bm, a_sl, a_nopart, a_part, a_tyI, a_for, a_comp, a_ilist, a_irng1, a_irng2, a_irng3, a_cxK, and_assoc, a_irev, a_ienum, a_cat, a_rep, a_pop, a_clear, a_rslL, a_ixL, a_ixT, a_setL, a_app,
    List.getElem?_cons_zero, List.getElem?_cons_succ, List.set_cons_zero, List.set_cons_succ, Option.some.injEq, V.int.injEq, V.bl.injEq, V.ref.injEq, V.ty.injEq, exists_eq_left', exists_eq_left, exists_and_left, decide_eq_true_eq, List.cons_append, List.nil_append, List.append_nil, List.cons.injEq, and_true, true_and, Bool.not_eq_true', decide_eq_false_iff_not, ite_true, ite_false, Bool.false_eq_true, if_true, if_false, List.length_cons, List.length_nil, L2.start, List.map_cons, List.map_nil, List.replicate_succ, List.replicate_zero]
    rw [List.length_map, Nat.sub_self, List.drop_zero]
    exact q

theorem rep_zero (k : Nat) : (List.replicate k [V.int 0]).flatten = (List.replicate k (0 : Int)).map V.int := by
  induction k with
  | zero => rfl
  | succ k ih => rw [List.replicate_succ, List.flatten_cons, ih, List.replicate_succ]; rfl
theorem co_rep (k j : Nat) : co (List.replicate k 0) j = 0 := by
  unfold co
  rw [List.getD_eq_getElem?_getD, List.getElem?_replicate]
  split <;> rfl
theorem co_app (xs : List Int) (k j : Nat) : co (xs ++ List.replicate k 0) j = co xs j := by
  by_cases h : j < xs.length
  · unfold co; rw [List.getD_eq_getElem?_getD, List.getD_eq_getElem?_getD, List.getElem?_append_left h]
  · rw [co_ge (xs := xs) (by omega)]
    unfold co
    rw [List.getD_eq_getElem?_getD, List.getElem?_append_right (by omega), List.getElem?_replicate]
    split <;> rfl

/-! #### shifted -/
def spShift (K : PySem.W.Frag) : Sp := fun vs H Q _ => ∃ (a : Addr) (xs : List Int) (b : Int) (k l : Nat), vs = [.ref a, .int b] ∧ SqL K H a (xs.map V.int) ∧ xs.length ≤ 64 ∧ (∀ x ∈ xs, Bd k x) ∧ Bd l b ∧ k + l * 5000 ≤ 60000000 ∧ newL H Q ((trim (shiftL b xs)).map V.int)
theorem ok_shifted {P : Program} {w : World} {K : PySem.W.Frag} {mg : Str → Option Value} {base : Heap} (T : Tx K mg) : FnOk P w K mg base CX0 2 T.a_shifted T.fd_shifted ["poly", "by"] (spShift K) := by
  refine T.F_shifted.ok sc_shifted (fun vs H Q E h => ?_) (fun cdv A outer s H vs Q E hr h => ?_)
  · obtain ⟨a, xs, b, k, l, rfl, _⟩ := h
    rfl
  obtain ⟨a, xs, b, k, l, rfl, hS, hl, hk, hb, hf, q⟩ := h
  refine ⟨_, ((pss_cons (ps_set (i := 2) sc_shifted.nd rfl (Or.inl rfl) (pe_callTy call_list_of rfl T.z_list bt_list (pa_cons (pv 0) pa_nil)))
    (pss_cons (ps_for PassesOwn.never rfl (pi_range1 rfl T.z_range (pa_cons (pe_op op_sub (pe_callB call_len_seq rfl T.z_len bt_len (pa_cons (pv 2) pa_nil)) pe_int) pa_nil)) (pg_name (i := 3) sc_shifted.nd rfl (Or.inl rfl)) (pss_one (ps_for PassesOwn.never rfl (pi_range3 rfl T.z_range (pa_cons (pe_op op_sub (pe_callB call_len_seq rfl T.z_len bt_len (pa_cons (pv 2) pa_nil)) pe_int) (pa_cons (pe_op op_sub (pv 3) pe_int) (pa_cons (pe_un un_neg pe_int) pa_nil)))) (pg_name (i := 4) sc_shifted.nd rfl (Or.inl rfl)) (pss_one (ps_augS (pv 2) (pv 4) get_list (pe_op op_mulZ (pv 1) (pe_ix ix_list (pv 2) (pe_op op_add (pv 4) pe_int) (fun _ _ => rfl))) ip_add set_list)))))
    (pss_one (ps_ret (pe_call (FnOk.mono (ok_trimmed T) (by decide)) hr rfl T.m_trimmed T.F_trimmed.kp T.b_trimmed .nil pass0 (pa_cons (pv 2) pa_nil))))))), ?_⟩
  simp only [a_izip, a_drop_nx, a_raise, a_seq, a_next, a_drop, a_ret, a_retN, a_if, a_asg, a_gname, a_gsub, a_gtup, a_gnil, a_gcons, a_aug, a_augS, a_ipI, a_var, a_c, a_op, a_un, a_rI, a_rI0, a_rU, a_eqI, a_neI, a_eqB, a_neB, a_tB, a_test, a_and, a_or, a_not, a_andV, a_orV, a_notV, a_nil, a_cons, a_lst, a_tup, a_call, a_cb, a_bm0, a_bm, a_sl, a_nopart, a_part, a_tyI, a_for, a_comp, a_ilist, a_irng1, a_irng2, a_irng3, a_cxK, and_assoc, a_irev, a_ienum, a_cat, a_rep, a_pop, a_clear, a_rslL, a_ixL, a_ixT, a_setL, a_app,
    List.getElem?_cons_zero, List.getElem?_cons_succ, List.set_cons_zero, List.set_cons_succ, Option.some.injEq, V.int.injEq, V.bl.injEq, V.ref.injEq, V.ty.injEq, exists_eq_left', exists_eq_left, exists_and_left, decide_eq_true_eq, List.cons_append, List.nil_append, List.append_nil, List.cons.injEq, and_true, true_and, Bool.not_eq_true', decide_eq_false_iff_not, ite_true, ite_false, Bool.false_eq_true, if_true, if_false, List.length_cons, List.length_nil, L2.start, List.map_cons, List.map_nil, List.replicate_succ, List.replicate_zero]
  refine ⟨_, .inl hS, fun L hL => ⟨_, .inl (SqL.of upd_same), by rw [List.length_map]; omega, by rw [List.length_map]; omega, ?_⟩⟩
  have e0 : (((xs.map V.int).length : Nat) : Int) - 1 = (xs.length : Int) - 1 := by rw [List.length_map]
  have e1 : ((xs.length : Int) - 1).toNat = xs.length - 1 := by omega
  rw [e0, e1]
  obtain ⟨Pv, hPv⟩ : ∃ Pv : Nat → L2.St → Hp → Prop, ∀ i σ H', Pv i σ H' ↔ ∃ r1 r2 pre zs, σ = [some (V.ref a), some (V.int b), some (V.ref L), r1, r2] ∧ H' = upd H L (.lst ((pre ++ zs).map V.int)) ∧ pre.length = i ∧ pre.length + zs.length = xs.length ∧
    shiftL b xs = pre ++ shiftN b zs.length zs ∧ ∀ y ∈ pre ++ zs, Bd (k + (l + 1) * (i * 64)) y := ⟨_, fun _ _ _ => Iff.rfl⟩
  refine lp_range Pv ((hPv _ _ _).mpr ⟨none, none, [], xs, rfl, rfl, rfl, by simp, rfl, fun y hy => (hk y hy).mono (by omega)⟩) ?_ ?_
  · intro low σ H' hlow hp
    obtain ⟨r1, r2, pre, zs, rfl, rfl, hpre, hlen, hsh, hbd⟩ := (hPv _ _ _).mp hp
    have el : (0 : Int) + (low : Int) = (low : Int) := Int.zero_add _
    simp only [a_izip, a_drop_nx, a_raise, a_seq, a_next, a_drop, a_ret, a_retN, a_if, a_asg, a_gname, a_gsub, a_gtup, a_gnil, a_gcons, a_aug, a_augS, a_ipI, a_var, a_c, a_op, a_un, a_rI, a_rI0, a_rU, a_eqI, a_neI, a_eqB, a_neB, a_tB, a_test, a_and, a_or, a_not, a_andV, a_orV, a_notV, a_nil, a_cons, a_lst, a_tup, a_call, a_cb, a_bm0, a_bm, a_sl, a_nopart, a_part, a_tyI, a_for, a_comp, a_ilist, a_irng1, a_irng2, a_irng3, a_cxK, and_assoc, a_irev, a_ienum, a_cat, a_rep, a_pop, a_clear, a_rslL, a_ixL, a_ixT, a_setL, a_app,
    List.getElem?_cons_zero, List.getElem?_cons_succ, List.set_cons_zero, List.set_cons_succ, Option.some.injEq, V.int.injEq, V.bl.injEq, V.ref.injEq, V.ty.injEq, exists_eq_left', exists_eq_left, exists_and_left, decide_eq_true_eq, List.cons_append, List.nil_append, List.append_nil, List.cons.injEq, and_true, true_and, Bool.not_eq_true', decide_eq_false_iff_not, ite_true, ite_false, Bool.false_eq_true, if_true, if_false, List.length_cons, List.length_nil, L2.start, List.map_cons, List.map_nil, List.replicate_succ, List.replicate_zero, el]
    obtain ⟨m, hm⟩ : ∃ m, zs.length = m + 1 := ⟨zs.length - 1, by omega⟩
    have hy : ((pre ++ zs).map V.int).length = xs.length := by rw [List.length_map, List.length_append]; exact hlen
    refine ⟨_, .inl (SqL.of upd_same), by decide, by decide, ?_⟩
    rw [hy]
    refine ⟨small_down (by omega) (by omega) (by omega) (by omega), m, size_down (by omega), ?_⟩
    obtain ⟨Pw, hPw⟩ : ∃ Pw : Nat → L2.St → Hp → Prop, ∀ t σ H', Pw t σ H' ↔ ∃ r, σ = [some (V.ref a), some (V.int b), some (V.ref L), some (V.int (low : Int)), r] ∧ H' = upd H L (.lst ((pre ++ mixed b zs (m - t)).map V.int)) ∧
      ∀ y ∈ pre ++ mixed b zs (m - t), Bd (k + (l + 1) * (low * 64 + t)) y := ⟨_, fun _ _ _ => Iff.rfl⟩
    have hz : zs ≠ [] := by intro z; rw [z] at hm; simp at hm
    refine lp_ranges Pw ((hPw _ _ _).mpr ⟨r2, rfl, ?_, ?_⟩) ?_ ?_
    · rw [show m - 0 = zs.length - 1 by omega, mixed_last b zs hz]
    · rw [show m - 0 = zs.length - 1 by omega, mixed_last b zs hz]; exact hbd
    · intro t σ H' ht hp
      obtain ⟨r, rfl, rfl, hbt⟩ := (hPw _ _ _).mp hp
      obtain ⟨j, hj⟩ : ∃ j, m - t = j + 1 := ⟨m - t - 1, by omega⟩
      have ej : m - (t + 1) = j := by omega
      have ep : (xs.length : Int) - 2 + (t : Int) * -1 = ((low + j : Nat) : Int) := by omega
      have ep1 : (xs.length : Int) - 2 + (t : Int) * -1 + 1 = ((low + j + 1 : Nat) : Int) := by omega
      rw [hj] at hbt ⊢
      have hjz : j < zs.length := by omega
      have g0 : (pre ++ mixed b zs (j + 1))[low + j]? = some zs[j] := by
        rw [List.getElem?_append_right (by omega), show low + j - pre.length = j by omega]; exact mixed_at b zs j hjz
      have g1 : (pre ++ mixed b zs (j + 1))[low + j + 1]? = some (hd (synth b (zs.drop (j + 1)))) := by
        rw [List.getElem?_append_right (by omega), show low + j + 1 - pre.length = j + 1 by omega]; exact mixed_next b zs j (by omega)
      have gs : (pre ++ mixed b zs (j + 1)).set (low + j) (zs[j] + b * hd (synth b (zs.drop (j + 1)))) = pre ++ mixed b zs j := by
        rw [List.set_append_right _ _ (by omega), show low + j - pre.length = j by omega, mixed_set b zs j hjz]
      have b0 := hbt _ (List.mem_of_getElem? g0)
      have b1 := hbt _ (List.mem_of_getElem? g1)
      simp only [a_izip, a_drop_nx, a_raise, a_seq, a_next, a_drop, a_ret, a_retN, a_if, a_asg, a_gname, a_gsub, a_gtup, a_gnil, a_gcons, a_aug, a_augS, a_ipI, a_var, a_c, a_op, a_un, a_rI, a_rI0, a_rU, a_eqI, a_neI, a_eqB, a_neB, a_tB, a_test, a_and, a_or, a_not, a_andV, a_orV, a_notV, a_nil, a_cons, a_lst, a_tup, a_call, a_cb, a_bm0, a_bm, a_sl, a_nopart, a_part, a_tyI, a_for, a_comp, a_ilist, a_irng1, a_irng2, a_irng3, a_cxK, and_assoc, a_irev, a_ienum, a_cat, a_rep, a_pop, a_clear, a_rslL, a_ixL, a_ixT, a_setL, a_app,
    List.getElem?_cons_zero, List.getElem?_cons_succ, List.set_cons_zero, List.set_cons_succ, Option.some.injEq, V.int.injEq, V.bl.injEq, V.ref.injEq, V.ty.injEq, exists_eq_left', exists_eq_left, exists_and_left, decide_eq_true_eq, List.cons_append, List.nil_append, List.append_nil, List.cons.injEq, and_true, true_and, Bool.not_eq_true', decide_eq_false_iff_not, ite_true, ite_false, Bool.false_eq_true, if_true, if_false, List.length_cons, List.length_nil, L2.start, List.map_cons, List.map_nil, List.replicate_succ, List.replicate_zero, ep, ep1]
      have t64 : (l + 1) * (low * 64 + t) ≤ l * 4097 + 4097 := by have := Nat.mul_le_mul_left (l + 1) (by omega : low * 64 + t ≤ 4097); omega
      refine ⟨_, SqL.of upd_same, _, at_some g0, _, SqL.of upd_same, _, at_some g1, _, rfl, hb.fits b1 (by omega), _, rfl, _, upd_same, low + j, ixN_nat (by rw [List.length_map, List.length_append, mixed_len]; omega), (hPw _ _ _).mpr ⟨_, rfl, ?_, ?_⟩⟩
      · rw [upd_upd, map_set, gs, ej]
      · rw [ej, ← gs]
        intro y hy
        have e64 : (l + 1) * (low * 64 + (t + 1)) = (l + 1) * (low * 64 + t) + (l + 1) := by rw [← Nat.add_assoc, Nat.mul_succ]
        rcases List.mem_or_eq_of_mem_set hy with z | z
        · exact (hbt y z).mono (by omega)
        · rw [z]
          exact ((b0.mono (by omega : k + (l + 1) * (low * 64 + t) ≤ l + (k + (l + 1) * (low * 64 + t)))).add (hb.mul b1)).mono (by omega)
    · intro σ H' hp
      obtain ⟨r, rfl, rfl, hbt⟩ := (hPw _ _ _).mp hp
      rw [Nat.sub_self, mixed_zero] at hbt ⊢
      obtain ⟨s1, s2, s3⟩ := shift_turn b m zs hm
      rw [hm, s1] at hsh
      refine (hPv _ _ _).mpr ⟨_, _, pre ++ [hd (synth b zs)], (synth b zs).tail, rfl, ?_, by rw [List.length_append, hpre]; rfl, by rw [List.length_append, s3, List.length_singleton]; omega, by rw [hsh, s3, List.append_assoc]; rfl, ?_⟩
      · rw [List.append_assoc, List.singleton_append, ← s2]
      · rw [List.append_assoc, List.singleton_append, ← s2]
        have e64 : (l + 1) * ((low + 1) * 64) = (l + 1) * (low * 64 + 64) := by congr 1; omega
        have := Nat.mul_le_mul_left (l + 1) (by omega : low * 64 + m ≤ low * 64 + 64)
        exact fun y hy => (hbt y hy).mono (by omega)
  · intro σ H' hp
    obtain ⟨r1, r2, pre, zs, rfl, rfl, hpre, hlen, hsh, hbd⟩ := (hPv _ _ _).mp hp
    have fin : pre ++ zs = shiftL b xs := by
      rw [hsh]
      by_cases h0 : xs.length = 0
      · have : zs.length = 0 := by omega
        rw [List.eq_nil_of_length_eq_zero this]; rfl
      · have h1 : zs.length = 1 := by omega
        obtain ⟨c, rfl⟩ := List.length_eq_one_iff.mp h1
        rw [show [c].length = 1 from rfl, shift_one]
    rw [fin]
    simp only [a_izip, a_drop_nx, a_raise, a_seq, a_next, a_drop, a_ret, a_retN, a_if, a_asg, a_gname, a_gsub, a_gtup, a_gnil, a_gcons, a_aug, a_augS, a_ipI, a_var, a_c, a_op, a_un, a_rI, a_rI0, a_rU, a_eqI, a_neI, a_eqB, a_neB, a_tB, a_test, a_and, a_or, a_not, a_andV, a_orV, a_notV, a_nil, a_cons, a_lst, a_tup, a_call, a_cb, a_bm0, a_bm, a_sl, a_nopart, a_part, a_tyI, a_for, a_comp, a_ilist, a_irng1, a_irng2, a_irng3, a_cxK, and_assoc, a_irev, a_ienum, a_cat, a_rep, a_pop, a_clear, a_rslL, a_ixL, a_ixT, a_setL, a_app,
    List.getElem?_cons_zero, List.getElem?_cons_succ, List.set_cons_zero, List.set_cons_succ, Option.some.injEq, V.int.injEq, V.bl.injEq, V.ref.injEq, V.ty.injEq, exists_eq_left', exists_eq_left, exists_and_left, decide_eq_true_eq, List.cons_append, List.nil_append, List.append_nil, List.cons.injEq, and_true, true_and, Bool.not_eq_true', decide_eq_false_iff_not, ite_true, ite_false, Bool.false_eq_true, if_true, if_false, List.length_cons, List.length_nil, L2.start, List.map_cons, List.map_nil, List.replicate_succ, List.replicate_zero]
    refine ⟨_, _, rfl, SqL.of upd_same, by rw [shift_len]; omega, fun r H' hs hn he => ?_⟩
    have s1 := same_upd hL (.lst ((shiftL b xs).map V.int))
    exact q r H' (s1.trans hs) (s1.free hn) he
theorem synth_bd {b : Int} {k l : Nat} (hb : Bd l b) : ∀ xs : List Int, (∀ x ∈ xs, Bd k x) → ∀ y ∈ synth b xs, Bd (k + (l + 1) * xs.length) y
  | [], _, _, h => nomatch h
  | c :: r, hx, y, hy => by
    have ih := synth_bd hb r fun x hx' => hx x (List.mem_cons_of_mem _ hx')
    have hc : Bd k c := hx c List.mem_cons_self
    have e : (l + 1) * (c :: r).length = (l + 1) * r.length + (l + 1) := by rw [List.length_cons, Nat.mul_succ]
    have hh : Bd (k + (l + 1) * r.length) (hd (synth b r)) := by
      cases q : synth b r with
      | nil => exact Bd.zero _
      | cons x s => exact ih x (by rw [q]; exact List.mem_cons_self)
    rcases List.mem_cons.mp hy with rfl | hy
    · exact ((hc.mono (by omega : k ≤ l + (k + (l + 1) * r.length))).add (hb.mul hh)).mono (by omega)
    · exact (ih y hy).mono (by omega)
theorem shiftN_bd {b : Int} {l : Nat} (hb : Bd l b) : ∀ (n : Nat) (k : Nat) (xs : List Int), xs.length ≤ 64 → (∀ x ∈ xs, Bd k x) → ∀ y ∈ shiftN b n xs, Bd (k + (l + 1) * (64 * n)) y
  | 0, _, _, _, _, _, h => nomatch h
  | n + 1, k, xs, hl, hx, y, hy => by
    have h1 := synth_bd hb xs hx
    have m1 := Nat.mul_le_mul_left (l + 1) hl
    have h2 : ∀ x ∈ synth b xs, Bd (k + (l + 1) * 64) x := fun x hx' => (h1 x hx').mono (by omega)
    have e : (l + 1) * (64 * (n + 1)) = (l + 1) * (64 * n) + (l + 1) * 64 := by rw [Nat.mul_succ, Nat.mul_add]
    rcases List.mem_cons.mp hy with rfl | hy
    · have hh : Bd (k + (l + 1) * 64) (hd (synth b xs)) := by
        cases q : synth b xs with
        | nil => exact Bd.zero _
        | cons x s => exact h2 x (by rw [q]; exact List.mem_cons_self)
      exact hh.mono (by omega)
    · exact (shiftN_bd hb n (k + (l + 1) * 64) (synth b xs).tail (by rw [List.length_tail, synth_len]; omega) (fun x hx' => h2 x (List.mem_of_mem_tail hx')) y hy).mono (by omega)
theorem shift_bd {b : Int} {k l : Nat} {xs : List Int} (hb : Bd l b) (hl : xs.length ≤ 64) (hx : ∀ x ∈ xs, Bd k x) : ∀ y ∈ shiftL b xs, Bd (k + (l + 1) * (64 * xs.length)) y := shiftN_bd hb xs.length k xs hl hx

/-! #### quotient -/
def spQuot (K : PySem.W.Frag) (c : Addr) : Sp := fun vs H Q E => ∃ (a b : Addr) (one other : List Int) (k l : Nat), vs = [.ref a, .ref b] ∧ SqL K H a (one.map V.int) ∧ SqL K H b (other.map V.int) ∧ one.length ≤ 64 ∧ other.length ≤ 64 ∧ Nml one ∧ Nml other ∧
  (∀ x ∈ one, Bd k x) ∧ (∀ y ∈ other, Bd l y) ∧ k ≤ 100000 ∧ l ≤ 8000 ∧
  ((other = [] ∧ E (.ref c) none H) ∨ (other ≠ [] ∧ ((∃ q, Nml q ∧ Div one other q ∧ newL H Q (q.map V.int)) ∨ ((∀ q, ¬ Div one other q) ∧ ∀ H', Same H H' → Q .non H'))))
theorem fdiv_bd {k : Nat} {x d : Int} (h : Bd k x) (hd : d ≠ 0) : Bd (k + 1) (x.fdiv d) := by
  unfold Bd at *
  have e := Int.fmod_add_mul_fdiv x d
  have r : (x.fmod d).natAbs < d.natAbs := by
    rcases Int.lt_or_gt_of_ne hd with g | g
    · have h1 := Int.fmod_nonneg_of_pos (-x) (show 0 < -d by omega)
      have h2 := Int.fmod_lt_of_pos (-x) (show 0 < -d by omega)
      rw [Int.neg_fmod_neg] at h1 h2
      omega
    · have h1 := Int.fmod_nonneg_of_pos x g
      have h2 := Int.fmod_lt_of_pos x g
      omega
  have a : (d * x.fdiv d).natAbs = d.natAbs * (x.fdiv d).natAbs := Int.natAbs_mul _ _
  have s : d.natAbs * (x.fdiv d).natAbs < 2 ^ k + d.natAbs := by omega
  have d1 : 1 ≤ d.natAbs := by omega
  rw [Nat.pow_succ]
  by_cases z : (x.fdiv d).natAbs ≤ 1
  · have := Nat.two_pow_pos k
    omega
  · have m : d.natAbs * 2 ≤ d.natAbs * (x.fdiv d).natAbs := Nat.mul_le_mul_left _ (by omega)
    have m2 : (x.fdiv d).natAbs ≤ d.natAbs * (x.fdiv d).natAbs := Nat.le_mul_of_pos_left _ (by omega)
    omega
theorem ok_quotient {P : Program} {w : World} {K : PySem.W.Frag} {mg : Str → Option Value} {base : Heap} (T : Tx K mg) : FnOk P w K mg base (CXE P w) 3 T.a_quotient T.fd_quotient ["one", "other"] (spQuot K T.c_NoNumber) := by
  refine T.F_quotient.okE sc_quotient (fun vs H Q E h => ?_) (fun cdv A outer s H vs Q E hr h => ?_)
  · obtain ⟨a, b, one, other, k, l, rfl, _⟩ := h
    rfl
  obtain ⟨a, b, one, other, k, l, rfl, hA, hB, la, lb, no, nt, bk, bl, hk, hl, q⟩ := h
  refine ⟨_, ((pss_cons (ps_if (PT.nox (pt_cmpR op_eq (pe_callB call_len_seq rfl T.z_len bt_len (pa_cons (pv 1) pa_nil)) pe_int (nomark _))) (pss_one (ps_raise rfl throwE rfl T.mc_NoNumber T.xc_NoNumber (pa_cons pe_str pa_nil))) pss_nil)
    (pss_cons (PS.nox (ps_set (i := 2) sc_quotient.nd rfl (Or.inl rfl) (pe_callTy call_list_of rfl T.z_list bt_list (pa_cons (pv 0) pa_nil))))
    (pss_cons (PS.nox (ps_set (i := 3) sc_quotient.nd rfl (Or.inl rfl) (pe_callB (call_max2 rfl) rfl T.z_max bt_max (pa_cons pe_int (pa_cons (pe_op op_add (pe_op op_sub (pe_callB call_len_seq rfl T.z_len bt_len (pa_cons (pv 0) pa_nil)) (pe_callB call_len_seq rfl T.z_len bt_len (pa_cons (pv 1) pa_nil))) pe_int) pa_nil)))))
    (pss_cons (PS.nox (ps_set (i := 4) sc_quotient.nd rfl (Or.inl rfl) (pe_op op_rep (pe_lst (pa_cons pe_int pa_nil)) (pv 3))))
    (pss_cons (PS.nox (ps_for PassesOwn.never rfl (pi_range3 rfl T.z_range (pa_cons (pe_op op_sub (pv 3) pe_int) (pa_cons (pe_un un_neg pe_int) (pa_cons (pe_un un_neg pe_int) pa_nil)))) (pg_name (i := 5) sc_quotient.nd rfl (Or.inl rfl)) (pss_cons (ps_set (i := 6) sc_quotient.nd rfl (Or.inl rfl) (pe_ix ix_list (pv 2) (pe_op op_sub (pe_op op_add (pv 5) (pe_callB call_len_seq rfl T.z_len bt_len (pa_cons (pv 1) pa_nil))) pe_int) (fun _ _ => rfl)))
    (pss_cons (ps_set (i := 7) sc_quotient.nd rfl (Or.inl rfl) (pe_op op_fdivB (pv 6) (pe_ix ix_list (pv 1) (pe_un un_neg pe_int) (fun _ _ => rfl))))
    (pss_cons (ps_if (pt_cmpR op_ne (pe_op op_mulZ (pv 7) (pe_ix ix_list (pv 1) (pe_un un_neg pe_int) (fun _ _ => rfl))) (pv 6) (nomark _)) (pss_one (ps_ret pe_non)) pss_nil)
    (pss_cons (ps_asg (pv 7) (pg_sub (pv 4) (pv 5) set_list))
    (pss_one (ps_for PassesOwn.never rfl (pi_enum rfl T.z_enumerate (pa_cons (pv 1) pa_nil)) (pg_tup rfl (pgs_cons (pg_name (i := 8) sc_quotient.nd rfl (Or.inl rfl)) (pgs_cons (pg_name (i := 9) sc_quotient.nd rfl (Or.inl rfl)) pgs_nil))) (pss_one (ps_augS (pv 2) (pe_op op_add (pv 5) (pv 8)) get_list (pe_op op_mulZ (pv 7) (pv 9)) ip_sub set_list))))))))))
    (pss_cons (PS.nox (ps_if (pt_cmpR op_gt (pe_callB call_len_seq rfl T.z_len bt_len (pa_cons (pe_call (FnOk.mono (ok_trimmed T) (by decide)) hr rfl T.m_trimmed T.F_trimmed.kp T.b_trimmed .nil pass0 (pa_cons (pv 2) pa_nil)) pa_nil)) pe_int (nomark _)) (pss_one (ps_ret pe_non)) pss_nil))
    (pss_one (PS.nox (ps_ret (pv 4))))))))))), ?_⟩
  simp only [a_izip, a_drop_nx, a_raise, a_seq, a_next, a_drop, a_ret, a_retN, a_if, a_asg, a_gname, a_gsub, a_gtup, a_gnil, a_gcons, a_aug, a_augS, a_ipI, a_var, a_c, a_op, a_un, a_rI, a_rI0, a_rU, a_eqI, a_neI, a_eqB, a_neB, a_tB, a_test, a_and, a_or, a_not, a_andV, a_orV, a_notV, a_nil, a_cons, a_lst, a_tup, a_call, a_cb, a_bm0, a_bm, a_sl, a_nopart, a_part, a_tyI, a_for, a_comp, a_ilist, a_irng1, a_irng2, a_irng3, a_cxK, and_assoc, a_irev, a_ienum, a_cat, a_rep, a_pop, a_clear, a_rslL, a_ixL, a_ixT, a_setL, a_app,
    List.getElem?_cons_zero, List.getElem?_cons_succ, List.set_cons_zero, List.set_cons_succ, Option.some.injEq, V.int.injEq, V.bl.injEq, V.ref.injEq, V.ty.injEq, exists_eq_left', exists_eq_left, exists_and_left, decide_eq_true_eq, List.cons_append, List.nil_append, List.append_nil, List.cons.injEq, and_true, true_and, Bool.not_eq_true', decide_eq_false_iff_not, ite_true, ite_false, Bool.false_eq_true, if_true, if_false, List.length_cons, List.length_nil, L2.start, List.map_cons, List.map_nil, List.replicate_succ, List.replicate_zero]
  refine ⟨_, .inl hB, ?_⟩
  rw [List.length_map]
  refine ite2 (fun h0 => ?_) (fun h0 => ?_)
  · rcases q with ⟨_, q⟩ | ⟨hn, _⟩
    · exact ⟨by decide, q⟩
    · exact absurd (List.eq_nil_of_length_eq_zero (by omega)) hn
  have hne : other ≠ [] := by intro z; rw [z] at h0; simp at h0
  have q := (q.resolve_left fun z => hne z.1).2
  have lo := List.length_pos_iff.mpr hne
  refine ⟨_, .inl hA, fun R nR => ?_⟩
  have s1 := same_upd nR (.lst (one.map V.int))
  refine ⟨_, .inl (s1.seq hA), _, .inl (s1.seq hB), by decide, fun p np => ⟨_, upd_same, ?_⟩⟩
  have s2 := same_upd np (.lst [V.int 0])
  rw [List.length_map, List.length_map, rep_zero]
  obtain ⟨n, hn⟩ : ∃ n : Nat, (if (one.length : Int) - (other.length : Int) + 1 > 0 then (one.length : Int) - (other.length : Int) + 1 else 0) = (n : Int) := ⟨one.length + 1 - other.length, by split <;> omega⟩
  have hn' : n = one.length + 1 - other.length := by split at hn <;> omega
  rw [hn, Int.toNat_natCast]
  refine ⟨by omega, by omega, Nat.le_of_lt (small1000 (by simp; omega)), fun A0 nA => ?_⟩
  have s3 := same_upd nA (.lst ((List.replicate n (0 : Int)).map V.int))
  have sG := s1.trans (s2.trans s3)
  have gR := s3 _ _ (s2 _ _ (upd_same (H := H) (a := R) (o := .lst (one.map V.int))))
  have gA : upd (upd (upd H R (.lst (one.map V.int))) p (.lst [V.int 0])) A0 (.lst ((List.replicate n (0 : Int)).map V.int)) A0 = _ := upd_same
  have hRA : R ≠ A0 := ne_of_none (s2 _ _ (upd_same (H := H) (a := R) (o := .lst (one.map V.int)))) nA
  have fA := (s1.trans s2).free nA
  generalize upd (upd (upd H R (.lst (one.map V.int))) p (.lst [V.int 0])) A0 (.lst ((List.replicate n (0 : Int)).map V.int)) = G at sG gR gA ⊢
  clear s1 s2 s3 nA np
  refine ⟨by decide, by decide, small_down (by omega) (by omega) (by omega) (by omega), n, size_down (by omega), ?_⟩
  have fin : ∀ (rest ans : List Int) (r1 r2 r3 r4 r5 : Option V) (H' : Hp), (∀ q, Div one other q → ∀ k, co rest k = 0) → ((∀ k, co rest k = 0) → Div one other ans ∧ Nml ans) → H' R = some (.lst (rest.map V.int)) → H' A0 = some (.lst (ans.map V.int)) → Same H H' → rest.length ≤ 64 →
      spTrim K [V.ref R] H' (fun x H1 => ∃ p, x = V.ref p ∧ ∃ x, (SqL K H1 p x ∨ SqT K H1 p x) ∧ if 0 < (x.length : Int) then Q V.non H1 else Q (V.ref A0) H1) E0 := by
    intro rest ans r1 r2 r3 r4 r5 H' e1 e2 hR hA' sH lr
    refine ⟨R, rest, rfl, SqL.of hR, by omega, fun f H2 s2 nf ef => ⟨f, rfl, _, .inl (SqL.of ef), ?_⟩⟩
    rw [List.length_map]
    refine ite2 (fun h => ?_) (fun h => ?_)
    · rcases q with ⟨q0, _, hd, _⟩ | ⟨_, q⟩
      · have := trim_nilI.mpr (e1 q0 hd)
        rw [this] at h; simp at h
      · exact q _ (sH.trans s2)
    · have tz : trim rest = [] := List.eq_nil_of_length_eq_zero (by omega)
      obtain ⟨d1, d2⟩ := e2 (trim_nilI.mp tz)
      rcases q with ⟨q0, n0, hd, q⟩ | ⟨q, _⟩
      · rw [div_uniq nt hne n0 d2 hd d1] at q
        exact q A0 _ (sH.trans s2) fA (s2 _ _ hA')
      · exact absurd d1 (q ans)
  by_cases hc : one.length + 1 < other.length
  · have n0 : n = 0 := by omega
    subst n0
    refine lp_ranges (fun i σ H' => σ = [some (V.ref a), some (V.ref b), some (V.ref R), some (V.int ((0 : Nat) : Int)), some (V.ref A0), none, none, none, none, none] ∧ H' = G) ⟨rfl, rfl⟩ (fun i σ H' hi => by omega) ?_
    rintro σ H' ⟨rfl, rfl⟩
    simp only [a_izip, a_drop_nx, a_raise, a_seq, a_next, a_drop, a_ret, a_retN, a_if, a_asg, a_gname, a_gsub, a_gtup, a_gnil, a_gcons, a_aug, a_augS, a_ipI, a_var, a_c, a_op, a_un, a_rI, a_rI0, a_rU, a_eqI, a_neI, a_eqB, a_neB, a_tB, a_test, a_and, a_or, a_not, a_andV, a_orV, a_notV, a_nil, a_cons, a_lst, a_tup, a_call, a_cb, a_bm0, a_bm, a_sl, a_nopart, a_part, a_tyI, a_for, a_comp, a_ilist, a_irng1, a_irng2, a_irng3, a_cxK, and_assoc, a_irev, a_ienum, a_cat, a_rep, a_pop, a_clear, a_rslL, a_ixL, a_ixT, a_setL, a_app,
    List.getElem?_cons_zero, List.getElem?_cons_succ, List.set_cons_zero, List.set_cons_succ, Option.some.injEq, V.int.injEq, V.bl.injEq, V.ref.injEq, V.ty.injEq, exists_eq_left', exists_eq_left, exists_and_left, decide_eq_true_eq, List.cons_append, List.nil_append, List.append_nil, List.cons.injEq, and_true, true_and, Bool.not_eq_true', decide_eq_false_iff_not, ite_true, ite_false, Bool.false_eq_true, if_true, if_false, List.length_cons, List.length_nil, L2.start, List.map_cons, List.map_nil, List.replicate_succ, List.replicate_zero]
    refine fin one [] none none none none none H' (fun q hq k => ?_) (fun hz => ?_) gR gA sG la
    · by_cases ho : one = []
      · rw [ho]; rfl
      · by_cases hq' : Nml q
        · obtain ⟨y1, y2⟩ := div_len nt hne no hq' hq ho
          have := List.length_pos_iff.mpr y1
          omega
        · obtain ⟨y1, y2⟩ := div_len (q := trim q) nt hne no (trim_nml q) (fun k => by rw [hq k]; unfold pm; exact sumN_congr fun j _ => by rw [trim_co]) ho
          have := List.length_pos_iff.mpr y1
          omega
    · have ho := nml_zero no hz
      rw [ho]; exact ⟨div_nil, nml_nil⟩
  have hla : n + other.length = one.length + 1 := by omega
  have elast : co other (other.length - 1) = other.getLast hne := by
    rw [co_lt (by omega), List.getLast_eq_getElem]
  have l0 : other.getLast hne ≠ 0 := by rw [← elast]; exact co_last nt hne
  have bl0 : Bd l (other.getLast hne) := bl _ (List.getLast_mem hne)
  obtain ⟨Pv, hPv⟩ : ∃ Pv : Nat → L2.St → Hp → Prop, ∀ i σ H', Pv i σ H' ↔ ∃ (ans rest : List Int) (r1 r2 r3 r4 r5 : Option V), σ = [some (V.ref a), some (V.ref b), some (V.ref R), some (V.int (n : Int)), some (V.ref A0), r1, r2, r3, r4, r5] ∧ H' R = some (.lst (rest.map V.int)) ∧ H' A0 = some (.lst (ans.map V.int)) ∧
    DivAt one other ans rest (n - i) ∧ (∀ x ∈ rest, Bd (k + (l + 2) * i) x) ∧ Same H H' := ⟨_, fun _ _ _ => Iff.rfl⟩
  refine lp_ranges Pv ((hPv _ _ _).mpr ⟨_, one, none, none, none, none, none, rfl, gR, gA, div_start hne hla, fun x hx => (bk x hx).mono (by omega), sG⟩) ?_ ?_
  · intro i σ H' hi hp
    obtain ⟨ans, rest, r1, r2, r3, r4, r5, rfl, hR, hA', D, hb, sH⟩ := (hPv _ _ _).mp hp
    obtain ⟨low, hlow⟩ : ∃ low, n - i = low + 1 := ⟨n - i - 1, by omega⟩
    rw [hlow] at D
    have ei : (n : Int) - 1 + (i : Int) * -1 = (low : Int) := by omega
    have ix : (low : Int) + (other.length : Int) - 1 = ((low + (other.length - 1) : Nat) : Int) := by omega
    have hlr := D.lr
    have hla' := D.la
    have hin : low + (other.length - 1) < rest.length := by omega
    have i64 : (l + 2) * i ≤ (l + 2) * 64 := Nat.mul_le_mul_left _ (by omega)
    simp only [a_izip, a_drop_nx, a_raise, a_seq, a_next, a_drop, a_ret, a_retN, a_if, a_asg, a_gname, a_gsub, a_gtup, a_gnil, a_gcons, a_aug, a_augS, a_ipI, a_var, a_c, a_op, a_un, a_rI, a_rI0, a_rU, a_eqI, a_neI, a_eqB, a_neB, a_tB, a_test, a_and, a_or, a_not, a_andV, a_orV, a_notV, a_nil, a_cons, a_lst, a_tup, a_call, a_cb, a_bm0, a_bm, a_sl, a_nopart, a_part, a_tyI, a_for, a_comp, a_ilist, a_irng1, a_irng2, a_irng3, a_cxK, and_assoc, a_irev, a_ienum, a_cat, a_rep, a_pop, a_clear, a_rslL, a_ixL, a_ixT, a_setL, a_app,
    List.getElem?_cons_zero, List.getElem?_cons_succ, List.set_cons_zero, List.set_cons_succ, Option.some.injEq, V.int.injEq, V.bl.injEq, V.ref.injEq, V.ty.injEq, exists_eq_left', exists_eq_left, exists_and_left, decide_eq_true_eq, List.cons_append, List.nil_append, List.append_nil, List.cons.injEq, and_true, true_and, Bool.not_eq_true', decide_eq_false_iff_not, ite_true, ite_false, Bool.false_eq_true, if_true, if_false, List.length_cons, List.length_nil, L2.start, List.map_cons, List.map_nil, List.replicate_succ, List.replicate_zero, ei]
    refine ⟨_, .inl (sH.seq hB), ?_⟩
    rw [List.length_map]
    simp only [ix]
    refine ⟨_, SqL.of hR, _, at_int hin, ?_⟩
    have ct : co rest (low + (other.length - 1)) = rest[low + (other.length - 1)] := co_lt hin
    have bt := hb _ (List.getElem_mem hin)
    generalize rest[low + (other.length - 1)] = tp at ct bt ⊢
    have bf := fdiv_bd bt l0
    refine ⟨_, sH.seq hB, _, at_last hne, tp, rfl, _, rfl, l0, Nat.lt_of_lt_of_le bl0 (Nat.pow_le_pow_right (by decide) (by omega)), _, sH.seq hB, _, at_last hne, _, rfl, bf.fits bl0 (by omega), ?_⟩
    simp only [a_izip, a_drop_nx, a_raise, a_seq, a_next, a_drop, a_ret, a_retN, a_if, a_asg, a_gname, a_gsub, a_gtup, a_gnil, a_gcons, a_aug, a_augS, a_ipI, a_var, a_c, a_op, a_un, a_rI, a_rI0, a_rU, a_eqI, a_neI, a_eqB, a_neB, a_tB, a_test, a_and, a_or, a_not, a_andV, a_orV, a_notV, a_nil, a_cons, a_lst, a_tup, a_call, a_cb, a_bm0, a_bm, a_sl, a_nopart, a_part, a_tyI, a_for, a_comp, a_ilist, a_irng1, a_irng2, a_irng3, a_cxK, and_assoc, a_irev, a_ienum, a_cat, a_rep, a_pop, a_clear, a_rslL, a_ixL, a_ixT, a_setL, a_app,
    List.getElem?_cons_zero, List.getElem?_cons_succ, List.set_cons_zero, List.set_cons_succ, Option.some.injEq, V.int.injEq, V.bl.injEq, V.ref.injEq, V.ty.injEq, exists_eq_left', exists_eq_left, exists_and_left, decide_eq_true_eq, List.cons_append, List.nil_append, List.append_nil, List.cons.injEq, and_true, true_and, Bool.not_eq_true', decide_eq_false_iff_not, ite_true, ite_false, Bool.false_eq_true, if_true, if_false, List.length_cons, List.length_nil, L2.start, List.map_cons, List.map_nil, List.replicate_succ, List.replicate_zero]
    refine ite2 (fun h => ?_) (fun h => ?_)
    · rcases q with ⟨q0, _, hd, _⟩ | ⟨_, q⟩
      · have z := div_fail nt hne D hd
        rw [ct, elast] at z
        exact absurd z h
      · exact q _ sH
    have hf : tp.fdiv (other.getLast hne) * other.getLast hne = tp := by simpa using h
    generalize tp.fdiv (other.getLast hne) = f at hf bf ⊢
    refine ⟨_, hA', low, ixN_nat (by rw [List.length_map]; omega), ?_⟩
    rw [map_set]
    have s5 := sH.more fA (o := .lst ((ans.set low f).map V.int))
    have R5 := (upd_ne hRA : upd H' A0 (.lst ((ans.set low f).map V.int)) R = H' R).trans hR
    have A5 : upd H' A0 (.lst ((ans.set low f).map V.int)) A0 = _ := upd_same
    generalize upd H' A0 (.lst ((ans.set low f).map V.int)) = H5 at s5 R5 A5 ⊢
    refine ⟨_, s5.seq hB, ?_⟩
    obtain ⟨Pw, hPw⟩ : ∃ Pw : Nat → L2.St → Hp → Prop, ∀ j σ Hx, Pw j σ Hx ↔ ∃ (rs : List Int) (r4 r5 : Option V), σ = [some (V.ref a), some (V.ref b), some (V.ref R), some (V.int (n : Int)), some (V.ref A0), some (V.int (low : Int)), some (V.int tp), some (V.int f), r4, r5] ∧ Hx R = some (.lst (rs.map V.int)) ∧ Hx A0 = some (.lst ((ans.set low f).map V.int)) ∧ rs.length = rest.length ∧
      (∀ u, co rs u = co rest u - if low ≤ u ∧ u < low + j then f * co other (u - low) else 0) ∧ Same H Hx := ⟨_, fun _ _ _ => Iff.rfl⟩
    refine lp_enum Pw ((hPw _ _ _).mpr ⟨rest, _, _, rfl, R5, A5, rfl, fun u => by rw [if_neg (by omega)]; omega, s5⟩) (fun j σ Hx _ z => by obtain ⟨_, _, _, _, _, _, _, _, z5⟩ := (hPw j σ Hx).mp z; exact z5.seq hB) ?_ ?_
    · intro j v pt σ Hx hv hp' hpt
      obtain ⟨rs, r4, r5, rfl, xR, xA, xl, xc, xs⟩ := (hPw _ _ _).mp hp'
      have hj : j < other.length := by have := (List.getElem?_eq_some_iff.mp hv).1; rw [List.length_map] at this; exact this
      rw [List.getElem?_map, List.getElem?_eq_getElem hj] at hv
      obtain rfl : V.int other[j] = v := Option.some.inj hv
      have st := same_upd hpt (.tup [V.int j, V.int other[j]])
      have eij : (low : Int) + (j : Int) = ((low + j : Nat) : Int) := rfl
      simp only [a_izip, a_drop_nx, a_raise, a_seq, a_next, a_drop, a_ret, a_retN, a_if, a_asg, a_gname, a_gsub, a_gtup, a_gnil, a_gcons, a_aug, a_augS, a_ipI, a_var, a_c, a_op, a_un, a_rI, a_rI0, a_rU, a_eqI, a_neI, a_eqB, a_neB, a_tB, a_test, a_and, a_or, a_not, a_andV, a_orV, a_notV, a_nil, a_cons, a_lst, a_tup, a_call, a_cb, a_bm0, a_bm, a_sl, a_nopart, a_part, a_tyI, a_for, a_comp, a_ilist, a_irng1, a_irng2, a_irng3, a_cxK, and_assoc, a_irev, a_ienum, a_cat, a_rep, a_pop, a_clear, a_rslL, a_ixL, a_ixT, a_setL, a_app,
    List.getElem?_cons_zero, List.getElem?_cons_succ, List.set_cons_zero, List.set_cons_succ, Option.some.injEq, V.int.injEq, V.bl.injEq, V.ref.injEq, V.ty.injEq, exists_eq_left', exists_eq_left, exists_and_left, decide_eq_true_eq, List.cons_append, List.nil_append, List.append_nil, List.cons.injEq, and_true, true_and, Bool.not_eq_true', decide_eq_false_iff_not, ite_true, ite_false, Bool.false_eq_true, if_true, if_false, List.length_cons, List.length_nil, L2.start, List.map_cons, List.map_nil, List.replicate_succ, List.replicate_zero]
      refine ⟨_, SqT.of upd_same, rfl, ?_⟩
      simp only [a_izip, a_drop_nx, a_raise, a_seq, a_next, a_drop, a_ret, a_retN, a_if, a_asg, a_gname, a_gsub, a_gtup, a_gnil, a_gcons, a_aug, a_augS, a_ipI, a_var, a_c, a_op, a_un, a_rI, a_rI0, a_rU, a_eqI, a_neI, a_eqB, a_neB, a_tB, a_test, a_and, a_or, a_not, a_andV, a_orV, a_notV, a_nil, a_cons, a_lst, a_tup, a_call, a_cb, a_bm0, a_bm, a_sl, a_nopart, a_part, a_tyI, a_for, a_comp, a_ilist, a_irng1, a_irng2, a_irng3, a_cxK, and_assoc, a_irev, a_ienum, a_cat, a_rep, a_pop, a_clear, a_rslL, a_ixL, a_ixT, a_setL, a_app,
    List.getElem?_cons_zero, List.getElem?_cons_succ, List.set_cons_zero, List.set_cons_succ, Option.some.injEq, V.int.injEq, V.bl.injEq, V.ref.injEq, V.ty.injEq, exists_eq_left', exists_eq_left, exists_and_left, decide_eq_true_eq, List.cons_append, List.nil_append, List.append_nil, List.cons.injEq, and_true, true_and, Bool.not_eq_true', decide_eq_false_iff_not, ite_true, ite_false, Bool.false_eq_true, if_true, if_false, List.length_cons, List.length_nil, L2.start, List.map_cons, List.map_nil, List.replicate_succ, List.replicate_zero, eij]
      have hiz : low + j < rs.length := by omega
      have yR := st _ _ xR
      have yA := st _ _ xA
      refine ⟨_, SqL.of yR, _, at_int hiz, bf.fits (bl _ (List.getElem_mem hj)) (by omega), _, rfl, _, yR, low + j, ixN_nat (by rw [List.length_map]; exact hiz), (hPw _ _ _).mpr ⟨rs.set (low + j) (rs[low + j] - f * other[j]), _, _, rfl, by rw [upd_same, map_set], by rw [upd_ne (Ne.symm hRA)]; exact yA, by rw [List.length_set]; exact xl, fun u => ?_, (xs.trans st).more nR⟩⟩
      rw [co_set _ _ _ _ hiz]
      by_cases e : u = low + j
      · subst e
        have z := xc (low + j)
        rw [if_neg (show ¬ (low ≤ low + j ∧ low + j < low + j) by omega), co_lt hiz] at z
        rw [if_pos (show low + j = low + j from rfl), if_pos (show low ≤ low + j ∧ low + j < low + (j + 1) by omega), show low + j - low = j by omega, co_lt hj]; omega
      · rw [if_neg e, xc u]
        by_cases h3 : low ≤ u ∧ u < low + j
        · rw [if_pos h3, if_pos (show low ≤ u ∧ u < low + (j + 1) by omega)]
        · rw [if_neg h3, if_neg (show ¬ (low ≤ u ∧ u < low + (j + 1)) by omega)]
    · intro σ Hx hp'
      obtain ⟨rs, r4, r5, rfl, xR, xA, xl, xc, xs⟩ := (hPw _ _ _).mp hp'
      rw [List.length_map] at xc
      have D' : DivAt one other (ans.set low f) rs low := div_turn hne D (by omega) (by rw [elast, ct]; exact hf) xl fun u => by
        rw [xc u]
        by_cases h3 : low ≤ u
        · rw [if_pos h3]
          by_cases h4 : u < low + other.length
          · rw [if_pos ⟨h3, h4⟩]
          · rw [if_neg (by omega), co_ge (xs := other) (by omega), Int.mul_zero]
        · rw [if_neg (by omega), if_neg h3]
      refine (hPv _ _ _).mpr ⟨_, rs, _, _, _, _, _, rfl, xR, xA, by rw [show n - (i + 1) = low by omega]; exact D', fun x hx => ?_, xs⟩
      obtain ⟨u, hu, rfl⟩ := List.mem_iff_getElem.mp hx
      have eu := xc u
      rw [co_lt hu, co_lt (show u < rest.length by omega)] at eu
      have b1 := hb _ (List.getElem_mem (show u < rest.length by omega))
      have b2 : Bd (k + (l + 2) * i + 1 + l) (if low ≤ u ∧ u < low + other.length then f * co other (u - low) else 0) := by
        split
        · rcases Nat.lt_or_ge (u - low) other.length with z | z
          · rw [co_lt z]; exact bf.mul (bl _ (List.getElem_mem z))
          · rw [co_ge z, Int.mul_zero]; exact Bd.zero _
        · exact Bd.zero _
      rw [eu]
      have e2 : (l + 2) * (i + 1) = (l + 2) * i + (l + 2) := Nat.mul_succ _ _
      exact ((b1.mono (by omega)).sub b2).mono (by omega)
  · intro σ H' hp
    obtain ⟨ans, rest, r1, r2, r3, r4, r5, rfl, hR, hA', D, hb, sH⟩ := (hPv _ _ _).mp hp
    rw [Nat.sub_self] at D
    simp only [a_izip, a_drop_nx, a_raise, a_seq, a_next, a_drop, a_ret, a_retN, a_if, a_asg, a_gname, a_gsub, a_gtup, a_gnil, a_gcons, a_aug, a_augS, a_ipI, a_var, a_c, a_op, a_un, a_rI, a_rI0, a_rU, a_eqI, a_neI, a_eqB, a_neB, a_tB, a_test, a_and, a_or, a_not, a_andV, a_orV, a_notV, a_nil, a_cons, a_lst, a_tup, a_call, a_cb, a_bm0, a_bm, a_sl, a_nopart, a_part, a_tyI, a_for, a_comp, a_ilist, a_irng1, a_irng2, a_irng3, a_cxK, and_assoc, a_irev, a_ienum, a_cat, a_rep, a_pop, a_clear, a_rslL, a_ixL, a_ixT, a_setL, a_app,
    List.getElem?_cons_zero, List.getElem?_cons_succ, List.set_cons_zero, List.set_cons_succ, Option.some.injEq, V.int.injEq, V.bl.injEq, V.ref.injEq, V.ty.injEq, exists_eq_left', exists_eq_left, exists_and_left, decide_eq_true_eq, List.cons_append, List.nil_append, List.append_nil, List.cons.injEq, and_true, true_and, Bool.not_eq_true', decide_eq_false_iff_not, ite_true, ite_false, Bool.false_eq_true, if_true, if_false, List.length_cons, List.length_nil, L2.start, List.map_cons, List.map_nil, List.replicate_succ, List.replicate_zero]
    refine fin rest ans r1 r2 r3 r4 r5 H' (fun q hq => div_bad nt hne D q hq) (fun hz => ⟨div_good D hz, ?_⟩) hR hA' sH (by have := D.lr; omega)
    by_cases ho : one = []
    · have : ans.length = 0 := by have := D.la; rw [ho] at this; simp at this; omega
      rw [List.eq_nil_of_length_eq_zero this]; exact nml_nil
    · exact div_nml hne no ho D.la (div_good D hz)

/-! #### content, over, upright, spread, greatest_size -/
theorem small5000 {n : Nat} (h : n ≤ 5000) : n < sizeLine := Nat.lt_of_le_of_lt h (by decide)
def contL (xs : List Int) : Nat := xs.foldl (fun g x => Nat.gcd x.natAbs g) 0
theorem cont_snoc (xs : List Int) (x : Int) : contL (xs ++ [x]) = Nat.gcd x.natAbs (contL xs) := by unfold contL; rw [List.foldl_append]; rfl
theorem cont_lt {b : Nat} (hb : 0 < b) : ∀ xs : List Int, (∀ x ∈ xs, x.natAbs < b) → contL xs < b := fun xs => by
  refine snoc_ind (P := fun xs => (∀ x ∈ xs, x.natAbs < b) → contL xs < b) (fun _ => hb) (fun xs x ih h => ?_) xs
  rw [cont_snoc]
  by_cases z : x.natAbs = 0
  · rw [z, Nat.gcd_zero_left]; exact ih fun y hy => h y (by simp [hy])
  · exact Nat.lt_of_le_of_lt (Nat.gcd_le_left _ (by omega)) (h x (by simp))
theorem cont_dvd (xs : List Int) : ∀ x ∈ xs, ((contL xs : Nat) : Int) ∣ x := by
  refine snoc_ind (P := fun xs => ∀ x ∈ xs, ((contL xs : Nat) : Int) ∣ x) (by simp) (fun xs y ih x hx => ?_) xs
  rw [cont_snoc]
  rcases List.mem_append.mp hx with z | z
  · exact Int.dvd_trans (Int.natCast_dvd_natCast.mpr (Nat.gcd_dvd_right _ _)) (ih x z)
  · rw [List.mem_singleton.mp z]
    exact Int.dvd_natAbs.mp (Int.natCast_dvd_natCast.mpr (Nat.gcd_dvd_left _ _))
theorem dvd_cont (d : Nat) (xs : List Int) : (∀ x ∈ xs, (d : Int) ∣ x) → d ∣ contL xs := by
  refine snoc_ind (P := fun xs => (∀ x ∈ xs, (d : Int) ∣ x) → d ∣ contL xs) (fun _ => Nat.dvd_zero d) (fun xs y ih h => ?_) xs
  rw [cont_snoc]
  refine Nat.dvd_gcd ?_ (ih fun x hx => h x (by simp [hx]))
  exact Int.natCast_dvd_natCast.mp (Int.dvd_natAbs.mpr (h y (by simp)))
def spCont (K : PySem.W.Frag) : Sp := fun vs H Q _ => ∃ (a : Addr) (xs : List Int), vs = [.ref a] ∧ SqL K H a (xs.map V.int) ∧ (∀ x ∈ xs, x.natAbs < 2 ^ 4000) ∧ Q (.int (contL xs : Nat)) H
theorem ok_content {P : Program} {w : World} {K : PySem.W.Frag} {mg : Str → Option Value} {base : Heap} (T : Tx K mg) : FnOk P w K mg base CX0 2 T.a_content T.fd_content ["poly"] (spCont K) := by
  refine T.F_content.ok sc_content (fun vs H Q E h => ?_) (fun cdv A outer s H vs Q E hr h => ?_)
  · obtain ⟨a, xs, rfl, _⟩ := h
    rfl
  obtain ⟨a, xs, rfl, hS, hb, q⟩ := h
  refine ⟨_, ((pss_cons (ps_set (i := 1) sc_content.nd rfl (Or.inl rfl) pe_int)
    (pss_cons (ps_for PassesOwn.never rfl (pi_list (pv 0)) (pg_name (i := 2) sc_content.nd rfl (Or.inl rfl)) (pss_one (ps_set (i := 1) sc_content.nd rfl (Or.inl rfl) (pe_call (FnOk.mono (ok_divisor T) (by decide)) hr rfl T.m_divisor T.F_divisor.kp T.b_divisor .nil pass0 (pa_cons (pv 2) (pa_cons (pv 1) pa_nil))))))
    (pss_one (ps_ret (pv 1)))))), ?_⟩
  simp only [a_izip, a_drop_nx, a_raise, a_seq, a_next, a_drop, a_ret, a_retN, a_if, a_asg, a_gname, a_gsub, a_gtup, a_gnil, a_gcons, a_aug, a_augS, a_ipI, a_var, a_c, a_op, a_un, a_rI, a_rI0, a_rU, a_eqI, a_neI, a_eqB, a_neB, a_tB, a_test, a_and, a_or, a_not, a_andV, a_orV, a_notV, a_nil, a_cons, a_lst, a_tup, a_call, a_cb, a_bm0, a_bm, a_sl, a_nopart, a_part, a_tyI, a_for, a_comp, a_ilist, a_irng1, a_irng2, a_irng3, a_cxK, and_assoc, a_irev, a_ienum, a_cat, a_rep, a_pop, a_clear, a_rslL, a_ixL, a_ixT, a_setL, a_app,
    List.getElem?_cons_zero, List.getElem?_cons_succ, List.set_cons_zero, List.set_cons_succ, Option.some.injEq, V.int.injEq, V.bl.injEq, V.ref.injEq, V.ty.injEq, exists_eq_left', exists_eq_left, exists_and_left, decide_eq_true_eq, List.cons_append, List.nil_append, List.append_nil, List.cons.injEq, and_true, true_and, Bool.not_eq_true', decide_eq_false_iff_not, ite_true, ite_false, Bool.false_eq_true, if_true, if_false, List.length_cons, List.length_nil, L2.start, List.map_cons, List.map_nil, List.replicate_succ, List.replicate_zero]
  refine ⟨⟨_, hS⟩, ?_⟩
  obtain ⟨Pv, hPv⟩ : ∃ Pv : Nat → L2.St → Hp → Prop, ∀ i σ H', Pv i σ H' ↔ ∃ r : Option V, σ = [some (V.ref a), some (V.int (contL (xs.take i) : Nat)), r] ∧ H' = H := ⟨_, fun _ _ _ => Iff.rfl⟩
  refine lp_list (xs := xs.map V.int) Pv ((hPv _ _ _).mpr ⟨_, rfl, rfl⟩) (fun i σ H' _ z => by obtain ⟨_, _, rfl⟩ := (hPv i σ H').mp z; exact hS) ?_ ?_
  · intro i v σ H' hv hp
    obtain ⟨r, rfl, rfl⟩ := (hPv _ _ _).mp hp
    have hi : i < xs.length := by have := (List.getElem?_eq_some_iff.mp hv).1; rw [List.length_map] at this; exact this
    rw [List.getElem?_map, List.getElem?_eq_getElem hi] at hv
    obtain rfl : V.int xs[i] = v := Option.some.inj hv
    have et : xs.take (i + 1) = xs.take i ++ [xs[i]] := by rw [List.take_succ, List.getElem?_eq_getElem hi]; rfl
    simp only [a_izip, a_drop_nx, a_raise, a_seq, a_next, a_drop, a_ret, a_retN, a_if, a_asg, a_gname, a_gsub, a_gtup, a_gnil, a_gcons, a_aug, a_augS, a_ipI, a_var, a_c, a_op, a_un, a_rI, a_rI0, a_rU, a_eqI, a_neI, a_eqB, a_neB, a_tB, a_test, a_and, a_or, a_not, a_andV, a_orV, a_notV, a_nil, a_cons, a_lst, a_tup, a_call, a_cb, a_bm0, a_bm, a_sl, a_nopart, a_part, a_tyI, a_for, a_comp, a_ilist, a_irng1, a_irng2, a_irng3, a_cxK, and_assoc, a_irev, a_ienum, a_cat, a_rep, a_pop, a_clear, a_rslL, a_ixL, a_ixT, a_setL, a_app,
    List.getElem?_cons_zero, List.getElem?_cons_succ, List.set_cons_zero, List.set_cons_succ, Option.some.injEq, V.int.injEq, V.bl.injEq, V.ref.injEq, V.ty.injEq, exists_eq_left', exists_eq_left, exists_and_left, decide_eq_true_eq, List.cons_append, List.nil_append, List.append_nil, List.cons.injEq, and_true, true_and, Bool.not_eq_true', decide_eq_false_iff_not, ite_true, ite_false, Bool.false_eq_true, if_true, if_false, List.length_cons, List.length_nil, L2.start, List.map_cons, List.map_nil, List.replicate_succ, List.replicate_zero]
    refine ⟨_, _, rfl, ?_, (hPv _ _ _).mpr ⟨some (V.int xs[i]), ?_, rfl⟩⟩
    · rw [Int.natAbs_natCast]
      exact cont_lt (Nat.two_pow_pos _) _ fun x hx => hb x (List.mem_of_mem_take hx)
    · rw [et, cont_snoc, Int.natAbs_natCast]
  · intro σ H' hp
    obtain ⟨r, rfl, rfl⟩ := (hPv _ _ _).mp hp
    rw [List.length_map, List.take_length]
    simp only [a_izip, a_drop_nx, a_raise, a_seq, a_next, a_drop, a_ret, a_retN, a_if, a_asg, a_gname, a_gsub, a_gtup, a_gnil, a_gcons, a_aug, a_augS, a_ipI, a_var, a_c, a_op, a_un, a_rI, a_rI0, a_rU, a_eqI, a_neI, a_eqB, a_neB, a_tB, a_test, a_and, a_or, a_not, a_andV, a_orV, a_notV, a_nil, a_cons, a_lst, a_tup, a_call, a_cb, a_bm0, a_bm, a_sl, a_nopart, a_part, a_tyI, a_for, a_comp, a_ilist, a_irng1, a_irng2, a_irng3, a_cxK, and_assoc, a_irev, a_ienum, a_cat, a_rep, a_pop, a_clear, a_rslL, a_ixL, a_ixT, a_setL, a_app,
    List.getElem?_cons_zero, List.getElem?_cons_succ, List.set_cons_zero, List.set_cons_succ, Option.some.injEq, V.int.injEq, V.bl.injEq, V.ref.injEq, V.ty.injEq, exists_eq_left', exists_eq_left, exists_and_left, decide_eq_true_eq, List.cons_append, List.nil_append, List.append_nil, List.cons.injEq, and_true, true_and, Bool.not_eq_true', decide_eq_false_iff_not, ite_true, ite_false, Bool.false_eq_true, if_true, if_false, List.length_cons, List.length_nil, L2.start, List.map_cons, List.map_nil, List.replicate_succ, List.replicate_zero]
    exact q
def spOver (K : PySem.W.Frag) : Sp := fun vs H Q _ => ∃ (a : Addr) (xs : List Int) (c : Int), vs = [.ref a, .int c] ∧ SqL K H a (xs.map V.int) ∧ xs.length ≤ 5000 ∧ c ≠ 0 ∧ c.natAbs < 2 ^ 4000 ∧ newL H Q ((xs.map fun x => x.fdiv c).map V.int)
theorem ok_over {P : Program} {w : World} {K : PySem.W.Frag} {mg : Str → Option Value} {base : Heap} (T : Tx K mg) : FnOk P w K mg base CX0 1 T.a_over T.fd_over ["poly", "number"] (spOver K) := by
  refine T.F_over.ok sc_over (fun vs H Q E h => ?_) (fun cdv A outer s H vs Q E hr h => ?_)
  · obtain ⟨a, xs, c, rfl, _⟩ := h
    rfl
  obtain ⟨a, xs, c, rfl, hS, hl, c0, cb, q⟩ := h
  refine ⟨_, ((pss_one (ps_ret (pe_lcomp rfl (blkok rfl (sub_cons rfl sub_nil) (fv_cons 1 "number" (by decide) rfl (Or.inl rfl) (Or.inl rfl) ⟨_, rfl⟩ fv_nil)) (pi_list (pv 0)) (fun _ _ _ _ => (pe_op op_fdivB (pv 0) (pv 1))))))), ?_⟩
  simp only [a_izip, a_drop_nx, a_raise, a_seq, a_next, a_drop, a_ret, a_retN, a_if, a_asg, a_gname, a_gsub, a_gtup, a_gnil, a_gcons, a_aug, a_augS, a_ipI, a_var, a_c, a_op, a_un, a_rI, a_rI0, a_rU, a_eqI, a_neI, a_eqB, a_neB, a_tB, a_test, a_and, a_or, a_not, a_andV, a_orV, a_notV, a_nil, a_cons, a_lst, a_tup, a_call, a_cb, a_bm0, a_bm, a_sl, a_nopart, a_part, a_tyI, a_for, a_comp, a_ilist, a_irng1, a_irng2, a_irng3, a_cxK, and_assoc, a_irev, a_ienum, a_cat, a_rep, a_pop, a_clear, a_rslL, a_ixL, a_ixT, a_setL, a_app,
    List.getElem?_cons_zero, List.getElem?_cons_succ, List.set_cons_zero, List.set_cons_succ, Option.some.injEq, V.int.injEq, V.bl.injEq, V.ref.injEq, V.ty.injEq, exists_eq_left', exists_eq_left, exists_and_left, decide_eq_true_eq, List.cons_append, List.nil_append, List.append_nil, List.cons.injEq, and_true, true_and, Bool.not_eq_true', decide_eq_false_iff_not, ite_true, ite_false, Bool.false_eq_true, if_true, if_false, List.length_cons, List.length_nil, L2.start, List.map_cons, List.map_nil, List.replicate_succ, List.replicate_zero]
  refine ⟨⟨_, hS⟩, fun C hC => ?_⟩
  obtain ⟨Pc, hPc⟩ : ∃ Pc : Nat → Hp → Prop, ∀ i H', Pc i H' ↔ H' C = some (.lst (((xs.take i).map fun x => x.fdiv c).map V.int)) ∧ Same H H' := ⟨_, fun _ _ => Iff.rfl⟩
  refine cl_list (xs := xs.map V.int) Pc ((hPc _ _).mpr ⟨by rw [upd_same]; rfl, same_upd hC _⟩) (fun i Hx _ z => ((hPc i Hx).mp z).2.seq hS) ?_ ?_
  · intro i v Hx hv hc
    obtain ⟨k1, k2⟩ := (hPc _ _).mp hc
    have hi : i < xs.length := by have := (List.getElem?_eq_some_iff.mp hv).1; rw [List.length_map] at this; exact this
    rw [List.getElem?_map, List.getElem?_eq_getElem hi] at hv
    obtain rfl : V.int xs[i] = v := Option.some.inj hv
    simp only [a_izip, a_drop_nx, a_raise, a_seq, a_next, a_drop, a_ret, a_retN, a_if, a_asg, a_gname, a_gsub, a_gtup, a_gnil, a_gcons, a_aug, a_augS, a_ipI, a_var, a_c, a_op, a_un, a_rI, a_rI0, a_rU, a_eqI, a_neI, a_eqB, a_neB, a_tB, a_test, a_and, a_or, a_not, a_andV, a_orV, a_notV, a_nil, a_cons, a_lst, a_tup, a_call, a_cb, a_bm0, a_bm, a_sl, a_nopart, a_part, a_tyI, a_for, a_comp, a_ilist, a_irng1, a_irng2, a_irng3, a_cxK, and_assoc, a_irev, a_ienum, a_cat, a_rep, a_pop, a_clear, a_rslL, a_ixL, a_ixT, a_setL, a_app,
    List.getElem?_cons_zero, List.getElem?_cons_succ, List.set_cons_zero, List.set_cons_succ, Option.some.injEq, V.int.injEq, V.bl.injEq, V.ref.injEq, V.ty.injEq, exists_eq_left', exists_eq_left, exists_and_left, decide_eq_true_eq, List.cons_append, List.nil_append, List.append_nil, List.cons.injEq, and_true, true_and, Bool.not_eq_true', decide_eq_false_iff_not, ite_true, ite_false, Bool.false_eq_true, if_true, if_false, List.length_cons, List.length_nil, L2.start, List.map_cons, List.map_nil, List.replicate_succ, List.replicate_zero, bst, Option.getD_some]
    have et : xs.take (i + 1) = xs.take i ++ [xs[i]] := by rw [List.take_succ, List.getElem?_eq_getElem hi]; rfl
    refine ⟨c0, Nat.lt_of_lt_of_le cb (Nat.pow_le_pow_right (by decide) (by decide)), _, k1, small5000 (by simp; omega), (hPc _ _).mpr ⟨?_, k2.more hC⟩⟩
    rw [upd_same, et, List.map_append, List.map_append]; rfl
  intro H1 hc
  obtain ⟨k1, k2⟩ := (hPc _ _).mp hc
  rw [List.length_map, List.take_length] at k1
  exact q C _ k2 hC k1
def uprL (xs : List Int) : List Int := if xs ≠ [] ∧ co xs (xs.length - 1) < 0 then xs.map fun x => -x else xs
def spUp (K : PySem.W.Frag) : Sp := fun vs H Q _ => ∃ (a : Addr) (xs : List Int), vs = [.ref a] ∧ SqL K H a (xs.map V.int) ∧ xs.length ≤ 1000 ∧ newL H Q ((uprL xs).map V.int)
theorem ok_upright {P : Program} {w : World} {K : PySem.W.Frag} {mg : Str → Option Value} {base : Heap} (T : Tx K mg) : FnOk P w K mg base CX0 1 T.a_upright T.fd_upright ["poly"] (spUp K) := by
  refine T.F_upright.ok sc_upright (fun vs H Q E h => ?_) (fun cdv A outer s H vs Q E hr h => ?_)
  · obtain ⟨a, xs, rfl, _⟩ := h
    rfl
  obtain ⟨a, xs, rfl, hS, hl, q⟩ := h
  refine ⟨_, ((pss_cons (ps_if (PW.pt (pw_and (pt_cmpR op_gt (pe_callB call_len_seq rfl T.z_len bt_len (pa_cons (pv 0) pa_nil)) pe_int (nomark _)) (pw_and1 (pt_cmpR op_lt (pe_ix ix_list (pv 0) (pe_un un_neg pe_int) (fun _ _ => rfl)) pe_int (nomark _))))) (pss_one (ps_ret (pe_lcomp rfl (blkok rfl sub_nil fv_nil) (pi_list (pv 0)) (fun _ _ _ _ => (pe_un un_neg (pv 0)))))) pss_nil)
    (pss_one (ps_ret (pe_callTy call_list_of rfl T.z_list bt_list (pa_cons (pv 0) pa_nil)))))), ?_⟩
  simp only [a_izip, a_drop_nx, a_raise, a_seq, a_next, a_drop, a_ret, a_retN, a_if, a_asg, a_gname, a_gsub, a_gtup, a_gnil, a_gcons, a_aug, a_augS, a_ipI, a_var, a_c, a_op, a_un, a_rI, a_rI0, a_rU, a_eqI, a_neI, a_eqB, a_neB, a_tB, a_test, a_and, a_or, a_not, a_andV, a_orV, a_notV, a_nil, a_cons, a_lst, a_tup, a_call, a_cb, a_bm0, a_bm, a_sl, a_nopart, a_part, a_tyI, a_for, a_comp, a_ilist, a_irng1, a_irng2, a_irng3, a_cxK, and_assoc, a_irev, a_ienum, a_cat, a_rep, a_pop, a_clear, a_rslL, a_ixL, a_ixT, a_setL, a_app,
    List.getElem?_cons_zero, List.getElem?_cons_succ, List.set_cons_zero, List.set_cons_succ, Option.some.injEq, V.int.injEq, V.bl.injEq, V.ref.injEq, V.ty.injEq, exists_eq_left', exists_eq_left, exists_and_left, decide_eq_true_eq, List.cons_append, List.nil_append, List.append_nil, List.cons.injEq, and_true, true_and, Bool.not_eq_true', decide_eq_false_iff_not, ite_true, ite_false, Bool.false_eq_true, if_true, if_false, List.length_cons, List.length_nil, L2.start, List.map_cons, List.map_nil, List.replicate_succ, List.replicate_zero]
  refine ⟨_, .inl hS, ?_⟩
  rw [List.length_map]
  unfold uprL at q
  have lst : ¬ (xs ≠ [] ∧ co xs (xs.length - 1) < 0) → ∃ x, (SqL K H a x ∨ SqT K H a x) ∧ ∀ l, H l = none → Q (V.ref l) (upd H l (HO.lst x)) := fun h => by
    rw [if_neg h] at q
    exact ⟨_, .inl hS, fun l hl => q l _ (same_upd hl _) hl upd_same⟩
  refine ite2 (fun h => ?_) (fun h => lst fun z => ?_)
  · have hne : xs ≠ [] := by intro z; rw [z] at h; simp at h
    refine ⟨_, hS, _, at_last hne, ?_⟩
    simp only [a_izip, a_drop_nx, a_raise, a_seq, a_next, a_drop, a_ret, a_retN, a_if, a_asg, a_gname, a_gsub, a_gtup, a_gnil, a_gcons, a_aug, a_augS, a_ipI, a_var, a_c, a_op, a_un, a_rI, a_rI0, a_rU, a_eqI, a_neI, a_eqB, a_neB, a_tB, a_test, a_and, a_or, a_not, a_andV, a_orV, a_notV, a_nil, a_cons, a_lst, a_tup, a_call, a_cb, a_bm0, a_bm, a_sl, a_nopart, a_part, a_tyI, a_for, a_comp, a_ilist, a_irng1, a_irng2, a_irng3, a_cxK, and_assoc, a_irev, a_ienum, a_cat, a_rep, a_pop, a_clear, a_rslL, a_ixL, a_ixT, a_setL, a_app,
    List.getElem?_cons_zero, List.getElem?_cons_succ, List.set_cons_zero, List.set_cons_succ, Option.some.injEq, V.int.injEq, V.bl.injEq, V.ref.injEq, V.ty.injEq, exists_eq_left', exists_eq_left, exists_and_left, decide_eq_true_eq, List.cons_append, List.nil_append, List.append_nil, List.cons.injEq, and_true, true_and, Bool.not_eq_true', decide_eq_false_iff_not, ite_true, ite_false, Bool.false_eq_true, if_true, if_false, List.length_cons, List.length_nil, L2.start, List.map_cons, List.map_nil, List.replicate_succ, List.replicate_zero]
    have ec : co xs (xs.length - 1) = xs.getLast hne := by rw [co_lt (by omega), List.getLast_eq_getElem]
    refine ite2 (fun h0 => ?_) (fun h0 => lst fun z => h0 (by rw [← ec]; exact z.2))
    rw [if_pos ⟨hne, by rw [ec]; exact h0⟩] at q
    refine ⟨⟨_, hS⟩, fun C hC => ?_⟩
    obtain ⟨Pc, hPc⟩ : ∃ Pc : Nat → Hp → Prop, ∀ i H', Pc i H' ↔ H' C = some (.lst (((xs.take i).map fun x => -x).map V.int)) ∧ Same H H' := ⟨_, fun _ _ => Iff.rfl⟩
    refine cl_list (xs := xs.map V.int) Pc ((hPc _ _).mpr ⟨by rw [upd_same]; rfl, same_upd hC _⟩) (fun i Hx _ z => ((hPc i Hx).mp z).2.seq hS) ?_ ?_
    · intro i v Hx hv hc
      obtain ⟨k1, k2⟩ := (hPc _ _).mp hc
      have hi : i < xs.length := by have := (List.getElem?_eq_some_iff.mp hv).1; rw [List.length_map] at this; exact this
      rw [List.getElem?_map, List.getElem?_eq_getElem hi] at hv
      obtain rfl : V.int xs[i] = v := Option.some.inj hv
      simp only [a_izip, a_drop_nx, a_raise, a_seq, a_next, a_drop, a_ret, a_retN, a_if, a_asg, a_gname, a_gsub, a_gtup, a_gnil, a_gcons, a_aug, a_augS, a_ipI, a_var, a_c, a_op, a_un, a_rI, a_rI0, a_rU, a_eqI, a_neI, a_eqB, a_neB, a_tB, a_test, a_and, a_or, a_not, a_andV, a_orV, a_notV, a_nil, a_cons, a_lst, a_tup, a_call, a_cb, a_bm0, a_bm, a_sl, a_nopart, a_part, a_tyI, a_for, a_comp, a_ilist, a_irng1, a_irng2, a_irng3, a_cxK, and_assoc, a_irev, a_ienum, a_cat, a_rep, a_pop, a_clear, a_rslL, a_ixL, a_ixT, a_setL, a_app,
    List.getElem?_cons_zero, List.getElem?_cons_succ, List.set_cons_zero, List.set_cons_succ, Option.some.injEq, V.int.injEq, V.bl.injEq, V.ref.injEq, V.ty.injEq, exists_eq_left', exists_eq_left, exists_and_left, decide_eq_true_eq, List.cons_append, List.nil_append, List.append_nil, List.cons.injEq, and_true, true_and, Bool.not_eq_true', decide_eq_false_iff_not, ite_true, ite_false, Bool.false_eq_true, if_true, if_false, List.length_cons, List.length_nil, L2.start, List.map_cons, List.map_nil, List.replicate_succ, List.replicate_zero, bst, Option.getD_some]
      have et : xs.take (i + 1) = xs.take i ++ [xs[i]] := by rw [List.take_succ, List.getElem?_eq_getElem hi]; rfl
      refine ⟨_, k1, small1000 (by simp; omega), (hPc _ _).mpr ⟨?_, k2.more hC⟩⟩
      rw [upd_same, et, List.map_append, List.map_append]; rfl
    intro H1 hc
    obtain ⟨k1, k2⟩ := (hPc _ _).mp hc
    rw [List.length_map, List.take_length] at k1
    exact q C _ k2 hC k1
  · have : 0 < xs.length := List.length_pos_iff.mpr z.1
    omega
def spGreat (K : PySem.W.Frag) : Sp := fun vs H Q _ => ∃ (a : Addr) (xs : List Int), vs = [.ref a] ∧ SqL K H a (xs.map V.int) ∧ xs ≠ [] ∧ xs.length ≤ 1000 ∧ ∀ (M : Nat) H', Same H H' → (∀ x ∈ xs, x.natAbs ≤ M) → (∃ x ∈ xs, x.natAbs = M) → Q (.int (M : Int)) H'
theorem ok_greatest_size {P : Program} {w : World} {K : PySem.W.Frag} {mg : Str → Option Value} {base : Heap} (T : Tx K mg) : FnOk P w K mg base CX0 1 T.a_greatest_size T.fd_greatest_size ["poly"] (spGreat K) := by
  refine T.F_greatest_size.ok sc_greatest_size (fun vs H Q E h => ?_) (fun cdv A outer s H vs Q E hr h => ?_)
  · obtain ⟨a, xs, rfl, _⟩ := h
    rfl
  obtain ⟨a, xs, rfl, hS, hne, hl, q⟩ := h
  refine ⟨_, ((pss_one (ps_ret (pe_callB (call_maxL rfl) rfl T.z_max bt_max (pa_cons (pe_lcomp rfl (blkok rfl sub_nil fv_nil) (pi_list (pv 0)) (fun _ _ _ _ => (pe_callB call_abs rfl T.z_abs bt_abs (pa_cons (pv 0) pa_nil)))) pa_nil))))), ?_⟩
  simp only [a_izip, a_drop_nx, a_raise, a_seq, a_next, a_drop, a_ret, a_retN, a_if, a_asg, a_gname, a_gsub, a_gtup, a_gnil, a_gcons, a_aug, a_augS, a_ipI, a_var, a_c, a_op, a_un, a_rI, a_rI0, a_rU, a_eqI, a_neI, a_eqB, a_neB, a_tB, a_test, a_and, a_or, a_not, a_andV, a_orV, a_notV, a_nil, a_cons, a_lst, a_tup, a_call, a_cb, a_bm0, a_bm, a_sl, a_nopart, a_part, a_tyI, a_for, a_comp, a_ilist, a_irng1, a_irng2, a_irng3, a_cxK, and_assoc, a_irev, a_ienum, a_cat, a_rep, a_pop, a_clear, a_rslL, a_ixL, a_ixT, a_setL, a_app,
    List.getElem?_cons_zero, List.getElem?_cons_succ, List.set_cons_zero, List.set_cons_succ, Option.some.injEq, V.int.injEq, V.bl.injEq, V.ref.injEq, V.ty.injEq, exists_eq_left', exists_eq_left, exists_and_left, decide_eq_true_eq, List.cons_append, List.nil_append, List.append_nil, List.cons.injEq, and_true, true_and, Bool.not_eq_true', decide_eq_false_iff_not, ite_true, ite_false, Bool.false_eq_true, if_true, if_false, List.length_cons, List.length_nil, L2.start, List.map_cons, List.map_nil, List.replicate_succ, List.replicate_zero, abs_nat]
  refine ⟨⟨_, hS⟩, fun C hC => ?_⟩
  obtain ⟨Pc, hPc⟩ : ∃ Pc : Nat → Hp → Prop, ∀ i H', Pc i H' ↔ H' C = some (.lst (((xs.take i).map fun x => ((x.natAbs : Nat) : Int)).map V.int)) ∧ Same H H' := ⟨_, fun _ _ => Iff.rfl⟩
  refine cl_list (xs := xs.map V.int) Pc ((hPc _ _).mpr ⟨by rw [upd_same]; rfl, same_upd hC _⟩) (fun i Hx _ z => ((hPc i Hx).mp z).2.seq hS) ?_ ?_
  · intro i v Hx hv hc
    obtain ⟨k1, k2⟩ := (hPc _ _).mp hc
    have hi : i < xs.length := by have := (List.getElem?_eq_some_iff.mp hv).1; rw [List.length_map] at this; exact this
    rw [List.getElem?_map, List.getElem?_eq_getElem hi] at hv
    obtain rfl : V.int xs[i] = v := Option.some.inj hv
    simp only [a_izip, a_drop_nx, a_raise, a_seq, a_next, a_drop, a_ret, a_retN, a_if, a_asg, a_gname, a_gsub, a_gtup, a_gnil, a_gcons, a_aug, a_augS, a_ipI, a_var, a_c, a_op, a_un, a_rI, a_rI0, a_rU, a_eqI, a_neI, a_eqB, a_neB, a_tB, a_test, a_and, a_or, a_not, a_andV, a_orV, a_notV, a_nil, a_cons, a_lst, a_tup, a_call, a_cb, a_bm0, a_bm, a_sl, a_nopart, a_part, a_tyI, a_for, a_comp, a_ilist, a_irng1, a_irng2, a_irng3, a_cxK, and_assoc, a_irev, a_ienum, a_cat, a_rep, a_pop, a_clear, a_rslL, a_ixL, a_ixT, a_setL, a_app,
    List.getElem?_cons_zero, List.getElem?_cons_succ, List.set_cons_zero, List.set_cons_succ, Option.some.injEq, V.int.injEq, V.bl.injEq, V.ref.injEq, V.ty.injEq, exists_eq_left', exists_eq_left, exists_and_left, decide_eq_true_eq, List.cons_append, List.nil_append, List.append_nil, List.cons.injEq, and_true, true_and, Bool.not_eq_true', decide_eq_false_iff_not, ite_true, ite_false, Bool.false_eq_true, if_true, if_false, List.length_cons, List.length_nil, L2.start, List.map_cons, List.map_nil, List.replicate_succ, List.replicate_zero, bst, Option.getD_some, abs_nat]
    have et : xs.take (i + 1) = xs.take i ++ [xs[i]] := by rw [List.take_succ, List.getElem?_eq_getElem hi]; rfl
    refine ⟨_, k1, small1000 (by simp; omega), (hPc _ _).mpr ⟨?_, k2.more hC⟩⟩
    rw [upd_same, et, List.map_append, List.map_append]; rfl
  intro H1 hc
  obtain ⟨k1, k2⟩ := (hPc _ _).mp hc
  rw [List.length_map, List.take_length] at k1
  refine ⟨C, rfl, _, SqL.of k1, by simpa using hne, fun M hM1 hM2 => ?_⟩
  obtain ⟨x, hx, rfl⟩ := List.mem_map.mp hM1
  exact q _ _ k2 (fun y hy => by have := hM2 _ (List.mem_map.mpr ⟨y, hy, rfl⟩); omega) ⟨x, hx, rfl⟩
def spSpread (K : PySem.W.Frag) : Sp := fun vs H Q _ => ∃ (n b : Int), vs = [.int n, .int b] ∧ 0 < n ∧ n.natAbs < 2 ^ 3990 ∧ 29 ≤ b ∧ b.natAbs < 2 ^ 3990 ∧
  ∀ f : List Int, val b f = n → (∀ x ∈ f, 2 * x.natAbs ≤ b.natAbs) → f ≠ [] → 0 < co f (f.length - 1) → f.length ≤ 4000 → newL H Q (f.map V.int)
theorem ok_spread {P : Program} {w : World} {K : PySem.W.Frag} {mg : Str → Option Value} {base : Heap} (T : Tx K mg) : FnOk P w K mg base CX0 1 T.a_spread T.fd_spread ["number", "base"] (spSpread K) := by
  refine T.F_spread.ok sc_spread (fun vs H Q E h => ?_) (fun cdv A outer s H vs Q E hr h => ?_)
  · obtain ⟨n, b, rfl, _⟩ := h
    rfl
  obtain ⟨n, b, rfl, n0, nb, b29, bb, q⟩ := h
  refine ⟨_, ((pss_cons (ps_set (i := 2) sc_spread.nd rfl (Or.inl rfl) (pe_lst pa_nil))
    (pss_cons (ps_while PassesOwn.never (pt_cmpR op_ne (pv 0) pe_int (nomark _)) (pss_cons (ps_set (i := 3) sc_spread.nd rfl (Or.inl rfl) (pe_op op_mod (pv 0) (pv 1)))
    (pss_mid (ps_if (pt_cmpR op_gt (pe_op op_mul pe_int (pv 3)) (pv 1) (nomark _)) (pss_one (ps_aug (i := 3) sc_spread.nd rfl (Or.inl rfl) (pv 1) ip_sub)) pss_nil)
    (pss_cons (ps_expr (pe_bm PySem.F.plainAttrs_list PySem.F.slot_list_append PySem.F.type_list_append mt_append (pv 2) (pa_cons (pv 3) pa_nil)))
    (pss_one (ps_set (i := 0) sc_spread.nd rfl (Or.inl rfl) (pe_op op_fdivB (pe_op op_sub (pv 0) (pv 3)) (pv 1))))))))
    (pss_one (ps_ret (pv 2)))))), ?_⟩
  simp only [a_izip, a_drop_nx, a_raise, a_seq, a_next, a_drop, a_ret, a_retN, a_if, a_asg, a_gname, a_gsub, a_gtup, a_gnil, a_gcons, a_aug, a_augS, a_ipI, a_var, a_c, a_op, a_un, a_rI, a_rI0, a_rU, a_eqI, a_neI, a_eqB, a_neB, a_tB, a_test, a_and, a_or, a_not, a_andV, a_orV, a_notV, a_nil, a_cons, a_lst, a_tup, a_call, a_cb, a_bm0, a_bm, a_sl, a_nopart, a_part, a_tyI, a_for, a_comp, a_ilist, a_irng1, a_irng2, a_irng3, a_cxK, and_assoc, a_irev, a_ienum, a_cat, a_rep, a_pop, a_clear, a_rslL, a_ixL, a_ixT, a_setL, a_app,
    List.getElem?_cons_zero, List.getElem?_cons_succ, List.set_cons_zero, List.set_cons_succ, Option.some.injEq, V.int.injEq, V.bl.injEq, V.ref.injEq, V.ty.injEq, exists_eq_left', exists_eq_left, exists_and_left, decide_eq_true_eq, List.cons_append, List.nil_append, List.append_nil, List.cons.injEq, and_true, true_and, Bool.not_eq_true', decide_eq_false_iff_not, ite_true, ite_false, Bool.false_eq_true, if_true, if_false, List.length_cons, List.length_nil, L2.start, List.map_cons, List.map_nil, List.replicate_succ, List.replicate_zero]
  refine ⟨Nat.zero_le _, fun A0 hA => ?_⟩
  have inv0 : ∃ (ds : List Int) (k : Nat) (r : Option V), [some (V.int n), some (V.int b), some (V.ref A0), none] = [some (V.int n), some (V.int b), some (V.ref A0), r] ∧ upd H A0 (.lst []) A0 = some (.lst (ds.map V.int)) ∧ Same H (upd H A0 (.lst [])) ∧ 0 ≤ n ∧ n < 2 ^ k ∧ ds.length + k ≤ 3990 ∧ (∀ x ∈ ds, 2 * x.natAbs ≤ b.natAbs) ∧ (0 < n ∨ ds ≠ [] ∧ 0 < co ds (ds.length - 1)) ∧ ∀ rest, val b rest = n → val b (ds ++ rest) = n :=
    ⟨[], 3990, none, rfl, upd_same, same_upd hA _, by omega, by omega, by simp, by simp, .inl n0, fun rest h => h⟩
  refine while_of (fun m σ H' => ∃ (n' : Int) (ds : List Int) (k : Nat) (r : Option V), m = n'.natAbs ∧ σ = [some (V.int n'), some (V.int b), some (V.ref A0), r] ∧ H' A0 = some (.lst (ds.map V.int)) ∧ Same H H' ∧ 0 ≤ n' ∧ n' < 2 ^ k ∧ ds.length + k ≤ 3990 ∧ (∀ x ∈ ds, 2 * x.natAbs ≤ b.natAbs) ∧ (0 < n' ∨ ds ≠ [] ∧ 0 < co ds (ds.length - 1)) ∧ ∀ rest, val b rest = n' → val b (ds ++ rest) = n) n.natAbs ?_ ?_
  · obtain ⟨ds, k, r, e⟩ := inv0
    exact ⟨n, ds, k, r, rfl, e⟩
  rintro m σ H' ⟨n', ds, k, r, rfl, rfl, hz, sz, h0, hk, hl, hb, hp, hv⟩
  simp only [a_izip, a_drop_nx, a_raise, a_seq, a_next, a_drop, a_ret, a_retN, a_if, a_asg, a_gname, a_gsub, a_gtup, a_gnil, a_gcons, a_aug, a_augS, a_ipI, a_var, a_c, a_op, a_un, a_rI, a_rI0, a_rU, a_eqI, a_neI, a_eqB, a_neB, a_tB, a_test, a_and, a_or, a_not, a_andV, a_orV, a_notV, a_nil, a_cons, a_lst, a_tup, a_call, a_cb, a_bm0, a_bm, a_sl, a_nopart, a_part, a_tyI, a_for, a_comp, a_ilist, a_irng1, a_irng2, a_irng3, a_cxK, and_assoc, a_irev, a_ienum, a_cat, a_rep, a_pop, a_clear, a_rslL, a_ixL, a_ixT, a_setL, a_app,
    List.getElem?_cons_zero, List.getElem?_cons_succ, List.set_cons_zero, List.set_cons_succ, Option.some.injEq, V.int.injEq, V.bl.injEq, V.ref.injEq, V.ty.injEq, exists_eq_left', exists_eq_left, exists_and_left, decide_eq_true_eq, List.cons_append, List.nil_append, List.append_nil, List.cons.injEq, and_true, true_and, Bool.not_eq_true', decide_eq_false_iff_not, ite_true, ite_false, Bool.false_eq_true, if_true, if_false, List.length_cons, List.length_nil, L2.start, List.map_cons, List.map_nil, List.replicate_succ, List.replicate_zero]
  refine ite2 (fun h => ?_) (fun h => ?_)
  · have hn : n' ≠ 0 := by simpa using h
    refine ⟨fun σ' H1 => ∃ low t : Int, σ' = [some (V.int t), some (V.int b), some (V.ref A0), some (V.int low)] ∧ H1 = upd H' A0 (.lst ((ds ++ [low]).map V.int)) ∧ n' = low + b * t ∧ 2 * low.natAbs ≤ b.natAbs ∧ 0 ≤ t, ?_, by omega, ?_⟩
    · rintro σ' H1 ⟨low, t, rfl, rfl, hnt, hlow, ht⟩
      have tb : 2 * t ≤ n' := by
        by_cases z : t = 0
        · omega
        · have z1 : b * 1 ≤ b * t := Int.mul_le_mul_of_nonneg_left (by omega) (by omega)
          have z2 : 29 * t ≤ b * t := Int.mul_le_mul_of_nonneg_right b29 ht
          generalize b * t = X at z1 z2 hnt
          omega
      obtain ⟨k', rfl⟩ : ∃ k', k = k' + 1 := ⟨k - 1, by
        by_cases z : k = 0
        · rw [z] at hk; simp at hk; omega
        · omega⟩
      refine ⟨t.natAbs, by omega, t, rfl, ds ++ [low], k', _, rfl, upd_same, sz.more hA, ht, ?_, by simp; omega, fun x hx => ?_, ?_, fun rest hr' => ?_⟩
      · have : (2 : Int) ^ (k' + 1) = 2 ^ k' * 2 := Int.pow_succ 2 k'
        omega
      · rcases List.mem_append.mp hx with z | z
        · exact hb x z
        · rw [List.mem_singleton.mp z]; exact hlow
      · by_cases z : t = 0
        · refine .inr ⟨by simp, ?_⟩
          rw [show (ds ++ [low]).length - 1 = ds.length by simp, co_snoc, if_pos rfl]
          rw [z, Int.mul_zero] at hnt
          omega
        · exact .inl (by omega)
      · rw [List.append_assoc]
        refine hv ([low] ++ rest) ?_
        show low + b * val b rest = n'
        rw [hr', hnt]
    · obtain ⟨M, hM⟩ : ∃ M : L2.St → Hp → Prop, ∀ σ H1, M σ H1 ↔ ∃ low t : Int, σ = [some (V.int n'), some (V.int b), some (V.ref A0), some (V.int low)] ∧ H1 = H' ∧ n' = low + b * t ∧ 2 * low.natAbs ≤ b.natAbs ∧ 0 ≤ t := ⟨_, fun _ _ => Iff.rfl⟩
      have m1 := Int.emod_nonneg n' (show b ≠ 0 by omega)
      have m2 := Int.emod_lt_of_pos n' (show 0 < b by omega)
      have m3 := Int.emod_add_mul_ediv n' b
      have m4 := Int.ediv_nonneg h0 (show 0 ≤ b by omega)
      refine mid_of M ?_ ?_
      · simp only [a_izip, a_drop_nx, a_raise, a_seq, a_next, a_drop, a_ret, a_retN, a_if, a_asg, a_gname, a_gsub, a_gtup, a_gnil, a_gcons, a_aug, a_augS, a_ipI, a_var, a_c, a_op, a_un, a_rI, a_rI0, a_rU, a_eqI, a_neI, a_eqB, a_neB, a_tB, a_test, a_and, a_or, a_not, a_andV, a_orV, a_notV, a_nil, a_cons, a_lst, a_tup, a_call, a_cb, a_bm0, a_bm, a_sl, a_nopart, a_part, a_tyI, a_for, a_comp, a_ilist, a_irng1, a_irng2, a_irng3, a_cxK, and_assoc, a_irev, a_ienum, a_cat, a_rep, a_pop, a_clear, a_rslL, a_ixL, a_ixT, a_setL, a_app,
    List.getElem?_cons_zero, List.getElem?_cons_succ, List.set_cons_zero, List.set_cons_succ, Option.some.injEq, V.int.injEq, V.bl.injEq, V.ref.injEq, V.ty.injEq, exists_eq_left', exists_eq_left, exists_and_left, decide_eq_true_eq, List.cons_append, List.nil_append, List.append_nil, List.cons.injEq, and_true, true_and, Bool.not_eq_true', decide_eq_false_iff_not, ite_true, ite_false, Bool.false_eq_true, if_true, if_false, List.length_cons, List.length_nil, L2.start, List.map_cons, List.map_nil, List.replicate_succ, List.replicate_zero]
        refine ⟨.inl ⟨by decide, by decide⟩, ite2 (fun h2 => (hM _ _).mpr ⟨_, n' / b + 1, rfl, rfl, ?_, by omega, by omega⟩) (fun h2 => (hM _ _).mpr ⟨_, n' / b, rfl, rfl, by omega, by omega, m4⟩)⟩
        rw [Int.mul_add, Int.mul_one]; omega
      · intro σ H1 hm
        obtain ⟨low, t, rfl, rfl, hnt, hlow, ht⟩ := (hM _ _).mp hm
        simp only [a_izip, a_drop_nx, a_raise, a_seq, a_next, a_drop, a_ret, a_retN, a_if, a_asg, a_gname, a_gsub, a_gtup, a_gnil, a_gcons, a_aug, a_augS, a_ipI, a_var, a_c, a_op, a_un, a_rI, a_rI0, a_rU, a_eqI, a_neI, a_eqB, a_neB, a_tB, a_test, a_and, a_or, a_not, a_andV, a_orV, a_notV, a_nil, a_cons, a_lst, a_tup, a_call, a_cb, a_bm0, a_bm, a_sl, a_nopart, a_part, a_tyI, a_for, a_comp, a_ilist, a_irng1, a_irng2, a_irng3, a_cxK, and_assoc, a_irev, a_ienum, a_cat, a_rep, a_pop, a_clear, a_rslL, a_ixL, a_ixT, a_setL, a_app,
    List.getElem?_cons_zero, List.getElem?_cons_succ, List.set_cons_zero, List.set_cons_succ, Option.some.injEq, V.int.injEq, V.bl.injEq, V.ref.injEq, V.ty.injEq, exists_eq_left', exists_eq_left, exists_and_left, decide_eq_true_eq, List.cons_append, List.nil_append, List.append_nil, List.cons.injEq, and_true, true_and, Bool.not_eq_true', decide_eq_false_iff_not, ite_true, ite_false, Bool.false_eq_true, if_true, if_false, List.length_cons, List.length_nil, L2.start, List.map_cons, List.map_nil, List.replicate_succ, List.replicate_zero]
        have et : (n' - low).fdiv b = t := by
          rw [show n' - low = b * t by omega]
          exact Int.mul_fdiv_cancel_left _ (by omega)
        rw [et]
        refine ⟨a_tyL (SqL.of hz), _, hz, small5000 (by simp; omega), by omega, Nat.lt_of_lt_of_le bb (Nat.pow_le_pow_right (by decide) (by decide)), by rw [List.map_append]; rfl, hnt, hlow, ht⟩
  · have e0 : n' = 0 := by simpa using h
    subst e0
    rcases hp with z | ⟨z1, z2⟩
    · omega
    have v := hv [] rfl
    rw [List.append_nil] at v
    exact q ds v hb z1 z2 (by omega) A0 _ sz hA hz
/-! #### bare_common -/
/-- what is asked of the two handed in: g is their common, with a number m of its own sum -/
structure Two (a b g : List Int) (G : Nat) : Prop where
  na : Nml a
  nb : Nml b
  a0 : a ≠ []
  b0 : b ≠ []
  la : a.length ≤ 12
  lb : b.length ≤ 12
  ba : ∀ z ∈ a, Bd 130 z
  bb : ∀ z ∈ b, Bd 130 z
  pg : Prim (co g)
  ng : Nml g
  lg : g.length ≤ 12
  up : 0 < co g (g.length - 1)
  bG : G < 2 ^ 130
  da : ∃ x, Div a g x
  db : ∃ y, Div b g y
  bz : ∃ (U V : List Int) (m : Int), m ≠ 0 ∧ (∀ z ∈ g, m.natAbs * z.natAbs ≤ G) ∧ ∀ n, val n U * val n a + val n V * val n b = m * val n g
theorem val_ne {p : Int} (hp : 1 ≤ p) {a : List Int} (na : Nml a) (a0 : a ≠ []) (h : ∀ z ∈ a, 2 * z.natAbs ≤ p.natAbs) : val p a ≠ 0 := by
  have l0 := co_last na a0
  rcases Int.lt_or_gt_of_ne l0 with g | g
  · have e : ∀ j, co (a.map fun z => -1 * z) j = -1 * co a j := fun j => by
      by_cases h : j < a.length
      · rw [co_lt (xs := a.map _) (by simpa using h), co_lt h, List.getElem_map]
      · rw [co_ge (xs := a.map _) (by simp; omega), co_ge (by omega), Int.mul_zero]
    have := (digits_top hp (a.map fun z => -1 * z) (by simpa using a0) (fun x hx => by
      obtain ⟨z, hz, rfl⟩ := List.mem_map.mp hx
      have := h z hz
      omega) (by rw [List.length_map, e]; omega)).2
    rw [val_map] at this
    omega
  · have := (digits_top hp a a0 h g).2
    omega
theorem val_lt {p : Int} (hp : 1 ≤ p) : ∀ a : List Int, (∀ z ∈ a, 2 * z.natAbs ≤ p.natAbs) → (val p a).natAbs < p.natAbs ^ a.length
  | [], _ => by simp [val]
  | x :: a, h => by
    have i := val_lt hp a fun z hz => h z (by simp [hz])
    have hx := h x (by simp)
    have e : val p (x :: a) = x + p * val p a := rfl
    rw [e, List.length_cons, Nat.pow_succ]
    have m : p.natAbs * ((val p a).natAbs + 1) ≤ p.natAbs * p.natAbs ^ a.length := Nat.mul_le_mul_left _ i
    rw [Nat.mul_add, Nat.mul_one, Nat.mul_comm _ (p.natAbs ^ a.length)] at m
    have n : (p * val p a).natAbs = p.natAbs * (val p a).natAbs := Int.natAbs_mul _ _
    omega
theorem few {p L : Nat} (hp : 29 ≤ p) (h : p ^ L < 2 ^ L * p ^ 12) : L ≤ 15 := by
  refine Nat.le_of_not_lt fun hl => ?_
  obtain ⟨r, rfl⟩ : ∃ r, L = 16 + r := ⟨L - 16, by omega⟩
  have e1 : p ^ (16 + r) = p ^ 12 * (p ^ 4 * p ^ r) := by rw [← Nat.pow_add, ← Nat.pow_add]; congr 1; omega
  have e2 : (2 : Nat) ^ (16 + r) = 2 ^ 16 * 2 ^ r := Nat.pow_add 2 16 r
  have m1 : 29 ^ 4 ≤ p ^ 4 := Nat.pow_le_pow_left hp 4
  have m2 : 2 ^ r ≤ p ^ r := Nat.pow_le_pow_left (by omega) r
  have m3 : 2 ^ 16 * 2 ^ r ≤ p ^ 4 * p ^ r := Nat.mul_le_mul (by omega) m2
  rw [e1, e2, Nat.mul_comm (2 ^ 16 * 2 ^ r)] at h
  exact absurd h (Nat.not_lt.mpr (Nat.mul_le_mul_left (p ^ 12) m3))
theorem pm_const (f : Nat → Int) (c : Int) (j : Nat) : pm f (fun i => if i = 0 then c else 0) j = c * f j := by
  unfold pm
  rw [sumN_one (i := j) (by omega) fun i hi hne => ?_]
  · show f j * (if j - j = 0 then c else 0) = _
    rw [if_pos (Nat.sub_self j), Int.mul_comm]
  · show f i * (if j - i = 0 then c else 0) = 0
    rw [if_neg (by omega), Int.mul_zero]
theorem found_is {a b g : List Int} {G : Nat} (tw : Two a b g G) {p : Int} {M : Nat} (hp : 2 * (M : Int) + 29 ≤ p) (hM : (∀ z ∈ a, z.natAbs ≤ M) ∨ (∀ z ∈ b, z.natAbs ≤ M)) :
    0 < Nat.gcd (val p a).natAbs (val p b).natAbs ∧ ∀ f : List Int, val p f = (Nat.gcd (val p a).natAbs (val p b).natAbs : Nat) → (∀ x ∈ f, 2 * x.natAbs ≤ p.natAbs) → f ≠ [] → 0 < co f (f.length - 1) →
      f.length ≤ 16 ∧ 0 < contL f ∧ Nml (f.map fun x => x.fdiv (contL f)) ∧ (∀ qa qb, Div a (f.map fun x => x.fdiv (contL f)) qa → Div b (f.map fun x => x.fdiv (contL f)) qb → f.map (fun x => x.fdiv (contL f)) = g) ∧ (2 * (G : Int) + 1 ≤ p → f.map (fun x => x.fdiv (contL f)) = g) := by
  obtain ⟨U, V, m, m0, hG, bz⟩ := tw.bz
  obtain ⟨x, hx⟩ := tw.da
  obtain ⟨y, hy⟩ := tw.db
  have vx := div_val.mp hx
  have vy := div_val.mp hy
  have small : ∃ d : List Int, (val p d ≠ 0 ∧ (val p d).natAbs < p.natAbs ^ 12) ∧ (Nat.gcd (val p a).natAbs (val p b).natAbs) ∣ (val p d).natAbs := by
    have pw : ∀ d : List Int, d.length ≤ 12 → (∀ z ∈ d, z.natAbs ≤ M) → (val p d).natAbs < p.natAbs ^ 12 := fun d hd hz =>
      Nat.lt_of_lt_of_le (val_lt (by omega) d fun z hz' => by have := hz z hz'; omega) (Nat.pow_le_pow_right (by omega) hd)
    rcases hM with h | h
    · exact ⟨a, ⟨val_ne (by omega) tw.na tw.a0 fun z hz => by have := h z hz; omega, pw a tw.la h⟩, Nat.gcd_dvd_left _ _⟩
    · exact ⟨b, ⟨val_ne (by omega) tw.nb tw.b0 fun z hz => by have := h z hz; omega, pw b tw.lb h⟩, Nat.gcd_dvd_right _ _⟩
  obtain ⟨d, ⟨d0, dl⟩, dd⟩ := small
  have gpos : 0 < Nat.gcd (val p a).natAbs (val p b).natAbs := Nat.pos_of_ne_zero fun z => by
    rw [z] at dd
    exact d0 (Int.natAbs_eq_zero.mp (Nat.eq_zero_of_zero_dvd dd))
  have gle := Nat.le_of_dvd (Int.natAbs_pos.mpr d0) dd
  refine ⟨gpos, fun f fv fs f0 ft => ?_⟩
  have fl : f.length ≤ 16 := by
    have t := (digits_top (by omega) f f0 fs ft).1
    rw [fv] at t
    have e : (p.natAbs : Int) = p := by omega
    have t' : p.natAbs ^ (f.length - 1) ≤ 2 ^ (f.length - 1) * Nat.gcd (val p a).natAbs (val p b).natAbs := by
      have : ((p.natAbs ^ (f.length - 1) : Nat) : Int) ≤ ((2 ^ (f.length - 1) * Nat.gcd (val p a).natAbs (val p b).natAbs : Nat) : Int) := by
        rw [Int.natCast_pow, Int.natCast_mul, Int.natCast_pow, e]; exact t
      exact Int.ofNat_le.mp this
    have := few (p := p.natAbs) (L := f.length - 1) (by omega) (Nat.lt_of_le_of_lt t' (Nat.mul_lt_mul_of_pos_left (by omega) (Nat.two_pow_pos _)))
    omega
  have hl : f.length - 1 < f.length := by have := List.length_pos_iff.mpr f0; omega
  have cpos : 0 < contL f := Nat.pos_of_ne_zero fun z => by
    have := cont_dvd f _ (List.getElem_mem hl)
    rw [z] at this
    have := Int.zero_dvd.mp (by simpa using this)
    rw [co_lt hl, this] at ft; omega
  have c0 : ((contL f : Nat) : Int) ≠ 0 := by omega
  have fz : ∀ z ∈ f, ((contL f : Nat) : Int) * z.fdiv (contL f : Nat) = z := fun z hz => by
    obtain ⟨t, ht⟩ := cont_dvd f z hz
    rw [ht, Int.mul_fdiv_cancel_left _ c0]
  have fc : ∀ j, co f j = ((contL f : Nat) : Int) * co (f.map fun x => x.fdiv (contL f : Nat)) j := fun j => by
    by_cases hj : j < f.length
    · rw [co_lt hj, co_lt (xs := f.map _) (by simpa using hj), List.getElem_map]
      exact (fz _ (List.getElem_mem hj)).symm
    · rw [co_ge (by omega), co_ge (xs := f.map _) (by simp; omega), Int.mul_zero]
  have vf : val p f = ((contL f : Nat) : Int) * val p (f.map fun x => x.fdiv (contL f : Nat)) := by
    rw [← val_map]
    refine val_of_co (fun j => ?_) p
    rw [fc j]
    by_cases hj : j < f.length
    · rw [co_lt (xs := (f.map _).map _) (by simpa using hj), List.getElem_map, co_lt (xs := f.map _) (by simpa using hj)]
    · rw [co_ge (xs := f.map _) (by simp; omega), co_ge (xs := (f.map _).map _) (by simp; omega), Int.mul_zero]
  have fs' : ∀ z ∈ f.map (fun x => x.fdiv (contL f : Nat)), 2 * (((contL f : Nat) : Int) * z).natAbs ≤ p.natAbs := fun z hz => by
    obtain ⟨x, hx, rfl⟩ := List.mem_map.mp hz
    rw [fz x hx]; exact fs x hx
  have fl' : (f.map fun x => x.fdiv (contL f : Nat)).length = f.length := List.length_map _
  have ft' : 0 < co (f.map fun x => x.fdiv (contL f : Nat)) (f.length - 1) := by
    rw [fc] at ft
    exact Int.pos_of_mul_pos_right ft (by omega)
  have fp : Prim (co (f.map fun x => x.fdiv (contL f : Nat))) := fun e he => by
    have : e * contL f ∣ contL f := dvd_cont _ f fun z hz => by
      obtain ⟨j, hj, rfl⟩ := List.mem_iff_getElem.mp hz
      rw [← co_lt hj, fc j, Int.natCast_mul, Int.mul_comm]
      exact Int.mul_dvd_mul_left _ (he j)
    obtain ⟨t, ht⟩ := this
    have : contL f * 1 = contL f * (e * t) := by rw [Nat.mul_one, ← Nat.mul_assoc, Nat.mul_comm _ e]; exact ht
    have := Nat.eq_of_mul_eq_mul_left cpos this
    exact (Nat.eq_one_of_mul_eq_one_right this.symm)
  generalize hf' : (f.map fun x => x.fdiv (contL f : Nat)) = f' at *
  generalize contL f = c at *
  have f0' : f' ≠ [] := List.length_pos_iff.mp (by omega)
  have fn' : Nml f' := nml_last.mpr fun z hz => by
    rw [List.getLast?_eq_getElem?, fl', List.getElem?_eq_getElem (by omega)] at hz
    rw [co_lt (by omega)] at ft'
    rw [← Option.some.inj hz]; omega
  obtain ⟨h, hh⟩ : ((val p g).natAbs) ∣ Nat.gcd (val p a).natAbs (val p b).natAbs := Nat.dvd_gcd (by rw [vx p, Int.natAbs_mul]; exact Nat.dvd_mul_right _ _) (by rw [vy p, Int.natAbs_mul]; exact Nat.dvd_mul_right _ _)
  have h1 : 1 ≤ h := Nat.pos_of_ne_zero fun z => by rw [z, Nat.mul_zero] at hh; omega
  have fpos : 0 < val p f' := by
    have : 0 < (c : Int) * val p f' := by rw [← vf, fv]; omega
    exact Int.pos_of_mul_pos_right this (by omega)
  have hv : (c : Int) * val p f' = (h : Int) * ((val p g).natAbs : Int) := by rw [← vf, fv, hh, Int.natCast_mul, Int.mul_comm]
  refine ⟨fl, cpos, fn', fun qa qb da db => ?_, fun hpG => ?_⟩
  · rcases common_found (c := c) (h := h) hp fp fn' f0' (by omega) fs' tw.pg tw.ng hx hy (hM.imp (fun z => ⟨tw.a0, tw.na, z⟩) fun z => ⟨tw.b0, tw.nb, z⟩) da db m0 bz (by omega) fpos hv with e | e
    · exact e
    · exfalso
      have lg : f'.length = g.length := by rw [e, List.length_map]
      rw [← fl', e] at ft'
      rw [List.length_map] at ft'
      have hg : g.length - 1 < g.length := by have := List.length_pos_iff.mpr f0'; omega
      rw [co_lt (xs := g.map _) (by simpa using hg), List.getElem_map] at ft'
      have := tw.up
      rw [co_lt hg] at this
      omega
  · have hm : h ∣ m.natAbs := by
      have dv : (Nat.gcd (val p a).natAbs (val p b).natAbs : Int) ∣ m * val p g := by
        rw [← bz p]
        exact Int.dvd_add (Int.dvd_trans (Int.dvd_natAbs.mp (Int.natCast_dvd_natCast.mpr (Nat.gcd_dvd_left _ _))) (Int.dvd_mul_left _ _)) (Int.dvd_trans (Int.dvd_natAbs.mp (Int.natCast_dvd_natCast.mpr (Nat.gcd_dvd_right _ _))) (Int.dvd_mul_left _ _))
      have dn := Int.natAbs_dvd_natAbs.mpr dv
      rw [Int.natAbs_natCast, Int.natAbs_mul, hh, Nat.mul_comm m.natAbs] at dn
      have gp : 0 < (val p g).natAbs := Nat.pos_of_ne_zero fun z => by rw [z, Nat.zero_mul] at hh; omega
      exact Nat.dvd_of_mul_dvd_mul_left gp dn
    have hle := Nat.le_of_dvd (Int.natAbs_pos.mpr m0) hm
    have m1 := Int.natAbs_pos.mpr m0
    have g0 : g ≠ [] := fun z => by have := tw.up; rw [z] at this; simp [co] at this
    have gs : ∀ z ∈ g, 2 * z.natAbs ≤ p.natAbs := fun z hz => by
      have := hG z hz
      have : z.natAbs ≤ m.natAbs * z.natAbs := Nat.le_mul_of_pos_left _ m1
      omega
    have gpos' := (digits_top (by omega) g g0 gs tw.up).2
    have hc : ∀ k, co f k = co (g.map fun z => (h : Int) * z) k := digits_uniq (by omega) f _ fs (fun z hz => by
      obtain ⟨y, hy, rfl⟩ := List.mem_map.mp hz
      have h2 := hG y hy
      have h3 : h * y.natAbs ≤ m.natAbs * y.natAbs := Nat.mul_le_mul_right _ hle
      rw [Int.natAbs_mul, Int.natAbs_natCast]
      omega) (by rw [val_map, vf, hv]; congr 1; omega)
    have hc' : ∀ k, (c : Int) * co f' k = (h : Int) * co g k := fun k => by
      rw [← fc k, hc k]
      by_cases hj : k < g.length
      · rw [co_lt (xs := g.map _) (by simpa using hj), co_lt hj, List.getElem_map]
      · rw [co_ge (xs := g.map _) (by simp; omega), co_ge (by omega), Int.mul_zero]
    have hc1 : h ∣ c := by
      refine Int.natCast_dvd_natCast.mp (Classical.byContradiction fun hno => ?_)
      have z := prim_dvd fp h h1 (fun j => if j = 0 then (c : Int) else 0) (fun j => by
        rw [pm_const, hc' j]; exact Int.dvd_mul_right _ _) 0
      exact hno (by simpa using z)
    have hc2 : c ∣ h := by
      refine Int.natCast_dvd_natCast.mp (Classical.byContradiction fun hno => ?_)
      have z := prim_dvd tw.pg c cpos (fun j => if j = 0 then (h : Int) else 0) (fun j => by
        rw [pm_const, ← hc' j]; exact Int.dvd_mul_right _ _) 0
      exact hno (by simpa using z)
    have ch : c = h := Nat.dvd_antisymm hc2 hc1
    refine nml_ext fn' tw.ng fun k => ?_
    have := hc' k
    rw [ch] at this
    exact Int.eq_of_mul_eq_mul_left (by omega) this
def spBare (K : PySem.W.Frag) : Sp := fun vs H Q _ => ∃ (p q : Addr) (a b g : List Int) (G : Nat), vs = [.ref p, .ref q] ∧ SqL K H p (a.map V.int) ∧ SqL K H q (b.map V.int) ∧ Two a b g G ∧ newL H Q (g.map V.int)
theorem div_trim {one other q : List Int} (h : Div one other q) : Div one other (trim q) := fun k => by
  rw [h k]; unfold pm; exact sumN_congr fun j _ => by rw [trim_co]
theorem quot_of {K : PySem.W.Frag} {c : Addr} {H : Hp} {h1 h2 : Addr} {one other : List Int} {k l : Nat} {R : VK} (a1 : SqL K H h1 (one.map V.int)) (a2 : SqL K H h2 (other.map V.int)) (l1 : one.length ≤ 64) (l2 : other.length ≤ 64) (n1 : Nml one) (n2 : Nml other) (hne : other ≠ [])
    (b1 : ∀ x ∈ one, Bd k x) (b2 : ∀ y ∈ other, Bd l y) (hk : k ≤ 100000) (hl : l ≤ 8000)
    (hR : ∀ x H', Same H H' → ((x = .non ∧ ∀ q, ¬ Div one other q) ∨ ∃ (F : Addr) (q : List Int), x = .ref F ∧ H F = none ∧ H' F = some (.lst (q.map V.int)) ∧ Nml q ∧ Div one other q) → R x H') :
    spQuot K c [.ref h1, .ref h2] H R E0 := by
  refine ⟨h1, h2, one, other, k, l, rfl, a1, a2, l1, l2, n1, n2, b1, b2, hk, hl, .inr ⟨hne, ?_⟩⟩
  by_cases hq : ∃ q, Div one other q
  · obtain ⟨q, hq⟩ := hq
    exact .inl ⟨trim q, trim_nml q, div_trim hq, fun F H' s f e => hR _ _ s (.inr ⟨F, trim q, rfl, f, e, trim_nml q, div_trim hq⟩)⟩
  · exact .inr ⟨fun q h => hq ⟨q, h⟩, fun H' s => hR _ _ s (.inl ⟨rfl, fun q h => hq ⟨q, h⟩⟩)⟩
theorem val_bd {k l : Nat} {n : Int} (hn : Bd l n) : ∀ xs : List Int, (∀ x ∈ xs, Bd k x) → Bd (k + (l + 1) * xs.length) (val n xs)
  | [], _ => Bd.zero _
  | x :: xs, h => by
    have i := val_bd hn xs fun y hy => h y (by simp [hy])
    have e : val n (x :: xs) = x + n * val n xs := rfl
    rw [e, List.length_cons, Nat.mul_succ]
    exact (((h x (by simp)).mono (l := l + (k + (l + 1) * xs.length)) (by omega)).add (hn.mul i)).mono (by omega)
theorem ok_bare_common {P : Program} {w : World} {K : PySem.W.Frag} {mg : Str → Option Value} {base : Heap} (T : Tx K mg) : FnOk P w K mg base CX0 4 T.a_bare_common T.fd_bare_common ["one", "other"] (spBare K) := by
  refine T.F_bare_common.ok sc_bare_common (fun vs H Q E h => ?_) (fun cdv A outer s H vs Q E hr h => ?_)
  · obtain ⟨p, q, a, b, g, G, rfl, _⟩ := h
    rfl
  obtain ⟨pa, pb, a, b, g, G, rfl, hA, hB, tw, q⟩ := h
  refine ⟨_, ((pss_cons (ps_set (i := 2) sc_bare_common.nd rfl (Or.inl rfl) (pe_op op_add (pe_op op_mul pe_int (pe_callB (call_min2 rfl) rfl T.z_min bt_min (pa_cons (pe_call (FnOk.mono (ok_greatest_size T) (by decide)) hr rfl T.m_greatest_size T.F_greatest_size.kp T.b_greatest_size .nil pass0 (pa_cons (pv 0) pa_nil)) (pa_cons (pe_call (FnOk.mono (ok_greatest_size T) (by decide)) hr rfl T.m_greatest_size T.F_greatest_size.kp T.b_greatest_size .nil pass0 (pa_cons (pv 1) pa_nil)) pa_nil)))) pe_int))
    (pss_one (ps_while PassesOwn.never (pt_val pe_bl) (pss_cons (ps_set (i := 3) sc_bare_common.nd rfl (Or.inl rfl) (pe_call (FnOk.mono (ok_spread T) (by decide)) hr rfl T.m_spread T.F_spread.kp T.b_spread .nil pass0 (pa_cons (pe_call (FnOk.mono (ok_divisor T) (by decide)) hr rfl T.m_divisor T.F_divisor.kp T.b_divisor .nil pass0 (pa_cons (pe_call (FnOk.mono (ok_poly_value T) (by decide)) hr rfl T.m_poly_value T.F_poly_value.kp T.b_poly_value .nil pass0 (pa_cons (pv 0) (pa_cons (pv 2) pa_nil))) (pa_cons (pe_call (FnOk.mono (ok_poly_value T) (by decide)) hr rfl T.m_poly_value T.F_poly_value.kp T.b_poly_value .nil pass0 (pa_cons (pv 1) (pa_cons (pv 2) pa_nil))) pa_nil))) (pa_cons (pv 2) pa_nil))))
    (pss_cons (ps_set (i := 3) sc_bare_common.nd rfl (Or.inl rfl) (pe_call (FnOk.mono (ok_over T) (by decide)) hr rfl T.m_over T.F_over.kp T.b_over .nil pass0 (pa_cons (pv 3) (pa_cons (pe_call (FnOk.mono (ok_content T) (by decide)) hr rfl T.m_content T.F_content.kp T.b_content .nil pass0 (pa_cons (pv 3) pa_nil)) pa_nil))))
    (pss_cons (ps_if (PW.pt (pw_and (pt_cmpR op_notN (pe_call (FnOk.mono (ok_quotient T) (by decide)) hr rfl T.m_quotient T.F_quotient.kp T.b_quotient .nil passF (pa_cons (pv 0) (pa_cons (pv 3) pa_nil))) pe_non (nomark _)) (pw_and1 (pt_cmpR op_notN (pe_call (FnOk.mono (ok_quotient T) (by decide)) hr rfl T.m_quotient T.F_quotient.kp T.b_quotient .nil passF (pa_cons (pv 1) (pa_cons (pv 3) pa_nil))) pe_non (nomark _))))) (pss_one (ps_ret (pv 3))) pss_nil)
    (pss_one (ps_set (i := 2) sc_bare_common.nd rfl (Or.inl rfl) (pe_op op_add (pe_op op_mulZ (pv 2) (pv 2)) pe_int)))))))))), ?_⟩
  simp only [a_izip, a_drop_nx, a_raise, a_seq, a_next, a_drop, a_ret, a_retN, a_if, a_asg, a_gname, a_gsub, a_gtup, a_gnil, a_gcons, a_aug, a_augS, a_ipI, a_var, a_c, a_op, a_un, a_rI, a_rI0, a_rU, a_eqI, a_neI, a_eqB, a_neB, a_tB, a_test, a_and, a_or, a_not, a_andV, a_orV, a_notV, a_nil, a_cons, a_lst, a_tup, a_call, a_cb, a_bm0, a_bm, a_sl, a_nopart, a_part, a_tyI, a_for, a_comp, a_ilist, a_irng1, a_irng2, a_irng3, a_cxK, and_assoc, a_irev, a_ienum, a_cat, a_rep, a_pop, a_clear, a_rslL, a_ixL, a_ixT, a_setL, a_app,
    List.getElem?_cons_zero, List.getElem?_cons_succ, List.set_cons_zero, List.set_cons_succ, Option.some.injEq, V.int.injEq, V.bl.injEq, V.ref.injEq, V.ty.injEq, exists_eq_left', exists_eq_left, exists_and_left, decide_eq_true_eq, List.cons_append, List.nil_append, List.append_nil, List.cons.injEq, and_true, true_and, Bool.not_eq_true', decide_eq_false_iff_not, ite_true, ite_false, Bool.false_eq_true, if_true, if_false, List.length_cons, List.length_nil, L2.start, List.map_cons, List.map_nil, List.replicate_succ, List.replicate_zero]
  refine ⟨pa, a, rfl, hA, tw.a0, by have := tw.la; omega, fun Ma H1 s1 ma1 ma2 => ⟨pb, b, rfl, s1.seq hB, tw.b0, by have := tw.lb; omega, fun Mb H2 s2 mb1 mb2 => ⟨_, rfl, _, rfl, .inl ⟨by decide, by decide⟩, ?_⟩⟩⟩
  have big : ∀ (M : Nat) (xs : List Int), (∀ z ∈ xs, Bd 130 z) → (∃ z ∈ xs, z.natAbs = M) → M < 2 ^ 130 := fun M xs hb ⟨z, hz, e⟩ => by rw [← e]; exact hb z hz
  obtain ⟨M, hMe, hM, hMb⟩ : ∃ M : Nat, (2 * if (Mb : Int) < (Ma : Int) then (Mb : Int) else (Ma : Int)) + 29 = 2 * (M : Int) + 29 ∧ ((∀ z ∈ a, z.natAbs ≤ M) ∨ (∀ z ∈ b, z.natAbs ≤ M)) ∧ M < 2 ^ 130 := by
    by_cases h : (Mb : Int) < (Ma : Int)
    · exact ⟨Mb, by rw [if_pos h], .inr mb1, big _ _ tw.bb mb2⟩
    · exact ⟨Ma, by rw [if_neg h], .inl ma1, big _ _ tw.ba ma2⟩
  rw [hMe]
  have s3 := s1.trans s2
  have p264 : (2 : Nat) ^ 264 = 2 ^ 132 * 2 ^ 132 := by rw [← Nat.pow_add]
  refine while_of (fun k σ H' => ∃ (p : Int) (r : Option V), k = (2 * (G : Int) + 1 - p).toNat ∧ σ = [some (V.ref pa), some (V.ref pb), some (V.int p), r] ∧ Same H H' ∧ 2 * (M : Int) + 29 ≤ p ∧ Bd 264 p) (2 * (G : Int) + 1 - (2 * (M : Int) + 29)).toNat ⟨_, none, rfl, rfl, s3, by omega, Bd.of_lt (m := 2 ^ 132) (by omega) (Nat.pow_le_pow_right (by decide) (by decide))⟩ ?_
  rintro k σ H' ⟨p, r, rfl, rfl, sP, hp, bp⟩
  simp only [a_izip, a_drop_nx, a_raise, a_seq, a_next, a_drop, a_ret, a_retN, a_if, a_asg, a_gname, a_gsub, a_gtup, a_gnil, a_gcons, a_aug, a_augS, a_ipI, a_var, a_c, a_op, a_un, a_rI, a_rI0, a_rU, a_eqI, a_neI, a_eqB, a_neB, a_tB, a_test, a_and, a_or, a_not, a_andV, a_orV, a_notV, a_nil, a_cons, a_lst, a_tup, a_call, a_cb, a_bm0, a_bm, a_sl, a_nopart, a_part, a_tyI, a_for, a_comp, a_ilist, a_irng1, a_irng2, a_irng3, a_cxK, and_assoc, a_irev, a_ienum, a_cat, a_rep, a_pop, a_clear, a_rslL, a_ixL, a_ixT, a_setL, a_app,
    List.getElem?_cons_zero, List.getElem?_cons_succ, List.set_cons_zero, List.set_cons_succ, Option.some.injEq, V.int.injEq, V.bl.injEq, V.ref.injEq, V.ty.injEq, exists_eq_left', exists_eq_left, exists_and_left, decide_eq_true_eq, List.cons_append, List.nil_append, List.append_nil, List.cons.injEq, and_true, true_and, Bool.not_eq_true', decide_eq_false_iff_not, ite_true, ite_false, Bool.false_eq_true, if_true, if_false, List.length_cons, List.length_nil, L2.start, List.map_cons, List.map_nil, List.replicate_succ, List.replicate_zero]
  obtain ⟨gpos, fi⟩ := found_is tw hp hM
  obtain ⟨xg, hxg⟩ := tw.da
  obtain ⟨yg, hyg⟩ := tw.db
  have la := tw.la
  have lb := tw.lb
  have bG := tw.bG
  have bva := val_bd bp a tw.ba
  have bvb := val_bd bp b tw.bb
  have bva' : Bd 3400 (val p a) := bva.mono (by omega)
  have bvb' : Bd 3400 (val p b) := bvb.mono (by omega)
  have bgc : Nat.gcd (val p a).natAbs (val p b).natAbs < 2 ^ 3400 := by
    by_cases z : (val p a).natAbs = 0
    · rw [z, Nat.gcd_zero_left]; exact bvb'
    · exact Nat.lt_of_le_of_lt (Nat.gcd_le_left _ (by omega)) bva'
  have up1 : (2 : Nat) ^ 3400 ≤ 2 ^ 3990 := Nat.pow_le_pow_right (by decide) (by decide)
  have up2 : (2 : Nat) ^ 3400 ≤ 2 ^ 4000 := Nat.pow_le_pow_right (by decide) (by decide)
  have up3 : (2 : Nat) ^ 264 ≤ 2 ^ 3990 := Nat.pow_le_pow_right (by decide) (by decide)
  have up4 : (2 : Nat) ^ 264 ≤ 2 ^ 4000 := Nat.pow_le_pow_right (by decide) (by decide)
  have bp' : p.natAbs < 2 ^ 264 := bp
  refine ⟨fun σ' H1 => ∃ r : Option V, σ' = [some (V.ref pa), some (V.ref pb), some (V.int (p * p + 1)), r] ∧ Same H H1 ∧ p < 2 * (G : Int) + 1, ?_, ?_⟩
  · rintro σ' H1 ⟨r, rfl, sN, hG⟩
    have pp : 29 * p ≤ p * p := Int.mul_le_mul_of_nonneg_right (by omega) (by omega)
    have bq : Bd 131 p := by
      show p.natAbs < 2 ^ 131
      have : (2 : Nat) ^ 131 = 2 * 2 ^ 130 := by rw [← Nat.pow_succ']
      omega
    have bpp := ((bq.mul bq).add (Bd.one (by decide))).mono (l := 264) (by decide)
    refine ⟨_, ?_, p * p + 1, rfl, r, rfl, sN, by omega, bpp⟩
    generalize p * p = X at pp
    omega
  clear bp' 
  refine ⟨pa, a, p, 130, 264, rfl, sP.seq hA, by omega, tw.ba, bp, by decide, pb, b, p, 130, 264, rfl, sP.seq hB, by omega, tw.bb, bp, by decide, _, _, rfl, Nat.lt_of_lt_of_le bvb' up2, ?_⟩
  refine ⟨_, p, rfl, by omega, by rw [Int.natAbs_natCast]; exact Nat.lt_of_lt_of_le bgc up1, by omega, Nat.lt_of_lt_of_le bp up3, fun f fv fs f0 ft fl F G1 s1 nF eF => ?_⟩
  obtain ⟨f16, c0, fn, fg1, fg2⟩ := fi f fv fs f0 ft
  have bf : ∀ x ∈ f, Bd 264 x := fun x hx => by
    show x.natAbs < 2 ^ 264
    have := fs x hx
    have : p.natAbs < 2 ^ 264 := bp
    omega
  have bf4 : ∀ x ∈ f, x.natAbs < 2 ^ 4000 := fun x hx => Nat.lt_of_lt_of_le (bf x hx) up4
  have bc4 : ((contL f : Nat) : Int).natAbs < 2 ^ 4000 := by rw [Int.natAbs_natCast]; exact cont_lt (Nat.two_pow_pos _) f bf4
  refine ⟨F, f, rfl, SqL.of eF, bf4, F, f, _, rfl, SqL.of eF, by omega, by omega, bc4, fun F2 G2 s2 nF2 eF2 => ?_⟩
  have hne : (f.map fun x => x.fdiv (contL f : Nat)) ≠ [] := by simpa using f0
  have bf2 : ∀ y ∈ f.map (fun x => x.fdiv (contL f : Nat)), Bd 265 y := fun y hy => by
    obtain ⟨x, hx, rfl⟩ := List.mem_map.mp hy
    exact fdiv_bd (bf x hx) (by omega)
  have lf2 : (f.map fun x => x.fdiv (contL f : Nat)).length ≤ 64 := by rw [List.length_map]; omega
  have sQ := sP.trans (s1.trans s2)
  have nF0 : H F2 = none := (sP.trans s1).free nF2
  have pfit : IntMulOk p p := bp.fits bp (by decide)
  generalize (f.map fun x => x.fdiv (contL f : Nat)) = f2 at fn fg1 fg2 eF2 hne bf2 lf2
  refine quot_of (one := a) (other := f2) (k := 130) (l := 265) (sQ.seq hA) (SqL.of eF2) (by omega) lf2 tw.na fn hne tw.ba bf2 (by decide) (by decide) fun x3 G3 s3' hx3 => ?_
  rcases hx3 with ⟨rfl, hno⟩ | ⟨Fq, qa, rfl, _, _, _, da⟩
  · rw [if_neg (by simp)]
    refine ⟨pfit, _, rfl, sQ.trans s3', Int.lt_of_not_ge fun z => ?_⟩
    rw [fg2 z] at hno
    exact hno xg hxg
  rw [if_pos (by simp)]
  refine quot_of (one := b) (other := f2) (k := 130) (l := 265) ((sQ.trans s3').seq hB) (SqL.of (s3' _ _ eF2)) (by omega) lf2 tw.nb fn hne tw.bb bf2 (by decide) (by decide) fun x4 G4 s4 hx4 => ?_
  rcases hx4 with ⟨rfl, hno⟩ | ⟨Fq2, qb, rfl, _, _, _, db⟩
  · rw [if_neg (by simp)]
    refine ⟨pfit, _, rfl, sQ.trans (s3'.trans s4), Int.lt_of_not_ge fun z => ?_⟩
    rw [fg2 z] at hno
    exact hno yg hyg
  rw [if_pos (by simp)]
  have e := s4 _ _ (s3' _ _ eF2)
  rw [fg1 qa qb da db] at e
  exact q F2 _ (sQ.trans (s3'.trans s4)) nF0 e
/-! #### common -/
def spCommon (K : PySem.W.Frag) : Sp := fun vs H Q _ => ∃ (pa pb : Addr) (a b : List Int), vs = [.ref pa, .ref pb] ∧ SqL K H pa (a.map V.int) ∧ SqL K H pb (b.map V.int) ∧ a.length ≤ 1000 ∧ b.length ≤ 1000 ∧
  ((a = [] ∧ newL H Q ((uprL b).map V.int)) ∨ (a ≠ [] ∧ b = [] ∧ newL H Q ((uprL a).map V.int)) ∨
    (a ≠ [] ∧ b ≠ [] ∧ 0 < contL a ∧ 0 < contL b ∧ (∀ z ∈ a, Bd 130 z) ∧ (∀ z ∈ b, Bd 130 z) ∧ ∃ (g : List Int) (G : Nat), Two (a.map fun x => x.fdiv (contL a : Nat)) (b.map fun x => x.fdiv (contL b : Nat)) g G ∧ newL H Q ((g.map fun z => ((Nat.gcd (contL a) (contL b) : Nat) : Int) * z).map V.int)))
theorem ok_common {P : Program} {w : World} {K : PySem.W.Frag} {mg : Str → Option Value} {base : Heap} (T : Tx K mg) : FnOk P w K mg base CX0 5 T.a_common T.fd_common ["one", "other"] (spCommon K) := by
  refine T.F_common.ok sc_common (fun vs H Q E h => ?_) (fun cdv A outer s H vs Q E hr h => ?_)
  · obtain ⟨p, q, a, b, rfl, _⟩ := h
    rfl
  obtain ⟨pa, pb, a, b, rfl, hA, hB, la, lb, q⟩ := h
  refine ⟨_, ((pss_cons (ps_if (pt_cmpR op_eq (pe_callB call_len_seq rfl T.z_len bt_len (pa_cons (pv 0) pa_nil)) pe_int (nomark _)) (pss_one (ps_ret (pe_call (FnOk.mono (ok_upright T) (by decide)) hr rfl T.m_upright T.F_upright.kp T.b_upright .nil pass0 (pa_cons (pv 1) pa_nil)))) pss_nil)
    (pss_cons (ps_if (pt_cmpR op_eq (pe_callB call_len_seq rfl T.z_len bt_len (pa_cons (pv 1) pa_nil)) pe_int (nomark _)) (pss_one (ps_ret (pe_call (FnOk.mono (ok_upright T) (by decide)) hr rfl T.m_upright T.F_upright.kp T.b_upright .nil pass0 (pa_cons (pv 0) pa_nil)))) pss_nil)
    (pss_cons (ps_set (i := 2) sc_common.nd rfl (Or.inl rfl) (pe_call (FnOk.mono (ok_content T) (by decide)) hr rfl T.m_content T.F_content.kp T.b_content .nil pass0 (pa_cons (pv 0) pa_nil)))
    (pss_cons (ps_set (i := 3) sc_common.nd rfl (Or.inl rfl) (pe_call (FnOk.mono (ok_content T) (by decide)) hr rfl T.m_content T.F_content.kp T.b_content .nil pass0 (pa_cons (pv 1) pa_nil)))
    (pss_cons (ps_set (i := 4) sc_common.nd rfl (Or.inr rfl) (pe_call (FnOk.mono (ok_divisor T) (by decide)) hr rfl T.m_divisor T.F_divisor.kp T.b_divisor .nil pass0 (pa_cons (pv 2) (pa_cons (pv 3) pa_nil))))
    (pss_one (ps_ret (pe_lcomp rfl (blkok rfl (sub_cons rfl sub_nil) (fv_cons 4 "shared" (by decide) rfl (Or.inl rfl) (Or.inl rfl) ⟨_, rfl⟩ fv_nil)) (pi_list (pe_call (FnOk.mono (ok_bare_common T) (by decide)) hr rfl T.m_bare_common T.F_bare_common.kp T.b_bare_common .nil pass0 (pa_cons (pe_call (FnOk.mono (ok_over T) (by decide)) hr rfl T.m_over T.F_over.kp T.b_over .nil pass0 (pa_cons (pv 0) (pa_cons (pv 2) pa_nil))) (pa_cons (pe_call (FnOk.mono (ok_over T) (by decide)) hr rfl T.m_over T.F_over.kp T.b_over .nil pass0 (pa_cons (pv 1) (pa_cons (pv 3) pa_nil))) pa_nil)))) (fun _ _ _ _ => (pe_op op_mulZ (pv 1) (pv 0)))))))))))), ?_⟩
  simp only [a_izip, a_drop_nx, a_raise, a_seq, a_next, a_drop, a_ret, a_retN, a_if, a_asg, a_gname, a_gsub, a_gtup, a_gnil, a_gcons, a_aug, a_augS, a_ipI, a_var, a_c, a_op, a_un, a_rI, a_rI0, a_rU, a_eqI, a_neI, a_eqB, a_neB, a_tB, a_test, a_and, a_or, a_not, a_andV, a_orV, a_notV, a_nil, a_cons, a_lst, a_tup, a_call, a_cb, a_bm0, a_bm, a_sl, a_nopart, a_part, a_tyI, a_for, a_comp, a_ilist, a_irng1, a_irng2, a_irng3, a_cxK, and_assoc, a_irev, a_ienum, a_cat, a_rep, a_pop, a_clear, a_rslL, a_ixL, a_ixT, a_setL, a_app,
    List.getElem?_cons_zero, List.getElem?_cons_succ, List.set_cons_zero, List.set_cons_succ, Option.some.injEq, V.int.injEq, V.bl.injEq, V.ref.injEq, V.ty.injEq, exists_eq_left', exists_eq_left, exists_and_left, decide_eq_true_eq, List.cons_append, List.nil_append, List.append_nil, List.cons.injEq, and_true, true_and, Bool.not_eq_true', decide_eq_false_iff_not, ite_true, ite_false, Bool.false_eq_true, if_true, if_false, List.length_cons, List.length_nil, L2.start, List.map_cons, List.map_nil, List.replicate_succ, List.replicate_zero]
  refine ⟨_, .inl hA, ?_⟩
  rw [List.length_map]
  refine ite2 (fun h => ?_) (fun h => ⟨_, .inl hB, ?_⟩)
  · have a0 : a = [] := List.eq_nil_of_length_eq_zero (by omega)
    rcases q with ⟨_, q⟩ | ⟨z, _⟩ | ⟨z, _⟩
    · exact ⟨pb, b, rfl, hB, lb, q⟩
    · exact absurd a0 z
    · exact absurd a0 z
  have a0 : a ≠ [] := by intro z; rw [z] at h; simp at h
  rw [List.length_map]
  refine ite2 (fun h => ?_) (fun h => ?_)
  · have b0 : b = [] := List.eq_nil_of_length_eq_zero (by omega)
    rcases q with ⟨z, _⟩ | ⟨_, _, q⟩ | ⟨_, z, _⟩
    · exact absurd z a0
    · exact ⟨pa, a, rfl, hA, la, q⟩
    · exact absurd b0 z
  have b0 : b ≠ [] := by intro z; rw [z] at h; simp at h
  rcases q with ⟨z, _⟩ | ⟨_, z, _⟩ | ⟨_, _, ca, cb, ba, bb, g, G, tw, q⟩
  · exact absurd z a0
  · exact absurd z b0
  have u4 : (2 : Nat) ^ 130 ≤ 2 ^ 4000 := Nat.pow_le_pow_right (by decide) (by decide)
  have ba4 : ∀ x ∈ a, x.natAbs < 2 ^ 4000 := fun x hx => Nat.lt_of_lt_of_le (ba x hx) u4
  have bb4 : ∀ x ∈ b, x.natAbs < 2 ^ 4000 := fun x hx => Nat.lt_of_lt_of_le (bb x hx) u4
  have ka := cont_lt (Nat.two_pow_pos 130) a ba
  have kb := cont_lt (Nat.two_pow_pos 130) b bb
  refine ⟨pa, a, rfl, hA, ba4, pb, b, rfl, hB, bb4, _, _, rfl, by rw [Int.natAbs_natCast]; omega, ?_⟩
  rw [Int.natAbs_natCast, Int.natAbs_natCast]
  refine ⟨pa, a, _, rfl, hA, by omega, by omega, by rw [Int.natAbs_natCast]; omega, fun A1 H1 s1 n1 e1 => ⟨pb, b, _, rfl, s1.seq hB, by omega, by omega, by rw [Int.natAbs_natCast]; omega, fun B1 H2 s2 n2 e2 => ⟨A1, B1, _, _, g, G, rfl, SqL.of (s2 _ _ e1), SqL.of e2, tw, fun F H3 s3 n3 e3 => ?_⟩⟩⟩
  have sg : ∀ z ∈ g, Bd 130 z := fun z hz => by
    obtain ⟨_, _, m, m0, hG, _⟩ := tw.bz
    have h1 := hG z hz
    have h2 : z.natAbs ≤ m.natAbs * z.natAbs := Nat.le_mul_of_pos_left _ (Int.natAbs_pos.mpr m0)
    have := tw.bG
    show z.natAbs < 2 ^ 130
    omega
  have gc : Bd 130 ((Nat.gcd (contL a) (contL b) : Nat) : Int) := by
    show ((Nat.gcd (contL a) (contL b) : Nat) : Int).natAbs < 2 ^ 130
    rw [Int.natAbs_natCast]
    exact Nat.lt_of_le_of_lt (Nat.gcd_le_left _ ca) ka
  have lg := tw.lg
  refine ⟨F, rfl, ⟨_, SqL.of e3⟩, fun C hC => ?_⟩
  obtain ⟨Pc, hPc⟩ : ∃ Pc : Nat → Hp → Prop, ∀ i H', Pc i H' ↔ H' C = some (.lst (((g.take i).map fun z => ((Nat.gcd (contL a) (contL b) : Nat) : Int) * z).map V.int)) ∧ Same H3 H' := ⟨_, fun _ _ => Iff.rfl⟩
  refine cl_list (xs := g.map V.int) Pc ((hPc _ _).mpr ⟨by rw [upd_same]; rfl, same_upd hC _⟩) (fun i Hx _ z => SqL.of (((hPc i Hx).mp z).2 _ _ e3)) ?_ ?_
  · intro i v Hx hv hc
    obtain ⟨k1, k2⟩ := (hPc _ _).mp hc
    have hi : i < g.length := by have := (List.getElem?_eq_some_iff.mp hv).1; rw [List.length_map] at this; exact this
    rw [List.getElem?_map, List.getElem?_eq_getElem hi] at hv
    obtain rfl : V.int g[i] = v := Option.some.inj hv
    simp only [a_izip, a_drop_nx, a_raise, a_seq, a_next, a_drop, a_ret, a_retN, a_if, a_asg, a_gname, a_gsub, a_gtup, a_gnil, a_gcons, a_aug, a_augS, a_ipI, a_var, a_c, a_op, a_un, a_rI, a_rI0, a_rU, a_eqI, a_neI, a_eqB, a_neB, a_tB, a_test, a_and, a_or, a_not, a_andV, a_orV, a_notV, a_nil, a_cons, a_lst, a_tup, a_call, a_cb, a_bm0, a_bm, a_sl, a_nopart, a_part, a_tyI, a_for, a_comp, a_ilist, a_irng1, a_irng2, a_irng3, a_cxK, and_assoc, a_irev, a_ienum, a_cat, a_rep, a_pop, a_clear, a_rslL, a_ixL, a_ixT, a_setL, a_app,
    List.getElem?_cons_zero, List.getElem?_cons_succ, List.set_cons_zero, List.set_cons_succ, Option.some.injEq, V.int.injEq, V.bl.injEq, V.ref.injEq, V.ty.injEq, exists_eq_left', exists_eq_left, exists_and_left, decide_eq_true_eq, List.cons_append, List.nil_append, List.append_nil, List.cons.injEq, and_true, true_and, Bool.not_eq_true', decide_eq_false_iff_not, ite_true, ite_false, Bool.false_eq_true, if_true, if_false, List.length_cons, List.length_nil, L2.start, List.map_cons, List.map_nil, List.replicate_succ, List.replicate_zero, bst, Option.getD_some]
    have et : g.take (i + 1) = g.take i ++ [g[i]] := by rw [List.take_succ, List.getElem?_eq_getElem hi]; rfl
    refine ⟨gc.fits (sg _ (List.getElem_mem hi)) (by decide), _, k1, small5000 (by simp; omega), (hPc _ _).mpr ⟨?_, k2.more hC⟩⟩
    rw [upd_same, et, List.map_append, List.map_append]; rfl
  intro H4 hc
  obtain ⟨k1, k2⟩ := (hPc _ _).mp hc
  rw [List.length_map, List.take_length] at k1
  have sA := s1.trans (s2.trans s3)
  exact q C _ (sA.trans k2) (sA.free hC) k1

/-! #### lists by their places -/
theorem co_in {xs : List Int} {P : Int → Prop} (h : ∀ x ∈ xs, P x) (h0 : P 0) (j : Nat) : P (co xs j) := by
  by_cases z : j < xs.length
  · rw [co_lt z]; exact h _ (List.getElem_mem z)
  · rw [co_ge (by omega)]; exact h0
theorem in_co {xs : List Int} {P : Int → Prop} (h : ∀ j, P (co xs j)) : ∀ x ∈ xs, P x := fun x hx => by
  obtain ⟨k, hk, rfl⟩ := List.mem_iff_getElem.mp hx
  rw [← co_lt hk]; exact h k
theorem nml_of_last {xs : List Int} (h : xs = [] ∨ co xs (xs.length - 1) ≠ 0) : Nml xs := by
  refine nml_last.mpr fun x hx => ?_
  rcases h with rfl | h
  · simp at hx
  · have hl : xs.length ≠ 0 := by intro z; rw [List.eq_nil_of_length_eq_zero z] at hx; simp at hx
    rw [co_lt (by omega)] at h
    rw [List.getLast?_eq_getElem?, List.getElem?_eq_getElem (by omega)] at hx
    rw [← Option.some.inj hx]; exact h
theorem nml_one1 (xs : List Int) : Nml (xs ++ [1]) := nml_last.mpr fun x hx => by rw [List.getLast?_concat] at hx; rw [← Option.some.inj hx]; decide
theorem nml_c {c : Int} (h : c ≠ 0) : Nml [c] := nml_last.mpr fun x hx => by simp at hx; omega

/-! #### sizes of products -/
theorem mulP_le {M N : Nat} {ys : List Int} (hy : ∀ y ∈ ys, y.natAbs ≤ N) : ∀ xs : List Int, (∀ x ∈ xs, x.natAbs ≤ M) → ∀ j, (co (mulP xs ys) j).natAbs ≤ xs.length * (M * N)
  | [], _, j => by simp [mulP, co_nil]
  | x :: xs, h, j => by
    have cm : co (ys.map fun z => x * z) j = x * co ys j := by
      by_cases h : j < ys.length
      · rw [co_lt (by rw [List.length_map]; exact h), co_lt h, List.getElem_map]
      · rw [co_ge (by rw [List.length_map]; omega), co_ge (xs := ys) (by omega)]; simp
    have h1 : (x * co ys j).natAbs ≤ M * N := by
      rw [Int.natAbs_mul]
      refine Nat.mul_le_mul (h x (by simp)) ?_
      by_cases z : j < ys.length
      · rw [co_lt z]; exact hy _ (List.getElem_mem z)
      · rw [co_ge (by omega)]; exact Nat.zero_le _
    have h2 : (co (0 :: mulP xs ys) j).natAbs ≤ xs.length * (M * N) := by
      rw [co_cons]
      split
      · exact Nat.zero_le _
      · exact mulP_le hy xs (fun y hy => h y (by simp [hy])) _
    have e : co (mulP (x :: xs) ys) j = x * co ys j + co (0 :: mulP xs ys) j := by rw [mulP, co_addP, cm]
    rw [e, List.length_cons, Nat.add_mul, Nat.one_mul]
    have := Int.natAbs_add_le (x * co ys j) (co (0 :: mulP xs ys) j)
    omega
theorem pm_bd {xs ys : List Int} {k l c : Nat} (hx : ∀ x ∈ xs, Bd k x) (hy : ∀ y ∈ ys, Bd l y) (hl : xs.length ≤ 2 ^ c) (j : Nat) : Bd (k + l + c) (pm (co xs) (co ys) j) := by
  rw [← co_mulP]
  have h1 := mulP_le (M := 2 ^ k - 1) (N := 2 ^ l - 1) (ys := ys) (fun y h => by have : y.natAbs < 2 ^ l := hy y h; omega) xs (fun x h => by have : x.natAbs < 2 ^ k := hx x h; omega) j
  have p1 := Nat.two_pow_pos k
  have p2 := Nat.two_pow_pos l
  have p3 := Nat.two_pow_pos c
  have h2 : (2 ^ k - 1) * (2 ^ l - 1) < 2 ^ k * 2 ^ l := by
    refine Nat.lt_of_le_of_lt (Nat.mul_le_mul_left _ (Nat.sub_le _ 1)) ?_
    exact Nat.mul_lt_mul_of_pos_right (by omega) p2
  show (co (mulP xs ys) j).natAbs < 2 ^ (k + l + c)
  rw [Nat.pow_add, Nat.pow_add]
  refine Nat.lt_of_le_of_lt h1 ?_
  refine Nat.lt_of_le_of_lt (Nat.mul_le_mul_right _ hl) ?_
  rw [Nat.mul_comm (2 ^ k * 2 ^ l)]
  exact Nat.mul_lt_mul_of_pos_left h2 p3
theorem prod_len {xs ys ws : List Int} (nx : Nml xs) (ny : Nml ys) (nw : Nml ws) (h : ∀ j, co ws j = pm (co xs) (co ys) j) : ws.length ≤ xs.length + ys.length - 1 := by
  by_cases x0 : xs = []
  · rw [nml_zero nw fun k => by rw [h k, x0]; exact sumN_zero fun j _ => by rw [co_nil]; simp]; exact Nat.zero_le _
  by_cases w0 : ws = []
  · rw [w0]; exact Nat.zero_le _
  have := (div_len nx x0 nw ny (one := ws) (q := ys) h w0).2
  omega

/-! #### the two lists of common, by what they share -/
def dvL (xs : List Int) (c : Nat) : List Int := xs.map fun x => x.fdiv (c : Int)
theorem fdiv_mul_cont {c : Nat} (hc : 0 < c) {x : Int} (h : (c : Int) ∣ x) : (c : Int) * x.fdiv (c : Int) = x := by
  rw [Int.fdiv_eq_ediv_of_nonneg _ (by omega)]
  exact Int.mul_ediv_cancel' h
theorem co_dv (xs : List Int) (c : Nat) (j : Nat) : co (dvL xs c) j = (co xs j).fdiv (c : Int) := by
  unfold dvL
  by_cases h : j < xs.length
  · rw [co_lt (by rw [List.length_map]; exact h), co_lt h, List.getElem_map]
  · rw [co_ge (by rw [List.length_map]; omega), co_ge (by omega)]; simp
theorem dv_mul {xs : List Int} (hc : 0 < contL xs) (j : Nat) : ((contL xs : Nat) : Int) * co (dvL xs (contL xs)) j = co xs j := by
  rw [co_dv]
  exact fdiv_mul_cont hc (co_in (cont_dvd xs) (Int.dvd_zero _) j)
theorem dv_val {xs : List Int} (hc : 0 < contL xs) (n : Int) : ((contL xs : Nat) : Int) * val n (dvL xs (contL xs)) = val n xs := by
  rw [← val_map]
  refine val_of_co (fun j => ?_) n
  rw [← dv_mul hc j]
  by_cases h : j < (dvL xs (contL xs)).length
  · rw [co_lt (by rw [List.length_map]; exact h), co_lt h, List.getElem_map]
  · rw [co_ge (by rw [List.length_map]; omega), co_ge (by omega)]; simp
theorem dv_len (xs : List Int) (c : Nat) : (dvL xs c).length = xs.length := List.length_map ..
theorem cont_pos {xs : List Int} (h : Nml xs) (hne : xs ≠ []) : 0 < contL xs := by
  refine Nat.pos_of_ne_zero fun z => ?_
  have := co_last h hne
  have h2 := co_in (P := fun x => ((contL xs : Nat) : Int) ∣ x) (cont_dvd xs) (Int.dvd_zero _) (xs.length - 1)
  rw [z] at h2
  exact this (Int.zero_dvd.mp h2)
theorem dv_nml {xs : List Int} (h : Nml xs) (hne : xs ≠ []) : Nml (dvL xs (contL xs)) := by
  refine nml_of_last (.inr fun z => ?_)
  rw [dv_len] at z
  have := dv_mul (cont_pos h hne) (xs.length - 1)
  rw [z, Int.mul_zero] at this
  exact co_last h hne this.symm
theorem dv_prim {xs : List Int} (hc : 0 < contL xs) : Prim (co (dvL xs (contL xs))) := fun d hd => by
  have h : d * contL xs ∣ contL xs := dvd_cont _ _ (in_co fun j => by
    rw [← dv_mul hc j, Int.natCast_mul, Int.mul_comm (d : Int)]
    exact Int.mul_dvd_mul_left _ (hd j))
  obtain ⟨e, he⟩ := h
  have h1 : contL xs * (d * e) = contL xs * 1 := by rw [Nat.mul_one, ← Nat.mul_assoc, Nat.mul_comm (contL xs) d]; exact he.symm
  have h2 := Nat.eq_of_mul_eq_mul_left hc h1
  exact Nat.eq_one_of_mul_eq_one_right h2
theorem cont_mul {p g A : List Int} (hp : 0 < contL p) (hg : 0 < contL g) (h : ∀ j, co A j = pm (co p) (co g) j) : contL A = contL p * contL g := by
  have e : ∀ j, co A j = ((contL p * contL g : Nat) : Int) * pm (co (dvL p (contL p))) (co (dvL g (contL g))) j := fun j => by
    rw [h j, Int.natCast_mul, Int.mul_assoc, ← pm_scale, ← pm_scaleL]
    congr 1
    · funext i; exact (dv_mul hp i).symm
    · funext i; exact (dv_mul hg i).symm
  have d1 : contL p * contL g ∣ contL A := dvd_cont _ _ (in_co fun j => by rw [e j]; exact Int.dvd_mul_right _ _)
  obtain ⟨f, hf⟩ := d1
  have hpg : 0 < contL p * contL g := Nat.mul_pos hp hg
  have hf1 : f = 1 := prim_mul (dv_prim hp) (dv_prim hg) f fun j => by
    have h2 := co_in (P := fun x => ((contL A : Nat) : Int) ∣ x) (cont_dvd A) (Int.dvd_zero _) j
    rw [e j, hf, Int.natCast_mul _ f] at h2
    exact Int.dvd_of_mul_dvd_mul_left (by omega) h2
  rw [hf, hf1, Nat.mul_one]
theorem upr_co (xs : List Int) : ∃ e : Int, (e = 1 ∨ e = -1) ∧ ∀ j, co (uprL xs) j = e * co xs j := by
  unfold uprL
  split
  · exact ⟨-1, .inr rfl, fun j => by rw [co_neg]; omega⟩
  · exact ⟨1, .inl rfl, fun j => by omega⟩
theorem upr_len (xs : List Int) : (uprL xs).length = xs.length := by unfold uprL; split <;> simp
theorem upr_top {xs : List Int} (h : Nml xs) (hne : xs ≠ []) : 0 < co (uprL xs) ((uprL xs).length - 1) := by
  have := co_last h hne
  rw [upr_len]
  unfold uprL
  split
  · rename_i z; rw [co_neg]; omega
  · rename_i z
    have : ¬ co xs (xs.length - 1) < 0 := fun y => z ⟨hne, y⟩
    omega
theorem upr_of {xs ys : List Int} (hn : Nml xs) (hy : Nml ys) {e : Int} (he : e = 1 ∨ e = -1) (h : ∀ j, co ys j = e * co xs j) (hp : ys ≠ [] → 0 < co ys (ys.length - 1)) : ys = uprL xs := by
  by_cases hx : xs = []
  · have : ys = [] := nml_zero hy fun k => by rw [h k, hx, co_nil]; simp
    rw [this, hx]; rfl
  obtain ⟨f, hf, hc⟩ := upr_co xs
  have hl : ys.length = xs.length := Nat.le_antisymm (nml_len hy fun k hk => by rw [h k, co_ge hk]; simp) (nml_len hn fun k hk => by
    have := h k; rw [co_ge hk] at this; rcases he with rfl | rfl <;> omega)
  have hy0 : ys ≠ [] := by intro z; rw [z] at hl; exact hx (List.eq_nil_of_length_eq_zero hl.symm)
  have h1 := hp hy0
  have h2 := upr_top hn hx
  rw [upr_len, hc] at h2
  rw [hl, h] at h1
  have : e = f := by rcases he with rfl | rfl <;> rcases hf with rfl | rfl <;> first | rfl | omega
  exact co_ext (by rw [hl, upr_len]) fun k _ => by rw [h k, hc k, this]
theorem upr_nml {xs : List Int} (h : Nml xs) : Nml (uprL xs) := by
  by_cases hx : xs = []
  · rw [hx]; exact nml_nil
  · have := upr_top h hx
    exact nml_of_last (.inr (by omega))
theorem two_of {p q g A B U W : List Int} {m : Int} (np : Nml p) (nq : Nml q) (ng : Nml g) (nA : Nml A) (nB : Nml B) (p0 : p ≠ []) (q0 : q ≠ []) (g0 : g ≠ []) (lA : A.length ≤ 12) (lB : B.length ≤ 12) (lg : g.length ≤ 12)
    (bA : ∀ z ∈ A, Bd 130 z) (bB : ∀ z ∈ B, Bd 130 z) (bg : ∀ z ∈ g, z.natAbs < 10 ^ 24) (hm : m ≠ 0) (hm1 : m.natAbs ≤ 200000) (hb : ∀ n, val n U * val n p + val n W * val n q = m)
    (hA : ∀ n, val n A = val n p * val n g) (hB : ∀ n, val n B = val n q * val n g) :
    0 < contL A ∧ 0 < contL B ∧ A ≠ [] ∧ B ≠ [] ∧ Two (dvL A (contL A)) (dvL B (contL B)) (uprL (dvL g (contL g))) (200000 * 10 ^ 24) ∧
      (uprL (dvL g (contL g))).map (fun z => ((Nat.gcd (contL A) (contL B) : Nat) : Int) * z) = uprL (g.map fun z => ((contL (p ++ q) : Nat) : Int) * z) := by
  have cp := cont_pos np p0
  have cq := cont_pos nq q0
  have cg := cont_pos ng g0
  have hA' : ∀ j, co A j = pm (co p) (co g) j := fun j => by rw [← co_mulP]; exact co_of_val (fun n => by rw [hA, val_mulP]) j
  have hB' : ∀ j, co B j = pm (co q) (co g) j := fun j => by rw [← co_mulP]; exact co_of_val (fun n => by rw [hB, val_mulP]) j
  have eA := cont_mul cp cg hA'
  have eB := cont_mul cq cg hB'
  have cA : 0 < contL A := by rw [eA]; exact Nat.mul_pos cp cg
  have cB : 0 < contL B := by rw [eB]; exact Nat.mul_pos cq cg
  have A0 : A ≠ [] := by intro z; rw [z] at cA; simp [contL] at cA
  have B0 : B ≠ [] := by intro z; rw [z] at cB; simp [contL] at cB
  obtain ⟨e, he, hc⟩ := upr_co (dvL g (contL g))
  have ee : e * e = 1 := by rcases he with rfl | rfl <;> rfl
  have ng1 := dv_nml ng g0
  have g10 : dvL g (contL g) ≠ [] := by intro z; have := dv_len g (contL g); rw [z] at this; exact g0 (List.eq_nil_of_length_eq_zero this.symm)
  have vu : ∀ n, val n (uprL (dvL g (contL g))) = e * val n (dvL g (contL g)) := fun n => by
    rw [← val_map]
    refine val_of_co (fun j => ?_) n
    rw [hc j]
    by_cases h : j < (dvL g (contL g)).length
    · rw [co_lt (xs := List.map _ _) (by rw [List.length_map]; exact h), co_lt h, List.getElem_map]
    · rw [co_ge (xs := List.map _ _) (by rw [List.length_map]; omega), co_ge (xs := dvL _ _) (by omega)]; simp
  -- the values of the two, divided
  have key : ∀ {r C : List Int}, 0 < contL r → contL C = contL r * contL g → 0 < contL C → (∀ n, val n C = val n r * val n g) → ∀ n, val n (dvL C (contL C)) = val n (dvL r (contL r)) * val n (dvL g (contL g)) := fun {r C} h1 h2 h3 h4 n => by
    have a1 := dv_val h3 n
    rw [h4 n, ← dv_val h1 n, ← dv_val cg n] at a1
    have a2 : ((contL C : Nat) : Int) * val n (dvL C (contL C)) = ((contL C : Nat) : Int) * (val n (dvL r (contL r)) * val n (dvL g (contL g))) := by
      rw [a1]
      conv => rhs; rw [h2, Int.natCast_mul]
      simp only [Int.mul_assoc, Int.mul_left_comm]
    exact Int.eq_of_mul_eq_mul_left (by omega) a2
  have kA := key cp eA cA hA
  have kB := key cq eB cB hB
  have small : ∀ {C : List Int}, 0 < contL C → (∀ z ∈ C, Bd 130 z) → ∀ z ∈ dvL C (contL C), Bd 130 z := fun {C} h1 h2 => in_co fun j => by
    have a1 := dv_mul h1 j
    have a2 : Bd 130 (co C j) := co_in h2 (Bd.zero _) j
    show (co (dvL C (contL C)) j).natAbs < 2 ^ 130
    have a3 : (co C j).natAbs = contL C * (co (dvL C (contL C)) j).natAbs := by rw [← a1, Int.natAbs_mul, Int.natAbs_natCast]
    have a4 : (co (dvL C (contL C)) j).natAbs ≤ contL C * (co (dvL C (contL C)) j).natAbs := Nat.le_mul_of_pos_left _ h1
    have a5 : (co C j).natAbs < 2 ^ 130 := a2
    omega
  refine ⟨cA, cB, A0, B0, ⟨dv_nml nA A0, dv_nml nB B0, by intro z; have := dv_len A (contL A); rw [z] at this; exact A0 (List.eq_nil_of_length_eq_zero this.symm), by intro z; have := dv_len B (contL B); rw [z] at this; exact B0 (List.eq_nil_of_length_eq_zero this.symm),
    by rw [dv_len]; exact lA, by rw [dv_len]; exact lB, small cA bA, small cB bB, ?_, upr_nml ng1, by rw [upr_len, dv_len]; exact lg, upr_top ng1 g10, by decide, ?_, ?_, ?_⟩, ?_⟩
  · intro d hd
    refine dv_prim cg d fun j => ?_
    have := hd j
    rw [hc j] at this
    rcases he with rfl | rfl
    · rwa [Int.one_mul] at this
    · rw [Int.neg_mul, Int.one_mul] at this; exact Int.dvd_neg.mp this
  · refine ⟨(dvL p (contL p)).map fun x => e * x, div_val.mpr fun n => ?_⟩
    rw [kA n, vu n, val_map]
    generalize val n (dvL p (contL p)) = u
    generalize val n (dvL g (contL g)) = v
    calc u * v = (e * e) * (u * v) := by rw [ee, Int.one_mul]
      _ = e * v * (e * u) := by simp only [Int.mul_assoc, Int.mul_comm, Int.mul_left_comm]
  · refine ⟨(dvL q (contL q)).map fun x => e * x, div_val.mpr fun n => ?_⟩
    rw [kB n, vu n, val_map]
    generalize val n (dvL q (contL q)) = u
    generalize val n (dvL g (contL g)) = v
    calc u * v = (e * e) * (u * v) := by rw [ee, Int.one_mul]
      _ = e * v * (e * u) := by simp only [Int.mul_assoc, Int.mul_comm, Int.mul_left_comm]
  · refine ⟨U.map fun x => ((contL p : Nat) : Int) * x, W.map fun x => ((contL q : Nat) : Int) * x, m * e, ?_, ?_, fun n => ?_⟩
    · rcases he with rfl | rfl <;> omega
    · refine in_co fun j => ?_
      have a1 : (m * e).natAbs = m.natAbs := by rcases he with rfl | rfl <;> omega
      have a2 : (co (uprL (dvL g (contL g))) j).natAbs = (co (dvL g (contL g)) j).natAbs := by rw [hc j]; rcases he with rfl | rfl <;> omega
      have a3 := dv_mul cg j
      have a4 : (co g j).natAbs < 10 ^ 24 := co_in (P := fun z => z.natAbs < 10 ^ 24) bg (by decide) j
      have a5 : (co g j).natAbs = contL g * (co (dvL g (contL g)) j).natAbs := by rw [← a3, Int.natAbs_mul, Int.natAbs_natCast]
      have a6 : (co (dvL g (contL g)) j).natAbs ≤ contL g * (co (dvL g (contL g)) j).natAbs := Nat.le_mul_of_pos_left _ cg
      rw [a1, a2]
      exact Nat.mul_le_mul hm1 (by omega)
    · have a1 := hb n
      rw [← dv_val cp n, ← dv_val cq n] at a1
      rw [val_map, val_map, kA n, kB n, vu n, ← a1]
      generalize val n (dvL p (contL p)) = u
      generalize val n (dvL q (contL q)) = u'
      generalize val n (dvL g (contL g)) = v
      generalize ((contL p : Nat) : Int) = c1
      generalize ((contL q : Nat) : Int) = c2
      calc c1 * val n U * (u * v) + c2 * val n W * (u' * v) = (val n U * (c1 * u) + val n W * (c2 * u')) * v := by
            rw [Int.add_mul]; simp only [Int.mul_assoc, Int.mul_comm, Int.mul_left_comm]
        _ = (val n U * (c1 * u) + val n W * (c2 * u')) * ((e * e) * v) := by rw [ee, Int.one_mul]
        _ = _ := by simp only [Int.mul_assoc]
  · have ec : Nat.gcd (contL A) (contL B) = contL (p ++ q) * contL g := by
      rw [eA, eB, Nat.gcd_mul_right]
      congr 1
      refine Nat.dvd_antisymm (dvd_cont _ _ fun x hx => ?_) (Nat.dvd_gcd (dvd_cont _ _ fun x hx => cont_dvd _ x (by simp [hx])) (dvd_cont _ _ fun x hx => cont_dvd _ x (by simp [hx])))
      rcases List.mem_append.mp hx with z | z
      · exact Int.dvd_trans (Int.natCast_dvd_natCast.mpr (Nat.gcd_dvd_left _ _)) (cont_dvd p x z)
      · exact Int.dvd_trans (Int.natCast_dvd_natCast.mpr (Nat.gcd_dvd_right _ _)) (cont_dvd q x z)
    have cpq : 0 < contL (p ++ q) := Nat.pos_of_ne_zero fun z => by
      rw [z] at ec
      have : 0 < Nat.gcd (contL A) (contL B) := Nat.gcd_pos_of_pos_left _ cA
      omega
    have cm : ∀ (c : Int) (xs : List Int) j, co (xs.map fun z => c * z) j = c * co xs j := fun c xs j => by
      by_cases h : j < xs.length
      · rw [co_lt (by rw [List.length_map]; exact h), co_lt h, List.getElem_map]
      · rw [co_ge (by rw [List.length_map]; omega), co_ge (xs := xs) (by omega)]; simp
    have ut := upr_top ng1 g10
    have cgcd : 0 < Nat.gcd (contL A) (contL B) := Nat.gcd_pos_of_pos_left _ cA
    have tp : 0 < co ((uprL (dvL g (contL g))).map fun z => ((Nat.gcd (contL A) (contL B) : Nat) : Int) * z) (((uprL (dvL g (contL g))).map fun z => ((Nat.gcd (contL A) (contL B) : Nat) : Int) * z).length - 1) := by
      rw [List.length_map, cm]
      exact Int.mul_pos (by omega) ut
    refine upr_of ?_ (nml_of_last (.inr (by omega))) he (fun j => ?_) (fun _ => tp)
    · refine nml_of_last (.inr ?_)
      rw [List.length_map, cm]
      exact Int.mul_ne_zero (by omega) (co_last ng g0)
    · rw [cm, cm, hc, ec, ← dv_mul cg j, Int.natCast_mul]
      simp only [Int.mul_assoc, Int.mul_comm, Int.mul_left_comm]
theorem cont_one {xs : List Int} (h : (1 : Int) ∈ xs) : contL xs = 1 := by
  have := cont_dvd xs 1 h
  have h2 : contL xs ∣ 1 := Int.natCast_dvd_natCast.mp (by simpa using this)
  exact Nat.dvd_one.mp h2

/-! #### what common hands back -/
def CommonIs (A B R : List Int) : Prop :=
  (A = [] ∧ R = uprL B) ∨ (A ≠ [] ∧ B = [] ∧ R = uprL A) ∨
  (A ≠ [] ∧ B ≠ [] ∧ 0 < contL A ∧ 0 < contL B ∧ (∀ z ∈ A, Bd 130 z) ∧ (∀ z ∈ B, Bd 130 z) ∧ ∃ (g : List Int) (G : Nat), Two (dvL A (contL A)) (dvL B (contL B)) g G ∧ R = g.map fun z => ((Nat.gcd (contL A) (contL B) : Nat) : Int) * z)
theorem co_mapc (c : Int) (xs : List Int) (j : Nat) : co (xs.map fun z => c * z) j = c * co xs j := by
  by_cases h : j < xs.length
  · rw [co_lt (by rw [List.length_map]; exact h), co_lt h, List.getElem_map]
  · rw [co_ge (by rw [List.length_map]; omega), co_ge (xs := xs) (by omega)]; simp
theorem val_trim (n : Int) (xs : List Int) : val n (trim xs) = val n xs := val_of_co (fun k => trim_co xs k) n
theorem nml_val {xs ys : List Int} (hx : Nml xs) (hy : Nml ys) (h : ∀ n, val n xs = val n ys) : xs = ys := nml_ext hx hy fun k => co_of_val h k
/-- the product, without noughts at its end -/
def pdL (g h : List Int) : List Int := trim (mulP g h)
theorem pd_nml (g h : List Int) : Nml (pdL g h) := trim_nml _
theorem pd_val (n : Int) (g h : List Int) : val n (pdL g h) = val n g * val n h := by unfold pdL; rw [val_trim, val_mulP]
theorem pd_nil (g : List Int) : pdL g [] = [] := nml_val (pd_nml _ _) nml_nil fun n => by rw [pd_val]; simp [val]
theorem pd_co (g h : List Int) (j : Nat) : co (pdL g h) j = pm (co g) (co h) j := by unfold pdL; rw [trim_co, co_mulP]
theorem pd_ne {g h : List Int} (ng : Nml g) (nh : Nml h) (g0 : g ≠ []) (h0 : h ≠ []) : pdL g h ≠ [] := fun z => by
  have := pd_co g h (h.length - 1 + (g.length - 1))
  rw [z, co_nil, pm_top (fun j hj => co_over j hj) (fun j hj => co_over j hj)] at this
  exact Int.mul_ne_zero (co_last ng g0) (co_last nh h0) this.symm
theorem pd_len {g h : List Int} (ng : Nml g) (nh : Nml h) : (pdL g h).length ≤ g.length + h.length - 1 := prod_len ng nh (pd_nml _ _) (pd_co g h)
theorem pd_le {g h : List Int} {M N : Nat} (hg : ∀ z ∈ g, z.natAbs ≤ M) (hh : ∀ z ∈ h, z.natAbs ≤ N) : ∀ z ∈ pdL g h, z.natAbs ≤ g.length * (M * N) := in_co fun j => by
  unfold pdL; rw [trim_co]; exact mulP_le hh g hg j
theorem upr_val (xs : List Int) : ∃ e : Int, (e = 1 ∨ e = -1) ∧ ∀ n, val n (uprL xs) = e * val n xs := by
  obtain ⟨e, he, hc⟩ := upr_co xs
  exact ⟨e, he, fun n => by rw [← val_map]; exact val_of_co (fun j => by rw [hc j, co_mapc]) n⟩
theorem upr_val_of {xs ys : List Int} (hn : Nml xs) (hy : Nml ys) {e : Int} (he : e = 1 ∨ e = -1) (h : ∀ n, val n ys = e * val n xs) (hp : ys ≠ [] → 0 < co ys (ys.length - 1)) : ys = uprL xs :=
  upr_of hn hy he (fun j => by rw [← co_mapc]; exact co_of_val (fun n => by rw [h n, val_map]) j) hp
theorem upr_same {xs ys : List Int} (hx : Nml xs) (hy : Nml ys) {e : Int} (he : e = 1 ∨ e = -1) (h : ∀ n, val n ys = e * val n xs) : uprL ys = uprL xs := by
  obtain ⟨f, hf, hv⟩ := upr_val ys
  refine upr_val_of (e := f * e) hx (upr_nml hy) (by rcases hf with rfl | rfl <;> rcases he with rfl | rfl <;> simp) (fun n => by rw [hv, h, Int.mul_assoc]) fun z => ?_
  refine upr_top hy fun w => z (by rw [w]; rfl)
theorem upr_ne {xs : List Int} (h : xs ≠ []) : uprL xs ≠ [] := fun z => h (List.eq_nil_of_length_eq_zero (by rw [← upr_len, z]; rfl))
theorem upr_le {xs : List Int} {M : Nat} (h : ∀ z ∈ xs, z.natAbs ≤ M) : ∀ z ∈ uprL xs, z.natAbs ≤ M := by
  unfold uprL
  split
  · intro z hz
    obtain ⟨y, hy, rfl⟩ := List.mem_map.mp hz
    rw [Int.natAbs_neg]; exact h y hy
  · exact h
theorem cont_sign {p p' q : List Int} (h : ∀ d : Int, (∀ x ∈ p, d ∣ x) ↔ ∀ x ∈ p', d ∣ x) : contL (p ++ q) = contL (p' ++ q) := by
  have one : ∀ {a b : List Int}, (∀ d : Int, (∀ x ∈ a, d ∣ x) → ∀ x ∈ b, d ∣ x) → contL (a ++ q) ∣ contL (b ++ q) := fun {a b} hh => dvd_cont _ _ fun x hx => by
    rcases List.mem_append.mp hx with z | z
    · exact hh _ (fun y hy => cont_dvd _ y (by simp [hy])) x z
    · exact cont_dvd _ x (by simp [z])
  exact Nat.dvd_antisymm (one fun d => (h d).mp) (one fun d => (h d).mpr)
theorem com_of {K : PySem.W.Frag} {H : Hp} {pa pb : Addr} {A B R : List Int} {Q : VK} {E : XK} (hA : SqL K H pa (A.map V.int)) (hB : SqL K H pb (B.map V.int)) (la : A.length ≤ 1000) (lb : B.length ≤ 1000) (h : CommonIs A B R) (q : newL H Q (R.map V.int)) : spCommon K [.ref pa, .ref pb] H Q E := by
  refine ⟨pa, pb, A, B, rfl, hA, hB, la, lb, ?_⟩
  rcases h with ⟨z, rfl⟩ | ⟨z1, z2, rfl⟩ | ⟨A0, B0, c1, c2, b1, b2, g, G, tw, rfl⟩
  · exact .inl ⟨z, q⟩
  · exact .inr (.inl ⟨z1, z2, q⟩)
  · exact .inr (.inr ⟨A0, B0, c1, c2, b1, b2, g, G, tw, q⟩)

/-! #### list and len within a comprehension -/
theorem call_list_ofK {X : Cx} {K : PySem.W.Frag} (hK : X.K = K) : CallR X (.type "list") (fun xs H Q => ∃ p ys, xs = [.ref p] ∧ (SqL K H p ys ∨ SqT K H p ys) ∧ ∀ l, H l = none → Q (.ref l) (upd H l (.lst ys))) := by subst hK; exact call_list_of
theorem call_len_seqK {X : Cx} {K : PySem.W.Frag} (hK : X.K = K) : CallR X (.builtin "len") (fun xs H Q => ∃ p ys, xs = [.ref p] ∧ (SqL K H p ys ∨ SqT K H p ys) ∧ Q (.int (ys.length : Nat)) H) := by subst hK; exact call_len_seq
theorem ix_listK {X : Cx} {K : PySem.W.Frag} (hK : X.K = K) : IxR X (rIxL K) := by subst hK; exact ix_list
theorem ix_tupK {X : Cx} {K : PySem.W.Frag} (hK : X.K = K) : IxR X (rIxT K) := by subst hK; exact ix_tup
/-! #### lists of lists, rules -/
structure LL (K : PySem.W.Frag) (H : Hp) (as : List Addr) (ps : List (List Int)) : Prop where
  len : as.length = ps.length
  get : ∀ (i : Nat) (a : Addr) (p : List Int), as[i]? = some a → ps[i]? = some p → SqL K H a (p.map V.int)
theorem LL.same {K : PySem.W.Frag} {H H' : Hp} {as : List Addr} {ps : List (List Int)} (h : LL K H as ps) (s : Same H H') : LL K H' as ps := ⟨h.len, fun i a p h1 h2 => s.seq (h.get i a p h1 h2)⟩
theorem LL.nth {K : PySem.W.Frag} {H : Hp} {as : List Addr} {ps : List (List Int)} (h : LL K H as ps) {i : Nat} {v : V} (hv : (as.map V.ref)[i]? = some v) : ∃ a p, v = .ref a ∧ as[i]? = some a ∧ ps[i]? = some p ∧ SqL K H a (p.map V.int) := by
  rw [List.getElem?_map] at hv
  obtain ⟨a, ha, rfl⟩ := Option.map_eq_some_iff.mp hv
  have hi := (List.getElem?_eq_some_iff.mp ha).1
  have hp : i < ps.length := by rw [← h.len]; exact hi
  exact ⟨a, ps[i], rfl, ha, List.getElem?_eq_getElem hp, h.get i a _ ha (List.getElem?_eq_getElem hp)⟩
theorem LL.lastAt {K : PySem.W.Frag} {H : Hp} {as : List Addr} {ps : List (List Int)} (h : LL K H as ps) (hne : ps ≠ []) : ∃ a p, atI (as.map V.ref) (-1) = some (.ref a) ∧ as.getLast? = some a ∧ ps.getLast? = some p ∧ SqL K H a (p.map V.int) := by
  have hl : ps.length ≠ 0 := fun z => hne (List.eq_nil_of_length_eq_zero z)
  have ha : as.length - 1 < as.length := by have := h.len; omega
  have hp : as.length - 1 < ps.length := by have := h.len; omega
  refine ⟨as[as.length - 1], ps[as.length - 1], ?_, ?_, ?_, h.get (as.length - 1) _ _ (List.getElem?_eq_getElem ha) (List.getElem?_eq_getElem hp)⟩
  · have e := ixN_neg (n := (as.map V.ref).length) (i := 1) (by decide) (by rw [List.length_map]; omega)
    have e1 : (-((1 : Nat) : Int)) = -1 := rfl
    rw [e1] at e
    unfold atI
    rw [e]
    show (as.map V.ref)[(as.map V.ref).length - 1]? = _
    rw [List.getElem?_map, List.length_map, List.getElem?_eq_getElem ha]; rfl
  · rw [List.getLast?_eq_getElem?, List.getElem?_eq_getElem ha]
  · rw [List.getLast?_eq_getElem?, ← h.len, List.getElem?_eq_getElem hp]
def dL (p : List Int) : PyData := .list (p.map PyData.int)
theorem dvs_ll {K : PySem.W.Frag} {H : Hp} : ∀ (as : List Addr) (ps : List (List Int)), LL K H as ps → DVs K H (as.map V.ref) (ps.map dL)
  | [], [], _ => .nil
  | a :: as, p :: ps, h => .cons (DV.ints (h.get 0 a p rfl rfl)) (dvs_ll as ps ⟨by have := h.len; simpa using this, fun i b r h1 h2 => h.get (i + 1) b r (by simpa using h1) (by simpa using h2)⟩)
  | [], _ :: _, h => by have := h.len; simp at this
  | _ :: _, [], h => by have := h.len; simp at this
theorem dv_ll {K : PySem.W.Frag} {H : Hp} {R : Addr} {as : List Addr} {ps : List (List Int)} (hR : SqL K H R (as.map V.ref)) (h : LL K H as ps) : DV K H (.ref R) (.list (ps.map dL)) := .lst hR (dvs_ll as ps h)
theorem eqv_ll (ps : List (List Int)) : PyData.eqv (.list (ps.map dL)) (.list (ps.map dL)) = true := by
  have h : ∀ ps : List (List Int), PyData.eqvAll (ps.map dL) (ps.map dL) = true := fun ps => by
    induction ps with
    | nil => rfl
    | cons p ps ih => simp [PyData.eqvAll, PyData.eqv, eqvAll_ints, dL, ih]
  simp [PyData.eqv, h]
theorem lay_ll (ps : List (List Int)) : PyData.canLay0 (.list (ps.map dL)) = true := by
  have h : ∀ ps : List (List Int), PyData.canLayAll0 (ps.map dL) = true := fun ps => by
    induction ps with
    | nil => rfl
    | cons p ps ih => simp [PyData.canLayAll0, PyData.canLay0, lay_ints, dL, ih]
  simp [PyData.canLay0, h]
theorem dep_ll (ps : List (List Int)) : PyData.depth (.list (ps.map dL)) ≤ 64 := by
  have h : ∀ ps : List (List Int), PyData.depthAll (ps.map dL) ≤ 1 := fun ps => by
    induction ps with
    | nil => exact Nat.zero_le _
    | cons p ps ih => simp [PyData.depthAll, PyData.depth, depth_ints, dL]; omega
  have := h ps
  simp [PyData.depth]; omega
theorem eqv_llD (ps qs : List (List Int)) : PyData.eqv (.list (ps.map dL)) (.list (qs.map dL)) = decide (ps = qs) := by
  have h : ∀ ps qs : List (List Int), PyData.eqvAll (ps.map dL) (qs.map dL) = decide (ps = qs) := fun ps => by
    induction ps with
    | nil => intro qs; cases qs <;> simp [PyData.eqvAll]
    | cons p ps ih =>
      intro qs
      cases qs with
      | nil => simp [PyData.eqvAll]
      | cons q qs =>
        have e : PyData.eqv (dL p) (dL q) = decide (p = q) := by simp [dL, PyData.eqv, eqvAll_ints]
        simp only [List.map_cons, PyData.eqvAll, e, ih qs, List.cons.injEq, Bool.decide_and]
  simp [PyData.eqv, h]
theorem eqvAll_ll (ps : List (List Int)) : PyData.eqvAll (ps.map dL) (ps.map dL) = true := by
  induction ps with
  | nil => rfl
  | cons p ps ih => simp [PyData.eqvAll, PyData.eqv, eqvAll_ints, dL, ih]
theorem layAll_ll (ps : List (List Int)) : PyData.canLayAll0 (ps.map dL) = true := by
  induction ps with
  | nil => rfl
  | cons p ps ih => simp [PyData.canLayAll0, PyData.canLay0, lay_ints, dL, ih]
theorem depAll_ll (ps : List (List Int)) : PyData.depthAll (ps.map dL) ≤ 1 := by
  induction ps with
  | nil => exact Nat.zero_le _
  | cons p ps ih => simp [PyData.depthAll, PyData.depth, depth_ints, dL]; omega

/-- lists that lie on the heap itself -/
structure LH (H : Hp) (as : List Addr) (ps : List (List Int)) : Prop where
  len : as.length = ps.length
  get : ∀ (i : Nat) (a : Addr) (p : List Int), as[i]? = some a → ps[i]? = some p → H a = some (.lst (p.map V.int))
theorem LH.ll {K : PySem.W.Frag} {H : Hp} {as : List Addr} {ps : List (List Int)} (h : LH H as ps) : LL K H as ps := ⟨h.len, fun i a p h1 h2 => SqL.of (h.get i a p h1 h2)⟩
theorem LH.same {H H' : Hp} {as : List Addr} {ps : List (List Int)} (h : LH H as ps) (s : Same H H') : LH H' as ps := ⟨h.len, fun i a p h1 h2 => s _ _ (h.get i a p h1 h2)⟩
theorem LH.nil (H : Hp) : LH H [] [] := ⟨rfl, fun i a p h1 _ => by simp at h1⟩
theorem LH.snoc {H : Hp} {as : List Addr} {ps : List (List Int)} {a : Addr} {p : List Int} (h : LH H as ps) (e : H a = some (.lst (p.map V.int))) : LH H (as ++ [a]) (ps ++ [p]) := by
  refine ⟨by simp [h.len], fun i b r h1 h2 => ?_⟩
  by_cases z : i < as.length
  · rw [List.getElem?_append_left z] at h1
    rw [List.getElem?_append_left (by rw [← h.len]; exact z)] at h2
    exact h.get i b r h1 h2
  · rw [List.getElem?_append_right (by omega)] at h1
    rw [List.getElem?_append_right (by rw [← h.len]; omega), ← h.len] at h2
    have z2 : i - as.length = 0 := by
      rcases Nat.eq_zero_or_pos (i - as.length) with y | y
      · exact y
      · rw [List.getElem?_eq_none (by simp; omega)] at h1; cases h1
    rw [z2] at h1 h2
    simp at h1 h2
    rw [← h1, ← h2]; exact e
theorem LH.set {H : Hp} {as : List Addr} {ps : List (List Int)} {a : Addr} {p : List Int} (h : LH H as ps) (e : H a = some (.lst (p.map V.int))) (i : Nat) : LH H (as.set i a) (ps.set i p) := by
  refine ⟨by simp [h.len], fun j b r h1 h2 => ?_⟩
  by_cases z : i = j
  · subst z
    have l1 : i < as.length := by have := (List.getElem?_eq_some_iff.mp h1).1; simpa using this
    rw [List.getElem?_set_self l1] at h1
    rw [List.getElem?_set_self (by rw [← h.len]; exact l1)] at h2
    rw [← Option.some.inj h1, ← Option.some.inj h2]; exact e
  · rw [List.getElem?_set_ne z] at h1 h2
    exact h.get j b r h1 h2
theorem LH.upd {H : Hp} {as : List Addr} {ps : List (List Int)} {b : Addr} {o : HO} (h : LH H as ps) (n : b ∉ as) : LH (L2.upd H b o) as ps := ⟨h.len, fun i a p h1 h2 => by
  rw [upd_ne (fun z => n (by rw [← z]; exact List.mem_of_getElem? h1))]; exact h.get i a p h1 h2⟩
theorem LH.updAt {H : Hp} {as : List Addr} {ps : List (List Int)} {b : Addr} {r : List Int} {k : Nat} (h : LH H as ps) (nd : as.Nodup) (hk : as[k]? = some b) : LH (L2.upd H b (.lst (r.map V.int))) as (ps.set k r) := by
  refine ⟨by simp [h.len], fun i a p h1 h2 => ?_⟩
  by_cases z : k = i
  · subst z
    have l1 : k < as.length := (List.getElem?_eq_some_iff.mp h1).1
    rw [List.getElem?_set_self (by rw [← h.len]; exact l1)] at h2
    rw [hk] at h1
    rw [← Option.some.inj h1, ← Option.some.inj h2]; exact upd_same
  · rw [List.getElem?_set_ne z] at h2
    have ne : a ≠ b := fun e => by
      obtain ⟨i1, e1⟩ := List.getElem?_eq_some_iff.mp h1
      obtain ⟨k1, e2⟩ := List.getElem?_eq_some_iff.mp hk
      exact z ((List.getElem_inj nd).mp (by rw [e1, e2, e]))
    rw [upd_ne ne]; exact h.get i a p h1 h2
theorem LH.mem {H : Hp} {as : List Addr} {ps : List (List Int)} (h : LH H as ps) {a : Addr} (ha : a ∈ as) : ∃ p : List Int, H a = some (.lst (p.map V.int)) := by
  obtain ⟨i, hi, e⟩ := List.mem_iff_getElem.mp ha
  have hp : i < ps.length := by rw [← h.len]; exact hi
  exact ⟨ps[i], h.get i a ps[i] (by rw [← e]; exact List.getElem?_eq_getElem hi) (List.getElem?_eq_getElem hp)⟩
theorem LH.notin {H : Hp} {as : List Addr} {ps : List (List Int)} (h : LH H as ps) {a : Addr} (ha : H a = none) : a ∉ as := fun z => by
  obtain ⟨p, e⟩ := h.mem z
  rw [ha] at e; cases e

/-- the program's clear -/
def clr (m : Int) (xs : List Int) : Bool := decide (hd (shiftL m xs) ≠ 0 ∧ ∀ y ∈ shiftL m xs, 0 ≤ y * hd (shiftL m xs))
theorem clr_iff (m : Int) (xs : List Int) : clr m xs = true ↔ Clear (shiftL m xs) := by unfold clr Clear; exact decide_eq_true_iff
theorem hd_co (ys : List Int) : hd ys = co ys 0 := by cases ys <;> rfl
theorem trim_in {ys : List Int} {y : Int} (h : y ∈ ys) : y ∈ trim ys ∨ y = 0 := by
  obtain ⟨k, hk, rfl⟩ := List.mem_iff_getElem.mp h
  rw [← co_lt hk, ← trim_co]
  by_cases z : k < (trim ys).length
  · rw [co_lt z]; exact .inl (List.getElem_mem z)
  · exact .inr (co_ge (by omega))
theorem in_trim {ys : List Int} {y : Int} (h : y ∈ trim ys) : y ∈ ys := by
  unfold trim at h
  exact List.mem_reverse.mp ((List.dropWhile_sublist _).subset (List.mem_reverse.mp h))
theorem clr_trim {m : Int} {xs : List Int} (h0 : co (trim (shiftL m xs)) 0 ≠ 0) : clr m xs = true ↔ (∀ y ∈ trim (shiftL m xs), 0 ≤ y) ∨ (∀ y ∈ trim (shiftL m xs), y ≤ 0) := by
  rw [trim_co, ← hd_co] at h0
  rw [clr_iff, clear_iff h0]
  constructor
  · rintro (h | h)
    · exact .inl fun y hy => h y (in_trim hy)
    · exact .inr fun y hy => h y (in_trim hy)
  · rintro (h | h)
    · refine .inl fun y hy => (trim_in hy).elim (h y) fun z => by omega
    · refine .inr fun y hy => (trim_in hy).elim (h y) fun z => by omega
theorem clr_no {m : Int} {xs : List Int} (h : co (shiftL m xs) 0 = 0) : clr m xs = false := by
  rw [← hd_co] at h
  refine Bool.eq_false_iff.mpr fun z => ((clr_iff m xs).mp z).1 h
def spClear (K : PySem.W.Frag) : Sp := fun vs H Q _ => ∃ (a : Addr) (xs : List Int) (m : Int) (k l : Nat), vs = [.ref a, .int m] ∧ SqL K H a (xs.map V.int) ∧ xs.length ≤ 64 ∧ (∀ x ∈ xs, Bd k x) ∧ Bd l m ∧ k + l * 5000 ≤ 60000000 ∧ ∀ H', Same H H' → Q (.bl (clr m xs)) H'
theorem ok_clear {P : Program} {w : World} {K : PySem.W.Frag} {mg : Str → Option Value} {base : Heap} (T : Tx K mg) : FnOk P w K mg base CX0 3 T.a_clear T.fd_clear ["poly", "m"] (spClear K) := by
  refine T.F_clear.ok sc_clear (fun vs H Q E h => ?_) (fun cdv A outer s H vs Q E hr h => ?_)
  · obtain ⟨a, xs, m, k, l, rfl, _⟩ := h
    rfl
  obtain ⟨a, xs, m, k, l, rfl, hS, hl, hk, hb, hf, q⟩ := h
  refine ⟨_, ((pss_cons (ps_set (i := 2) sc_clear.nd rfl (Or.inl rfl) (pe_call (FnOk.mono (ok_shifted T) (by decide)) hr rfl T.m_shifted T.F_shifted.kp T.b_shifted .nil pass0 (pa_cons (pv 0) (pa_cons (pv 1) pa_nil))))
    (pss_cons (ps_if (PW.pt (pw_or (pt_cmpR op_eq (pe_callB call_len_seq rfl T.z_len bt_len (pa_cons (pv 2) pa_nil)) pe_int (nomark _)) (pw_or1 (pt_cmpR op_eq (pe_ix ix_list (pv 2) pe_int (fun _ _ => rfl)) pe_int (nomark _))))) (pss_one (ps_ret pe_bl)) pss_nil)
    (pss_one (ps_ret (pe_or (pe_cmpR op_ge (pe_callB (call_minL rfl) rfl T.z_min bt_min (pa_cons (pv 2) pa_nil)) pe_int (nomark _)) (pe_one (pe_cmpR op_le (pe_callB (call_maxL rfl) rfl T.z_max bt_max (pa_cons (pv 2) pa_nil)) pe_int (nomark _))))))))), ?_⟩
  simp only [a_izip, a_drop_nx, a_raise, a_seq, a_next, a_drop, a_ret, a_retN, a_if, a_asg, a_gname, a_gsub, a_gtup, a_gnil, a_gcons, a_aug, a_augS, a_ipI, a_var, a_c, a_op, a_un, a_rI, a_rI0, a_rU, a_eqI, a_neI, a_eqB, a_neB, a_tB, a_test, a_and, a_or, a_not, a_andV, a_orV, a_notV, a_nil, a_cons, a_lst, a_tup, a_call, a_cb, a_bm0, a_bm, a_sl, a_nopart, a_part, a_tyI, a_for, a_comp, a_ilist, a_irng1, a_irng2, a_irng3, a_cxK, and_assoc, a_irev, a_ienum, a_cat, a_rep, a_pop, a_clear, a_rslL, a_ixL, a_ixT, a_setL, a_app,
    List.getElem?_cons_zero, List.getElem?_cons_succ, List.set_cons_zero, List.set_cons_succ, Option.some.injEq, V.int.injEq, V.bl.injEq, V.ref.injEq, V.ty.injEq, exists_eq_left', exists_eq_left, exists_and_left, decide_eq_true_eq, List.cons_append, List.nil_append, List.append_nil, List.cons.injEq, and_true, true_and, Bool.not_eq_true', decide_eq_false_iff_not, ite_true, ite_false, Bool.false_eq_true, if_true, if_false, List.length_cons, List.length_nil, L2.start, List.map_cons, List.map_nil, List.replicate_succ, List.replicate_zero]
  refine ⟨a, xs, m, k, l, rfl, hS, hl, hk, hb, hf, fun R H1 s1 nR eR => ?_⟩
  refine ⟨R, rfl, _, .inl (SqL.of eR), ?_⟩
  have q := q _ s1
  obtain ⟨ys, hys⟩ : ∃ ys, trim (shiftL m xs) = ys := ⟨_, rfl⟩
  rw [hys] at eR ⊢
  rw [List.length_map]
  refine ite2 (fun h => ?_) (fun h => ?_)
  · have tz : ys = [] := List.eq_nil_of_length_eq_zero (by omega)
    have z : clr m xs = false := clr_no (by rw [← trim_co, hys, tz]; rfl)
    rw [z] at q
    exact q
  have hlt : 0 < ys.length := by omega
  have hne : ys ≠ [] := List.length_pos_iff.mp hlt
  refine ⟨R, rfl, _, SqL.of eR, _, (show atI (ys.map V.int) 0 = some (V.int ys[0]) from at_int hlt), ?_⟩
  simp only [a_izip, a_drop_nx, a_raise, a_seq, a_next, a_drop, a_ret, a_retN, a_if, a_asg, a_gname, a_gsub, a_gtup, a_gnil, a_gcons, a_aug, a_augS, a_ipI, a_var, a_c, a_op, a_un, a_rI, a_rI0, a_rU, a_eqI, a_neI, a_eqB, a_neB, a_tB, a_test, a_and, a_or, a_not, a_andV, a_orV, a_notV, a_nil, a_cons, a_lst, a_tup, a_call, a_cb, a_bm0, a_bm, a_sl, a_nopart, a_part, a_tyI, a_for, a_comp, a_ilist, a_irng1, a_irng2, a_irng3, a_cxK, and_assoc, a_irev, a_ienum, a_cat, a_rep, a_pop, a_clear, a_rslL, a_ixL, a_ixT, a_setL, a_app,
    List.getElem?_cons_zero, List.getElem?_cons_succ, List.set_cons_zero, List.set_cons_succ, Option.some.injEq, V.int.injEq, V.bl.injEq, V.ref.injEq, V.ty.injEq, exists_eq_left', exists_eq_left, exists_and_left, decide_eq_true_eq, List.cons_append, List.nil_append, List.append_nil, List.cons.injEq, and_true, true_and, Bool.not_eq_true', decide_eq_false_iff_not, ite_true, ite_false, Bool.false_eq_true, if_true, if_false, List.length_cons, List.length_nil, L2.start, List.map_cons, List.map_nil, List.replicate_succ, List.replicate_zero]
  refine ite2 (fun h0 => ?_) (fun h0 => ?_)
  · have z : clr m xs = false := clr_no (by rw [← trim_co, hys, co_lt hlt]; exact h0)
    rw [z] at q
    exact q
  have ct := clr_trim (m := m) (xs := xs) (by rw [hys, co_lt hlt]; exact h0)
  rw [hys] at ct
  refine ⟨_, SqL.of eR, hne, fun M hM1 hM2 => ite2 (fun h1 => ?_) (fun h1 => ⟨_, SqL.of eR, hne, fun M2 hN1 hN2 => ?_⟩)⟩
  · rw [ct.mpr (.inl fun y hy => Int.le_trans h1 (hM2 y hy))] at q
    exact q
  · have e : decide (M2 ≤ 0) = clr m xs := by
      rw [Bool.eq_iff_iff, ct, decide_eq_true_iff]
      constructor
      · intro h2
        exact .inr fun y hy => Int.le_trans (hN2 y hy) h2
      · rintro (h2 | h2)
        · exact absurd (h2 M hM1) h1
        · exact h2 M2 hN1
    rw [e]
    exact q

/-! #### split -/
/-! #### the commons of k35's polynomials, step by step -/
def Sml (xs : List Int) : Prop := Nml xs ∧ xs.length ≤ 3 ∧ ∀ z ∈ xs, z.natAbs ≤ 33
def Dvs (h r : List Int) : Prop := ∃ x, ∀ n, val n r = val n h * val n x
/-- h' is the common of h and r -/
def Stq (h r h' : List Int) : Prop :=
  (h = [] ∧ h' = r) ∨ (h ≠ [] ∧ r = [] ∧ h' = h) ∨
  (h ≠ [] ∧ r ≠ [] ∧ ∃ (s p q U W : List Int) (m : Int), m ≠ 0 ∧ m.natAbs ≤ 200000 ∧ s ≠ [] ∧ p ≠ [] ∧ q ≠ [] ∧ Nml s ∧ Nml p ∧ Nml q ∧ s.length ≤ 3 ∧ (∀ z ∈ s, z.natAbs ≤ 33) ∧ (∀ n, val n h = val n s * val n p) ∧ (∀ n, val n r = val n s * val n q) ∧ (∀ n, val n U * val n p + val n W * val n q = m) ∧
    h' = s.map fun z => ((contL (p ++ q) : Nat) : Int) * z)
theorem cont_swap (p q : List Int) : contL (p ++ q) = contL (q ++ p) :=
  Nat.dvd_antisymm (dvd_cont _ _ fun x hx => cont_dvd _ x (by simp only [List.mem_append] at hx ⊢; exact hx.symm)) (dvd_cont _ _ fun x hx => cont_dvd _ x (by simp only [List.mem_append] at hx ⊢; exact hx.symm))
theorem val3 {B : List Int} (h : B.length ≤ 3) (n : Int) : val n B = co B 0 + n * (co B 1 + n * co B 2) := by
  match B, h with
  | [], _ => simp [val, co]
  | [a], _ => simp [val, co]
  | [a, b], _ => simp [val, co]
  | [a, b, c], _ => simp [val, co]
  | _ :: _ :: _ :: _ :: _, h => simp at h
theorem trim_le {xs : List Int} {M : Nat} (h : ∀ z ∈ xs, z.natAbs ≤ M) : ∀ z ∈ trim xs, z.natAbs ≤ M := in_co fun j => by
  rw [trim_co]; exact co_in (P := fun z : Int => z.natAbs ≤ M) h (by simp) j
theorem dvs_cont {s p q r : List Int} (C : 0 < contL (p ++ q)) (h : ∀ n, val n r = val n s * val n p) : Dvs (s.map fun z => ((contL (p ++ q) : Nat) : Int) * z) r := by
  refine ⟨dvL p (contL (p ++ q)), fun n => ?_⟩
  have e : val n p = ((contL (p ++ q) : Nat) : Int) * val n (dvL p (contL (p ++ q))) := by
    rw [← val_map]
    refine val_of_co (fun j => ?_) n
    rw [co_mapc, co_dv]
    exact (fdiv_mul_cont C (co_in (P := fun x => ((contL (p ++ q) : Nat) : Int) ∣ x) (fun x hx => cont_dvd _ x (by simp [hx])) (Int.dvd_zero _) j)).symm
  rw [val_map, h n, e]; grind
theorem cop_dvd {a b c : Int} (h : a ∣ b * c) (g : Int.gcd a b = 1) : a ∣ c := by
  have h1 := Int.natAbs_dvd_natAbs.mpr h
  rw [Int.natAbs_mul] at h1
  exact Int.natAbs_dvd_natAbs.mp (Nat.Coprime.dvd_of_dvd_mul_left (show Nat.Coprime a.natAbs b.natAbs from g) h1)
/-- a number or a line, and a second one -/
theorem lin_ex {L B : List Int} (hL : Sml L) (hB : Sml B) (L0 : L ≠ []) (B0 : B ≠ []) (l2 : L.length ≤ 2) : ∃ (s p q U W : List Int) (m : Int), m ≠ 0 ∧ m.natAbs ≤ 200000 ∧ s ≠ [] ∧ p ≠ [] ∧ q ≠ [] ∧ Nml s ∧ Nml p ∧ Nml q ∧ s.length ≤ 2 ∧ (∀ z ∈ s, z.natAbs ≤ 33) ∧ (∀ n, val n L = val n s * val n p) ∧ (∀ n, val n B = val n s * val n q) ∧ (∀ n, val n U * val n p + val n W * val n q = m) ∧
    ∀ z ∈ s, ((contL (p ++ q) : Nat) * z.natAbs ≤ 33) := by
  obtain ⟨nL, _, bL⟩ := hL
  obtain ⟨nB, lB, bB⟩ := hB
  have one : ∀ (u : Int), u ∈ L → u ≠ 0 → ∀ q : List Int, ∀ z ∈ ([1] : List Int), (contL (L ++ q) : Nat) * z.natAbs ≤ 33 := fun u hu u0 q z hz => by
    rw [List.mem_singleton.mp hz]
    have h1 := cont_dvd (L ++ q) u (by simp [hu])
    have h2 : contL (L ++ q) ∣ u.natAbs := Int.ofNat_dvd_left.mp h1
    have h3 := Nat.le_of_dvd (by omega) h2
    have := bL u hu
    show contL (L ++ q) * 1 ≤ 33
    omega
  match L, L0, l2 with
  | [u], _, _ =>
    have u0 : u ≠ 0 := by have := nml_last.mp nL u rfl; exact this
    exact ⟨[1], [u], B, [1], [], u, u0, by have := bL u (by simp); omega, by simp, by simp, B0, nml_one1 [], nL, nB, by simp, by simp, fun n => by simp [val], fun n => by simp [val], fun n => by simp [val], one u (by simp) u0 B⟩
  | [u, v], _, _ =>
    have v0 : v ≠ 0 := nml_last.mp nL v rfl
    have bu := bL u (by simp)
    have bv := bL v (by simp)
    obtain ⟨b0, e0⟩ : ∃ b, co B 0 = b := ⟨_, rfl⟩
    obtain ⟨b1, e1⟩ : ∃ b, co B 1 = b := ⟨_, rfl⟩
    obtain ⟨b2, e2⟩ : ∃ b, co B 2 = b := ⟨_, rfl⟩
    have vB : ∀ n, val n B = b0 + n * (b1 + n * b2) := fun n => by rw [val3 lB, e0, e1, e2]
    have c0 : b0.natAbs ≤ 33 := by rw [← e0]; exact co_in (P := fun z : Int => z.natAbs ≤ 33) bB (by simp) 0
    have c1 : b1.natAbs ≤ 33 := by rw [← e1]; exact co_in (P := fun z : Int => z.natAbs ≤ 33) bB (by simp) 1
    have c2 : b2.natAbs ≤ 33 := by rw [← e2]; exact co_in (P := fun z : Int => z.natAbs ≤ 33) bB (by simp) 2
    have vL : ∀ n, val n [u, v] = u + n * v := fun n => by simp [val]
    by_cases r0 : b0 * v * v - b1 * u * v + b2 * u * u = 0
    · obtain ⟨d, hd⟩ : ∃ d, Nat.gcd u.natAbs v.natAbs = d := ⟨_, rfl⟩
      have d1 : 0 < d := by rw [← hd]; exact Nat.gcd_pos_of_pos_right _ (by omega)
      obtain ⟨u', hu⟩ : (d : Int) ∣ u := by rw [← hd]; exact Int.ofNat_dvd_left.mpr (Nat.gcd_dvd_left _ _)
      obtain ⟨v', hv⟩ : (d : Int) ∣ v := by rw [← hd]; exact Int.ofNat_dvd_left.mpr (Nat.gcd_dvd_right _ _)
      have cp : Int.gcd u' v' = 1 := by
        have : Int.gcd u v = d * Int.gcd u' v' := by rw [hu, hv, Int.gcd_mul_left, Int.natAbs_natCast]
        have e : Int.gcd u v = d := hd
        rw [e] at this
        exact Nat.eq_of_mul_eq_mul_left d1 (by omega)
      have v'0 : v' ≠ 0 := fun z => v0 (by rw [hv, z]; simp)
      have dd : (d : Int) ≠ 0 := by omega
      have r1 : b0 * v' * v' - b1 * u' * v' + b2 * u' * u' = 0 := by
        have : (d : Int) * (d * (b0 * v' * v' - b1 * u' * v' + b2 * u' * u')) = 0 := by rw [← r0, hu, hv]; grind
        rcases Int.mul_eq_zero.mp this with z | z
        · exact absurd z dd
        · rcases Int.mul_eq_zero.mp z with z | z
          · exact absurd z dd
          · exact z
      have cp' : Int.gcd v' u' = 1 := by rw [Int.gcd_comm]; exact cp
      obtain ⟨k, hk⟩ : v' ∣ b2 := by
        have h1 : v' ∣ b2 * u' * u' := ⟨b1 * u' - b0 * v', by grind⟩
        have h2 : v' ∣ b2 * u' := cop_dvd (by rw [Int.mul_comm] at h1; exact h1) cp'
        exact cop_dvd (by rw [Int.mul_comm] at h2; exact h2) cp'
      have r2 : b0 * v' = u' * (b1 - k * u') := by
        have : v' * (b0 * v' - u' * (b1 - k * u')) = 0 := by rw [← r1, hk]; grind
        rcases Int.mul_eq_zero.mp this with z | z
        · exact absurd z v'0
        · omega
      obtain ⟨t, ht⟩ : v' ∣ b1 - k * u' := cop_dvd (b := u') ⟨b0, by rw [← r2]; grind⟩ cp'
      have r3 : b0 = u' * t := by
        have : v' * (b0 - u' * t) = 0 := by rw [ht] at r2; grind
        rcases Int.mul_eq_zero.mp this with z | z
        · exact absurd z v'0
        · omega
      have vq : ∀ n, val n B = val n [u', v'] * val n (trim [t, k]) := fun n => by
        rw [vB, val_trim]
        have : b1 = k * u' + v' * t := by omega
        simp only [val]
        rw [this, r3, hk]; grind
      have q0 : trim [t, k] ≠ [] := fun z => B0 (nml_val nB nml_nil fun n => by rw [vq n, z]; simp [val])
      have mu : d * u'.natAbs = u.natAbs := by rw [hu, Int.natAbs_mul, Int.natAbs_natCast]
      have mv : d * v'.natAbs = v.natAbs := by rw [hv, Int.natAbs_mul, Int.natAbs_natCast]
      have le1 : ∀ x : Nat, x ≤ d * x := fun x => Nat.le_mul_of_pos_left _ d1
      have d33 : d ≤ 33 := by
        have : d * 1 ≤ d * v'.natAbs := Nat.mul_le_mul_left _ (by omega)
        omega
      refine ⟨[u', v'], [(d : Int)], trim [t, k], [1], [], d, dd, by omega, by simp, by simp, q0, nml_last.mpr fun x hx => by simp at hx; omega, nml_c dd, trim_nml _, by simp, fun z hz => ?_, fun n => ?_, vq, fun n => by simp [val], fun z hz => ?_⟩
      · have l1 := le1 u'.natAbs
        have l2 := le1 v'.natAbs
        simp at hz
        rcases hz with rfl | rfl <;> omega
      · simp only [val]; rw [hu, hv]; grind
      · have h1 := cont_dvd ([(d : Int)] ++ trim [t, k]) d (by simp)
        have h2 : contL ([(d : Int)] ++ trim [t, k]) ∣ d := Int.natCast_dvd_natCast.mp h1
        have h3 := Nat.le_of_dvd d1 h2
        have h4 := Nat.mul_le_mul_right z.natAbs h3
        simp at hz
        rcases hz with rfl | rfl <;> omega
    · refine ⟨[1], [u, v], B, [-(b1 * v - b2 * u), -(b2 * v)], [v * v], b0 * v * v - b1 * u * v + b2 * u * u, r0, ?_, by simp, by simp, B0, nml_one1 [], nL, nB, by simp, by simp, fun n => by simp [val], fun n => by simp [val], fun n => ?_, one v (by simp) v0 B⟩
      · have p : ∀ x y z : Int, x.natAbs ≤ 33 → y.natAbs ≤ 33 → z.natAbs ≤ 33 → (x * y * z).natAbs ≤ 33 * 33 * 33 := fun x y z h1 h2 h3 => by
          rw [Int.natAbs_mul, Int.natAbs_mul]
          exact Nat.mul_le_mul (Nat.mul_le_mul h1 h2) h3
        have a1 := p b0 v v c0 bv bv
        have a2 := p b1 u v c1 bu bv
        have a3 := p b2 u u c2 bu bu
        generalize b0 * v * v = A1 at a1
        generalize b1 * u * v = A2 at a2
        generalize b2 * u * u = A3 at a3
        omega
      · rw [vB]; simp only [val]; grind
theorem stq_ex {h r : List Int} (hh : Sml h) (hr : Sml r) (hl : h.length ≤ 2 ∨ r.length ≤ 2) : ∃ h', Stq h r h' ∧ Sml h' ∧ ((h'.length ≤ 2) ∨ (h = [] ∧ h' = r) ∨ (r = [] ∧ h' = h)) ∧ Dvs h' h ∧ Dvs h' r := by
  by_cases h0 : h = []
  · exact ⟨r, .inl ⟨h0, rfl⟩, hr, .inr (.inl ⟨h0, rfl⟩), ⟨[], fun n => by rw [h0]; simp [val]⟩, ⟨[1], fun n => by simp [val]⟩⟩
  by_cases r0 : r = []
  · exact ⟨h, .inr (.inl ⟨h0, r0, rfl⟩), hh, .inr (.inr ⟨r0, rfl⟩), ⟨[1], fun n => by simp [val]⟩, ⟨[], fun n => by rw [r0]; simp [val]⟩⟩
  have fin : ∀ (s p q U W : List Int) (m : Int), m ≠ 0 → m.natAbs ≤ 200000 → s ≠ [] → p ≠ [] → q ≠ [] → Nml s → Nml p → Nml q → s.length ≤ 2 → (∀ z ∈ s, z.natAbs ≤ 33) → (∀ n, val n h = val n s * val n p) → (∀ n, val n r = val n s * val n q) → (∀ n, val n U * val n p + val n W * val n q = m) →
      (∀ z ∈ s, ((contL (p ++ q) : Nat) * z.natAbs ≤ 33)) → ∃ h', Stq h r h' ∧ Sml h' ∧ ((h'.length ≤ 2) ∨ (h = [] ∧ h' = r) ∨ (r = [] ∧ h' = h)) ∧ Dvs h' h ∧ Dvs h' r := fun s p q U W m m0 mb s0 p0 q0 ns np nq ls bs vh vr bz cb => by
    have C : 0 < contL (p ++ q) := Nat.pos_of_ne_zero fun z => by
      have h1 := cont_pos np p0
      have h2 : contL (p ++ q) ∣ contL p := dvd_cont _ _ fun x hx => cont_dvd _ x (by simp [hx])
      rw [z] at h2
      have := Nat.eq_zero_of_zero_dvd h2
      omega
    refine ⟨_, .inr (.inr ⟨h0, r0, s, p, q, U, W, m, m0, mb, s0, p0, q0, ns, np, nq, by omega, bs, vh, vr, bz, rfl⟩), ⟨nml_of_last (.inr ?_), by rw [List.length_map]; omega, fun z hz => ?_⟩, .inl (by rw [List.length_map]; exact ls), dvs_cont C vh, ?_⟩
    · rw [List.length_map, co_mapc]
      exact Int.mul_ne_zero (by omega) (co_last ns s0)
    · obtain ⟨y, hy, rfl⟩ := List.mem_map.mp hz
      rw [Int.natAbs_mul, Int.natAbs_natCast]; exact cb y hy
    · rw [cont_swap]; exact dvs_cont (by rw [cont_swap]; exact C) vr
  rcases hl with hl | hl
  · obtain ⟨s, p, q, U, W, m, m0, mb, s0, p0, q0, ns, np, nq, ls, bs, vh, vr, bz, cb⟩ := lin_ex hh hr h0 r0 hl
    exact fin s p q U W m m0 mb s0 p0 q0 ns np nq ls bs vh vr bz cb
  · obtain ⟨s, p, q, U, W, m, m0, mb, s0, p0, q0, ns, np, nq, ls, bs, vh, vr, bz, cb⟩ := lin_ex hr hh r0 h0 hl
    exact fin s q p W U m m0 mb s0 q0 p0 ns nq np ls bs vr vh (fun n => by rw [Int.add_comm]; exact bz n) (fun z hz => by rw [cont_swap]; exact cb z hz)
/-- the whole chain -/
def Chn : List Int → List (List Int) → List Int → Prop
  | h, [], h' => h = h'
  | h, r :: rs, h' => ∃ k, Stq h r k ∧ Sml k ∧ Chn k rs h'
theorem dvs_trans {a b c : List Int} : Dvs a b → Dvs b c → Dvs a c := fun ⟨x, hx⟩ ⟨y, hy⟩ => ⟨mulP x y, fun n => by rw [hy n, hx n, val_mulP, Int.mul_assoc]⟩
theorem chn_ex : ∀ (rs : List (List Int)) (h : List Int), Sml h → (∀ r ∈ rs, Sml r) → (h.length ≤ 2 ∨ ∀ r ∈ rs, r.length ≤ 2) → (rs.filter fun r => decide (2 < r.length)).length ≤ 1 → ∃ h', Chn h rs h' ∧ Sml h' ∧ Dvs h' h ∧ ∀ r ∈ rs, Dvs h' r
  | [], h, hh, _, _, _ => ⟨h, rfl, hh, ⟨[1], fun n => by simp [val]⟩, by simp⟩
  | r :: rs, h, hh, hr, hl, hf => by
    obtain ⟨k, st, sk, lk, d1, d2⟩ := stq_ex hh (hr r (by simp)) (hl.imp id fun z => z r (by simp))
    have hf' : (rs.filter fun r => decide (2 < r.length)).length ≤ 1 := by
      rw [List.filter_cons] at hf
      split at hf
      · rw [List.length_cons] at hf; omega
      · exact hf
    have rest : 2 < r.length → ∀ x ∈ rs, x.length ≤ 2 := fun z x hx => by
      rw [List.filter_cons, if_pos (by simpa using z)] at hf
      have e : rs.filter (fun r => decide (2 < r.length)) = [] := List.eq_nil_of_length_eq_zero (by rw [List.length_cons] at hf; omega)
      have := List.filter_eq_nil_iff.mp e x hx
      simp at this; exact this
    have hk : k.length ≤ 2 ∨ ∀ x ∈ rs, x.length ≤ 2 := by
      rcases lk with z | ⟨_, rfl⟩ | ⟨_, rfl⟩
      · exact .inl z
      · by_cases y : 2 < k.length
        · exact .inr (rest y)
        · exact .inl (by omega)
      · exact hl.imp id fun z x hx => z x (by simp [hx])
    obtain ⟨h', ch, sh, e1, e2⟩ := chn_ex rs k sk (fun x hx => hr x (by simp [hx])) hk hf'
    refine ⟨h', ⟨k, st, sk, ch⟩, sh, dvs_trans e1 d1, fun x hx => ?_⟩
    rcases List.mem_cons.mp hx with rfl | hx
    · exact dvs_trans e1 d2
    · exact e2 x hx
theorem unit_of {h x : List Int} (nh : Nml h) (hx : ∀ n, val n h * val n x = 1) : h = [1] ∨ h = [-1] := by
  have h0 : h ≠ [] := fun z => by have := hx 0; rw [z] at this; simp [val] at this
  have hd : Div [1] h (trim x) := fun k => by
    rw [← co_mulP]
    exact co_of_val (fun n => by rw [val_mulP, val_trim, hx n]; simp [val]) k
  obtain ⟨_, l⟩ := div_len nh h0 (nml_one1 []) (trim_nml x) hd (by simp)
  have l1 : (trim x).length ≠ 0 := fun z => by
    have h1 := hx 0
    have h2 := val_trim 0 x
    rw [List.eq_nil_of_length_eq_zero z] at h2
    rw [← h2] at h1
    simp [val] at h1
  have lh := List.length_pos_iff.mpr h0
  rw [show ([] ++ [1] : List Int).length = 1 from rfl] at l
  match h, h0 with
  | [u], _ =>
    have h1 := hx 0
    simp only [val, Int.mul_zero, Int.zero_mul, Int.add_zero] at h1
    have h2 : u.natAbs = 1 := by
      have := congrArg Int.natAbs h1
      rw [Int.natAbs_mul] at this
      exact Nat.eq_one_of_mul_eq_one_right this
    rcases (show u = 1 ∨ u = -1 by omega) with z | z
    · left; rw [z]
    · right; rw [z]
  | _ :: _ :: _, _ => simp only [List.length_cons] at l; omega
theorem com_stq {g h r h' : List Int} (ng : Nml g) (g0 : g ≠ []) (lg : g.length ≤ 3) (bg : ∀ z ∈ g, z.natAbs ≤ 50 * 10 ^ 20) (hh : Sml h) (hr : Sml r) (hh' : Sml h') (st : Stq h r h') :
    CommonIs (uprL (pdL g h)) (pdL g r) (uprL (pdL g h')) := by
  obtain ⟨nh, lh, bh⟩ := hh
  obtain ⟨nr, lr, br⟩ := hr
  obtain ⟨nh', lh', bh'⟩ := hh'
  rcases st with ⟨rfl, rfl⟩ | ⟨h0, rfl, rfl⟩ | ⟨h0, r0, s, p, q, U, W, m, hm, hm1, s0, p0, q0, ns, np, nq, ls, bs, vh, vr, hb, rfl⟩
  · refine .inl ⟨by rw [pd_nil]; rfl, ?_⟩
    rfl
  · refine .inr (.inl ⟨upr_ne (pd_ne ng nh g0 h0), pd_nil g, ?_⟩)
    obtain ⟨e, he, hv⟩ := upr_val (pdL g h')
    exact (upr_same (e := e) (pd_nml _ _) (upr_nml (pd_nml _ _)) he hv).symm
  · obtain ⟨e, he, hv⟩ := upr_val (pdL g h)
    have ee : e * e = 1 := by rcases he with rfl | rfl <;> rfl
    have nA : Nml (uprL (pdL g h)) := upr_nml (pd_nml _ _)
    have lA := pd_len ng nh
    have lB := pd_len ng nr
    have lS := pd_len ng ns
    have cap : g.length * (50 * 10 ^ 20 * 33) ≤ 10 ^ 24 - 1 := Nat.le_trans (Nat.mul_le_mul_right _ lg) (by decide)
    have small : (10 ^ 24 : Nat) < 2 ^ 130 := by decide
    have bA : ∀ z ∈ uprL (pdL g h), Bd 130 z := fun z hz => by
      have := upr_le (pd_le bg bh) z hz
      show z.natAbs < 2 ^ 130
      omega
    have bB : ∀ z ∈ pdL g r, Bd 130 z := fun z hz => by
      have := pd_le bg br z hz
      show z.natAbs < 2 ^ 130
      omega
    have np' : Nml (p.map fun z => e * z) := nml_of_last (.inr (by
      rw [List.length_map, co_mapc]
      exact Int.mul_ne_zero (by rcases he with rfl | rfl <;> decide) (co_last np p0)))
    obtain ⟨c1, c2, A0, B0, tw, er⟩ := two_of (U := U.map fun z => e * z) (W := W) (m := m) np' nq (pd_nml g s) nA (pd_nml g r) (by simpa using p0) q0 (pd_ne ng ns g0 s0) (by rw [upr_len]; omega) (by omega) (by omega) bA bB
      (fun z hz => by have := pd_le bg bs z hz; omega) hm hm1 (fun n => by rw [val_map, val_map, ← hb n]; grind) (fun n => by rw [hv, pd_val, pd_val, vh, val_map]; grind) (fun n => by rw [pd_val, pd_val, vr]; grind)
    refine .inr (.inr ⟨A0, B0, c1, c2, bA, bB, _, _, tw, ?_⟩)
    rw [er]
    have ec : contL (p.map (fun z => e * z) ++ q) = contL (p ++ q) := cont_sign fun d => by
      constructor
      · intro hd x hx
        have := hd (e * x) (List.mem_map.mpr ⟨x, hx, rfl⟩)
        rcases he with rfl | rfl
        · rwa [Int.one_mul] at this
        · rw [Int.neg_mul, Int.one_mul] at this; exact Int.dvd_neg.mp this
      · intro hd x hx
        obtain ⟨y, hy, rfl⟩ := List.mem_map.mp hx
        exact Int.dvd_trans (hd y hy) (Int.dvd_mul_left _ _)
    rw [ec]
    congr 1
    refine nml_val (pd_nml _ _) (nml_of_last (.inr ?_)) fun n => ?_
    · rw [List.length_map, co_mapc]
      refine Int.mul_ne_zero ?_ (co_last (pd_nml _ _) (pd_ne ng ns g0 s0))
      intro z
      have hz : contL (p ++ q) = 0 := by omega
      have h1 := cont_pos np p0
      have h2 : contL (p ++ q) ∣ contL p := dvd_cont _ _ fun x hx => cont_dvd _ x (by simp [hx])
      rw [hz] at h2
      have := Nat.eq_zero_of_zero_dvd h2
      omega
    · rw [pd_val, val_map, val_map, pd_val]; grind

/-! #### k35: all of it together -/
theorem chn_f {g : List Int} (ng : Nml g) (g0 : g ≠ []) (lg : g.length ≤ 3) (bg : ∀ z ∈ g, z.natAbs ≤ 50 * 10 ^ 20) : ∀ (rs : List (List Int)) (h h' : List Int), Sml h → (∀ r ∈ rs, Sml r) → Chn h rs h' →
    ∃ f : Nat → List Int, f 0 = uprL (pdL g h) ∧ (∀ i r, (rs.map (pdL g))[i]? = some r → CommonIs (f i) r (f (i + 1))) ∧ f rs.length = uprL (pdL g h') ∧ ∀ i, (f i).length ≤ 1000
  | [], h, h', sh, _, c => by
    have e : h = h' := c
    refine ⟨fun _ => uprL (pdL g h), rfl, fun i r z => by simp at z, by rw [e], fun _ => ?_⟩
    have := pd_len ng sh.1
    have := sh.2.1
    rw [upr_len]; omega
  | r :: rs, h, h', sh, hr, c => by
    obtain ⟨k, st, sk, c⟩ := c
    obtain ⟨f, f0, fs, fe, fl⟩ := chn_f ng g0 lg bg rs k h' sk (fun x hx => hr x (by simp [hx])) c
    refine ⟨fun i => if i = 0 then uprL (pdL g h) else f (i - 1), rfl, fun i x z => ?_, ?_, fun i => ?_⟩
    · cases i with
      | zero =>
        simp only [List.map_cons, List.getElem?_cons_zero, Option.some.injEq] at z
        subst z
        show CommonIs (uprL (pdL g h)) (pdL g r) (f 0)
        rw [f0]
        exact com_stq ng g0 lg bg sh (hr r (by simp)) sk st
      | succ i =>
        simp only [List.map_cons, List.getElem?_cons_succ] at z
        exact fs i x z
    · show f (rs.length + 1 - 1) = _
      rw [Nat.add_sub_cancel]; exact fe
    · show (if i = 0 then uprL (pdL g h) else f (i - 1)).length ≤ 1000
      by_cases z : i = 0
      · rw [if_pos z, upr_len]
        have := pd_len ng sh.1
        have := sh.2.1
        omega
      · rw [if_neg z]; exact fl _
def go (f : List Int) : Prop := hd f ≠ 0 ∧ ∀ y ∈ f, 0 ≤ y * hd f
/-- the common factor of k35 -/
structure Fac (f : List Int) : Prop where
  n : Nml f
  l : f.length ≤ 3
  b : ∀ z ∈ f, z.natAbs ≤ 50
  ne : f ≠ []
  top : co f (f.length - 1) = 1
structure Parts (ps : List (List Int)) : Prop where
  s : ∀ p ∈ ps, Sml p
  one : (ps.filter fun r => decide (2 < r.length)).length ≤ 1
  u : ∃ h ∈ ps, ∃ t ∈ ps, ∃ m : List Int, ∀ n, val n t = val n h * val n m + 1
def scl (c : Int) (xs : List Int) : List Int := xs.map fun z => c * z
theorem scl_val (c : Int) (xs : List Int) (n : Int) : val n (scl c xs) = c * val n xs := val_map n c xs
theorem scl_co (c : Int) (xs : List Int) (j : Nat) : co (scl c xs) j = c * co xs j := co_mapc c xs j
theorem scl_len (c : Int) (xs : List Int) : (scl c xs).length = xs.length := List.length_map ..
theorem scl_ne {c : Int} {xs : List Int} (h : xs ≠ []) : scl c xs ≠ [] := fun z => h (List.eq_nil_of_length_eq_zero (by rw [← scl_len c, z]; rfl))
theorem scl_nml {c : Int} {xs : List Int} (hc : c ≠ 0) (h : Nml xs) : Nml (scl c xs) := by
  by_cases z : xs = []
  · rw [z]; exact nml_nil
  · exact nml_of_last (.inr (by rw [scl_len, scl_co]; exact Int.mul_ne_zero hc (co_last h z)))
theorem scl_mem {c x : Int} {xs : List Int} (h : x ∈ scl c xs) : ∃ y ∈ xs, x = c * y := by
  obtain ⟨y, hy, e⟩ := List.mem_map.mp h
  exact ⟨y, hy, e.symm⟩
theorem com35 {f : List Int} {ps : List (List Int)} {c : Int} (F : Fac f) (hP : Parts ps) (c0 : c ≠ 0) (cb : c.natAbs ≤ 10 ^ 20) :
    ∃ fn : Nat → List Int, fn 0 = [] ∧ (∀ i r, (ps.map (pdL (scl c f)))[i]? = some r → CommonIs (fn i) r (fn (i + 1))) ∧ fn ps.length = scl c.natAbs f ∧ ∀ i, (fn i).length ≤ 1000 := by
  have s0 : Sml [] := ⟨nml_nil, by simp, by simp⟩
  obtain ⟨h', ch, sh, _, dv⟩ := chn_ex ps [] s0 hP.s (.inl (by simp)) hP.one
  have ng := scl_nml c0 F.n
  have g0 := scl_ne (c := c) F.ne
  obtain ⟨fn, f0, fs, fe, fl⟩ := chn_f ng g0 (by rw [scl_len]; exact F.l) (fun z hz => by
    obtain ⟨y, hy, rfl⟩ := scl_mem hz
    have := F.b y hy
    rw [Int.natAbs_mul, Nat.mul_comm]
    exact Nat.mul_le_mul this cb) ps [] h' s0 hP.s ch
  refine ⟨fn, by rw [f0, pd_nil]; rfl, fs, ?_, fl⟩
  rw [fe]
  obtain ⟨h, hh, t, ht, m, hm⟩ := hP.u
  obtain ⟨x, hx⟩ := dv h hh
  obtain ⟨y, hy⟩ := dv t ht
  have hu : h' = [1] ∨ h' = [-1] := unit_of (x := addP y (mulP (scl (-1) x) m)) sh.1 fun n => by
    have e := hm n
    rw [hx n, hy n] at e
    rw [val_addP, val_mulP, scl_val]
    grind
  obtain ⟨e, he, hv⟩ : ∃ e : Int, (e = 1 ∨ e = -1) ∧ ∀ n, val n h' = e := by
    rcases hu with rfl | rfl
    · exact ⟨1, .inl rfl, fun n => by simp [val]⟩
    · exact ⟨-1, .inr rfl, fun n => by simp [val]⟩
  have ca : ∃ d : Int, (d = 1 ∨ d = -1) ∧ (c.natAbs : Int) = d * c := by
    rcases Int.natAbs_eq c with z | z
    · exact ⟨1, .inl rfl, by omega⟩
    · exact ⟨-1, .inr rfl, by omega⟩
  obtain ⟨d, hd, hc⟩ := ca
  have cn : (c.natAbs : Int) ≠ 0 := by omega
  symm
  refine upr_val_of (e := d * e) (pd_nml _ _) (scl_nml cn F.n) (by rcases hd with rfl | rfl <;> rcases he with rfl | rfl <;> simp) (fun n => ?_) fun _ => ?_
  · rw [scl_val, pd_val, scl_val, hv n, hc]
    have : e * e = 1 := by rcases he with rfl | rfl <;> rfl
    grind
  · rw [scl_len, scl_co, F.top]; omega
theorem shift_zero (xs : List Int) : shiftL 0 xs = xs := co_ext (shift_len 0 xs) fun k _ => co_of_val (fun n => by rw [val_shift]; simp) k
theorem clr35 {f : List Int} {c : Nat} (hc : c ≠ 0) : clr 0 (scl c f) = true ↔ go f := by
  rw [clr_iff, shift_zero]
  unfold Clear go
  have hd' : hd (scl c f) = c * hd f := by rw [hd_co, hd_co, scl_co]
  rw [hd']
  have cp : (0 : Int) < c := by omega
  have sq : ∀ y : Int, (c : Int) * y * (c * hd f) = (c * c) * (y * hd f) := fun y => by grind
  have cc : (0 : Int) < (c : Int) * c := Int.mul_pos cp cp
  constructor
  · rintro ⟨h1, h2⟩
    refine ⟨fun z => h1 (by rw [z]; simp), fun y hy => ?_⟩
    have := h2 (c * y) (List.mem_map.mpr ⟨y, hy, rfl⟩)
    rw [sq] at this
    exact Int.nonneg_of_mul_nonneg_right this cc
  · rintro ⟨h1, h2⟩
    refine ⟨Int.mul_ne_zero (by omega) h1, fun y hy => ?_⟩
    obtain ⟨z, hz, rfl⟩ := scl_mem hy
    rw [sq]
    exact Int.mul_nonneg (by omega) (h2 z hz)
theorem Fac.one {f : List Int} (F : Fac f) : (1 : Int) ∈ f := by
  have := F.top
  have l0 := List.length_pos_iff.mpr F.ne
  rw [co_lt (by omega)] at this
  rw [← this]; exact List.getElem_mem _
theorem cont_scl {f : List Int} {c : Nat} (h : (1 : Int) ∈ f) : contL (scl c f) = c := by
  refine Nat.dvd_antisymm ?_ (dvd_cont _ _ fun x hx => ?_)
  · have := cont_dvd (scl c f) (c * 1) (List.mem_map.mpr ⟨1, h, rfl⟩)
    rw [Int.mul_one] at this
    exact Int.natCast_dvd_natCast.mp this
  · obtain ⟨y, _, rfl⟩ := scl_mem hx
    exact Int.dvd_mul_right _ _
/-- what thinned divides by -/
def thinS (R l : List Int) : List Int :=
  let s := if clr 0 R = true then R else [((contL R : Nat) : Int)]
  if l ≠ [] ∧ co l (l.length - 1) < 0 then s.map (fun x => -x) else s
/-- what is due ahead of the sign -/
def due0 (f s : List Int) (b : Bool) : List Int := if b then s else pdL s f
def sgn (l : List Int) (c : Int) : Int := if l ≠ [] then (if co l (l.length - 1) < 0 then -1 else 1) else if c < 0 then -1 else 1
theorem due0_ne {f s : List Int} {b : Bool} (F : Fac f) (ns : Nml s) : due0 f s b = [] ↔ s = [] := by
  unfold due0
  split
  · rfl
  · constructor
    · intro z
      exact Classical.byContradiction fun y => pd_ne ns F.n y F.ne z
    · rintro rfl
      exact nml_val (pd_nml _ _) nml_nil fun n => by rw [pd_val]; simp [val]
theorem pd_top {s f : List Int} (ns : Nml s) (nf : Nml f) (s0 : s ≠ []) (f0 : f ≠ []) : co (pdL s f) ((pdL s f).length - 1) = co s (s.length - 1) * co f (f.length - 1) := by
  have hd : Div (pdL s f) s f := fun k => pd_co s f k
  obtain ⟨_, l⟩ := div_len ns s0 (pd_nml s f) nf hd (pd_ne ns nf s0 f0)
  have l1 := List.length_pos_iff.mpr s0
  have l2 := List.length_pos_iff.mpr f0
  rw [show (pdL s f).length - 1 = f.length - 1 + (s.length - 1) by omega, pd_co, pm_top (fun j hj => co_ge (by omega)) (fun j hj => co_ge (by omega))]
theorem due0_top {f s : List Int} {b : Bool} (F : Fac f) (ns : Nml s) (s0 : s ≠ []) : co (due0 f s b) ((due0 f s b).length - 1) = co s (s.length - 1) := by
  unfold due0
  split
  · rfl
  · rw [pd_top ns F.n s0 F.ne, F.top, Int.mul_one]
theorem due0_nml {f s : List Int} {b : Bool} (ns : Nml s) : Nml (due0 f s b) := by
  unfold due0
  split
  · exact ns
  · exact pd_nml _ _
theorem thin35 {f s l : List Int} {c : Int} {b : Bool} (F : Fac f) (hb : b = true ↔ go f) (c0 : c ≠ 0) (nl : Nml l) (ns : Nml s) :
    Nml (scl (sgn (due0 f l b) c) (due0 f s b)) ∧ Div (pdL (scl c f) s) (thinS (scl c.natAbs f) (pdL (scl c f) l)) (scl (sgn (due0 f l b) c) (due0 f s b)) := by
  have cn : c.natAbs ≠ 0 := by omega
  have s1 : sgn (due0 f l b) c = 1 ∨ sgn (due0 f l b) c = -1 := by unfold sgn; split <;> split <;> simp
  refine ⟨scl_nml (by omega) (due0_nml ns), div_val.mpr fun n => ?_⟩
  rw [pd_val, scl_val, scl_val]
  have nF := scl_nml c0 F.n
  have neF := scl_ne (c := c) F.ne
  -- the sign
  obtain ⟨e, he, ee⟩ : ∃ e : Int, (∀ n, val n (thinS (scl c.natAbs f) (pdL (scl c f) l)) = e * if b then c.natAbs * val n f else c.natAbs) ∧ c = e * c.natAbs * sgn (due0 f l b) c := by
    have base : ∀ n, val n (if clr 0 (scl c.natAbs f) = true then scl c.natAbs f else [((contL (scl c.natAbs f) : Nat) : Int)]) = if b then c.natAbs * val n f else c.natAbs := fun n => by
      rw [cont_scl F.one]
      by_cases z : b = true
      · rw [if_pos ((clr35 cn).mpr (hb.mp z)), if_pos z, scl_val]
      · rw [if_neg (fun y => z (hb.mpr ((clr35 cn).mp y))), if_neg z]; simp [val]
    have top : l ≠ [] → co (pdL (scl c f) l) ((pdL (scl c f) l).length - 1) = c * co l (l.length - 1) := fun l0 => by
      rw [pd_top nF nl neF l0, scl_len, scl_co, F.top, Int.mul_one]
    have lne : pdL (scl c f) l ≠ [] ↔ l ≠ [] := ⟨fun z y => z (by rw [y, pd_nil]), fun z => pd_ne nF nl neF z⟩
    have dne : due0 f l b ≠ [] ↔ l ≠ [] := not_congr (due0_ne F nl)
    unfold thinS
    by_cases l0 : l = []
    · refine ⟨1, fun n => ?_, ?_⟩
      · rw [if_neg (fun z => lne.mp z.1 l0), base n, Int.one_mul]
      · unfold sgn
        rw [if_neg (fun z => dne.mp z l0)]
        split <;> omega
    · have t0 := co_last nl l0
      have tp := top l0
      have td := due0_top (b := b) F nl l0
      by_cases z : co (pdL (scl c f) l) ((pdL (scl c f) l).length - 1) < 0
      · refine ⟨-1, fun n => ?_, ?_⟩
        · rw [if_pos ⟨lne.mpr l0, z⟩, ← base n]
          have := val_map n (-1) (if clr 0 (scl c.natAbs f) = true then scl c.natAbs f else [((contL (scl c.natAbs f) : Nat) : Int)])
          rw [← this]; congr 2; funext x; omega
        · unfold sgn
          rw [if_pos (dne.mpr l0), td]
          rw [tp] at z
          by_cases y : co l (l.length - 1) < 0
          · rw [if_pos y]
            have : 0 < c := by
              rcases Int.lt_trichotomy c 0 with w | w | w
              · have := Int.mul_pos_of_neg_of_neg w y; omega
              · exact absurd w c0
              · exact w
            omega
          · rw [if_neg y]
            have : c < 0 := by
              rcases Int.lt_trichotomy c 0 with w | w | w
              · exact w
              · exact absurd w c0
              · have := Int.mul_pos w (show 0 < co l (l.length - 1) by omega); omega
            omega
      · refine ⟨1, fun n => ?_, ?_⟩
        · rw [if_neg (fun y => z y.2), base n, Int.one_mul]
        · unfold sgn
          rw [if_pos (dne.mpr l0), td]
          rw [tp] at z
          by_cases y : co l (l.length - 1) < 0
          · rw [if_pos y]
            have : c < 0 := by
              rcases Int.lt_trichotomy c 0 with w | w | w
              · exact w
              · exact absurd w c0
              · have := Int.mul_neg_of_pos_of_neg w y; omega
            omega
          · rw [if_neg y]
            have : 0 < c := by
              rcases Int.lt_trichotomy c 0 with w | w | w
              · have := Int.mul_neg_of_neg_of_pos w (show 0 < co l (l.length - 1) by omega); omega
              · exact absurd w c0
              · exact w
            omega
  rw [he n]
  generalize sgn (due0 f l b) c = sg at ee
  unfold due0
  cases b
  · simp only [Bool.false_eq_true, if_false]
    rw [pd_val]
    generalize val n f = x
    generalize val n s = y
    generalize (c.natAbs : Int) = d at ee
    rw [ee]; grind
  · simp only [if_true]
    generalize val n f = x
    generalize val n s = y
    generalize (c.natAbs : Int) = d at ee
    rw [ee]; grind
theorem fac_one : Fac [1] ∧ (true = true ↔ go [1]) := ⟨⟨nml_one1 [], by simp, by simp, by simp, rfl⟩, by simp [go, hd]⟩
theorem fac_lin {a : Int} (h : a.natAbs ≤ 6) : Fac [a, 1] ∧ (decide (0 < a) = true ↔ go [a, 1]) := by
  refine ⟨⟨nml_one1 [a], by simp, fun z hz => by simp at hz; omega, by simp, rfl⟩, ?_⟩
  rw [decide_eq_true_iff]
  unfold go
  simp only [hd, List.headD_cons, List.mem_cons, List.not_mem_nil, or_false, forall_eq_or_imp, forall_eq, Int.one_mul]
  constructor
  · intro z; exact ⟨by omega, Int.mul_nonneg (by omega) (by omega), by omega⟩
  · rintro ⟨z1, _, z2⟩; omega
theorem fac_two {a b : Int} (h : a.natAbs ≤ 6) (h2 : b.natAbs ≤ 6) : Fac (pdL [a, 1] [b, 1]) ∧ ((0 < a ∧ 0 < b) ↔ go (pdL [a, 1] [b, 1])) := by
  have e : pdL [a, 1] [b, 1] = [a * b, a + b, 1] := nml_val (pd_nml _ _) (nml_one1 [a * b, a + b]) fun n => by rw [pd_val]; simp only [val]; grind
  rw [e]
  have ab : (a * b).natAbs ≤ 36 := by rw [Int.natAbs_mul]; exact Nat.mul_le_mul h h2
  refine ⟨⟨nml_one1 [a * b, a + b], by simp, fun z hz => ?_, by simp, rfl⟩, ?_⟩
  · simp at hz; rcases hz with rfl | rfl | rfl <;> omega
  unfold go
  simp only [hd, List.headD_cons, List.mem_cons, List.not_mem_nil, or_false, forall_eq_or_imp, forall_eq, Int.one_mul]
  constructor
  · rintro ⟨z1, z2⟩
    have := Int.mul_pos z1 z2
    exact ⟨by omega, Int.mul_nonneg (by omega) (by omega), Int.mul_nonneg (by omega) (by omega), by omega⟩
  · rintro ⟨z1, _, z2, z3⟩
    have p : 0 < a * b := by omega
    have q : 0 ≤ a + b := Int.nonneg_of_mul_nonneg_left z2 p
    rcases Int.lt_trichotomy a 0 with w | w | w
    · have : ¬ 0 ≤ b := fun y => by have := Int.mul_nonpos_of_nonpos_of_nonneg (show a ≤ 0 by omega) y; omega
      omega
    · rw [w, Int.zero_mul] at p; omega
    · have : ¬ b ≤ 0 := fun y => by have := Int.mul_nonpos_of_nonneg_of_nonpos (show 0 ≤ a by omega) y; omega
      omega
theorem fac_sq {a e : Int} (h : a.natAbs ≤ 6) (e0 : 0 ≤ e) (e4 : e ≤ 4) : Fac [a * a + 1 + e, -2 * a, 1] ∧ (decide (a ≤ 0) = true ↔ go [a * a + 1 + e, -2 * a, 1]) := by
  have aa : (a * a).natAbs ≤ 36 := by rw [Int.natAbs_mul]; exact Nat.mul_le_mul h h
  have a0 : 0 ≤ a * a := by rcases Int.le_total 0 a with w | w; exact Int.mul_nonneg w w; exact Int.mul_nonneg_of_nonpos_of_nonpos w w
  refine ⟨⟨nml_one1 [a * a + 1 + e, -2 * a], by simp, fun z hz => ?_, by simp, rfl⟩, ?_⟩
  · simp at hz; rcases hz with rfl | rfl | rfl <;> omega
  rw [decide_eq_true_iff]
  unfold go
  simp only [hd, List.headD_cons, List.mem_cons, List.not_mem_nil, or_false, forall_eq_or_imp, forall_eq, Int.one_mul]
  have p : 0 < a * a + 1 + e := by omega
  generalize a * a + 1 + e = x at p
  constructor
  · intro z; exact ⟨by omega, Int.mul_nonneg (by omega) (by omega), Int.mul_nonneg (by omega) (by omega), by omega⟩
  · rintro ⟨_, _, z, _⟩
    have := Int.nonneg_of_mul_nonneg_left z p
    omega
theorem parts_of {h t m : List Int} {rest : List (List Int)} (hh : Sml h) (h2 : h.length ≤ 2) (ht : Sml t) (vt : ∀ n, val n t = val n h * val n m + 1) (hr : ∀ r ∈ rest, Sml r ∧ r.length ≤ 2) : Parts (h :: t :: rest) := by
  have e : rest.filter (fun r => decide (2 < r.length)) = [] := List.filter_eq_nil_iff.mpr fun r hr' => by have := (hr r hr').2; simp; omega
  refine ⟨fun p hp => ?_, ?_, h, by simp, t, by simp, m, vt⟩
  · rcases List.mem_cons.mp hp with rfl | hp
    · exact hh
    · rcases List.mem_cons.mp hp with rfl | hp
      · exact ht
      · exact (hr p hp).1
  · rw [List.filter_cons, if_neg (by simp; omega), List.filter_cons]
    split <;> simp [e]
theorem parts_rot {ps : List (List Int)} (k : Nat) (h : Parts ps) : Parts (ps.drop k ++ ps.take k) := by
  have mem : ∀ p, p ∈ ps.drop k ++ ps.take k ↔ p ∈ ps := fun p => by
    conv => rhs; rw [← List.take_append_drop k ps]
    simp only [List.mem_append]; exact Or.comm
  obtain ⟨a, ha, t, ht, m, hm⟩ := h.u
  refine ⟨fun p hp => h.s p ((mem p).mp hp), ?_, a, (mem a).mpr ha, t, (mem t).mpr ht, m, hm⟩
  have := h.one
  rw [← List.take_append_drop k ps, List.filter_append, List.length_append] at this
  rw [List.filter_append, List.length_append]; omega

/-! #### common_of -/
def spComOf (K : PySem.W.Frag) : Sp := fun vs H Q _ => ∃ (R : Addr) (as : List Addr) (rows : List (List Int)) (f : Nat → List Int), vs = [.ref R] ∧ SqL K H R (as.map V.ref) ∧ LL K H as rows ∧ rows.length ≤ 1000 ∧ (∀ r ∈ rows, r.length ≤ 1000) ∧ (∀ i, (f i).length ≤ 1000) ∧
  f 0 = [] ∧ (∀ i r, rows[i]? = some r → CommonIs (f i) r (f (i + 1))) ∧ newL H Q ((f rows.length).map V.int)
theorem ok_common_of {P : Program} {w : World} {K : PySem.W.Frag} {mg : Str → Option Value} {base : Heap} (T : Tx K mg) : FnOk P w K mg base CX0 6 T.a_common_of T.fd_common_of ["polys"] (spComOf K) := by
  refine T.F_common_of.ok sc_common_of (fun vs H Q E h => ?_) (fun cdv A outer s H vs Q E hr h => ?_)
  · obtain ⟨R, as, rows, f, rfl, _⟩ := h
    rfl
  obtain ⟨R, as, rows, f, rfl, hR, hL, lr, br, bf, f0, fs, q⟩ := h
  refine ⟨_, ((pss_cons (ps_set (i := 1) sc_common_of.nd rfl (Or.inl rfl) (pe_lst pa_nil))
    (pss_cons (ps_for PassesOwn.never rfl (pi_list (pv 0)) (pg_name (i := 2) sc_common_of.nd rfl (Or.inl rfl)) (pss_one (ps_set (i := 1) sc_common_of.nd rfl (Or.inl rfl) (pe_call (FnOk.mono (ok_common T) (by decide)) hr rfl T.m_common T.F_common.kp T.b_common .nil pass0 (pa_cons (pv 1) (pa_cons (pv 2) pa_nil))))))
    (pss_one (ps_ret (pv 1)))))), ?_⟩
  simp only [a_izip, a_drop_nx, a_raise, a_seq, a_next, a_drop, a_ret, a_retN, a_if, a_asg, a_gname, a_gsub, a_gtup, a_gnil, a_gcons, a_aug, a_augS, a_ipI, a_var, a_c, a_op, a_un, a_rI, a_rI0, a_rU, a_eqI, a_neI, a_eqB, a_neB, a_tB, a_test, a_and, a_or, a_not, a_andV, a_orV, a_notV, a_nil, a_cons, a_lst, a_tup, a_call, a_cb, a_bm0, a_bm, a_sl, a_nopart, a_part, a_tyI, a_for, a_comp, a_ilist, a_irng1, a_irng2, a_irng3, a_cxK, and_assoc, a_irev, a_ienum, a_cat, a_rep, a_pop, a_clear, a_rslL, a_ixL, a_ixT, a_setL, a_app,
    List.getElem?_cons_zero, List.getElem?_cons_succ, List.set_cons_zero, List.set_cons_succ, Option.some.injEq, V.int.injEq, V.bl.injEq, V.ref.injEq, V.ty.injEq, exists_eq_left', exists_eq_left, exists_and_left, decide_eq_true_eq, List.cons_append, List.nil_append, List.append_nil, List.cons.injEq, and_true, true_and, Bool.not_eq_true', decide_eq_false_iff_not, ite_true, ite_false, Bool.false_eq_true, if_true, if_false, List.length_cons, List.length_nil, L2.start, List.map_cons, List.map_nil, List.replicate_succ, List.replicate_zero]
  refine ⟨Nat.zero_le _, fun X0 hX => ?_⟩
  have s1 := same_upd hX (.lst [])
  refine ⟨⟨_, s1.seq hR⟩, ?_⟩
  obtain ⟨Pv, hPv⟩ : ∃ Pv : Nat → L2.St → Hp → Prop, ∀ i σ H', Pv i σ H' ↔ ∃ (X : Addr) (r2 : Option V), σ = [some (V.ref R), some (V.ref X), r2] ∧ H' X = some (.lst ((f i).map V.int)) ∧ H X = none ∧ Same H H' := ⟨_, fun _ _ _ => Iff.rfl⟩
  refine lp_list (xs := as.map V.ref) Pv ((hPv _ _ _).mpr ⟨X0, _, rfl, by rw [upd_same, f0]; rfl, hX, s1⟩) (fun i σ H' _ z => by obtain ⟨_, _, _, _, _, z⟩ := (hPv i σ H').mp z; exact z.seq hR) ?_ ?_
  · intro i v σ H' hv hp
    obtain ⟨X, r2, rfl, eX, nX, sP⟩ := (hPv _ _ _).mp hp
    obtain ⟨a, r, rfl, ha, hr', hA⟩ := hL.nth hv
    simp only [a_izip, a_drop_nx, a_raise, a_seq, a_next, a_drop, a_ret, a_retN, a_if, a_asg, a_gname, a_gsub, a_gtup, a_gnil, a_gcons, a_aug, a_augS, a_ipI, a_var, a_c, a_op, a_un, a_rI, a_rI0, a_rU, a_eqI, a_neI, a_eqB, a_neB, a_tB, a_test, a_and, a_or, a_not, a_andV, a_orV, a_notV, a_nil, a_cons, a_lst, a_tup, a_call, a_cb, a_bm0, a_bm, a_sl, a_nopart, a_part, a_tyI, a_for, a_comp, a_ilist, a_irng1, a_irng2, a_irng3, a_cxK, and_assoc, a_irev, a_ienum, a_cat, a_rep, a_pop, a_clear, a_rslL, a_ixL, a_ixT, a_setL, a_app,
    List.getElem?_cons_zero, List.getElem?_cons_succ, List.set_cons_zero, List.set_cons_succ, Option.some.injEq, V.int.injEq, V.bl.injEq, V.ref.injEq, V.ty.injEq, exists_eq_left', exists_eq_left, exists_and_left, decide_eq_true_eq, List.cons_append, List.nil_append, List.append_nil, List.cons.injEq, and_true, true_and, Bool.not_eq_true', decide_eq_false_iff_not, ite_true, ite_false, Bool.false_eq_true, if_true, if_false, List.length_cons, List.length_nil, L2.start, List.map_cons, List.map_nil, List.replicate_succ, List.replicate_zero]
    exact com_of (SqL.of eX) (sP.seq hA) (bf i) (br r (List.mem_of_getElem? hr')) (fs i r hr') fun Y H2 s2 nY eY => (hPv _ _ _).mpr ⟨Y, _, rfl, eY, sP.free nY, sP.trans s2⟩
  · intro σ H' hp
    obtain ⟨X, r2, rfl, eX, nX, sP⟩ := (hPv _ _ _).mp hp
    simp only [a_izip, a_drop_nx, a_raise, a_seq, a_next, a_drop, a_ret, a_retN, a_if, a_asg, a_gname, a_gsub, a_gtup, a_gnil, a_gcons, a_aug, a_augS, a_ipI, a_var, a_c, a_op, a_un, a_rI, a_rI0, a_rU, a_eqI, a_neI, a_eqB, a_neB, a_tB, a_test, a_and, a_or, a_not, a_andV, a_orV, a_notV, a_nil, a_cons, a_lst, a_tup, a_call, a_cb, a_bm0, a_bm, a_sl, a_nopart, a_part, a_tyI, a_for, a_comp, a_ilist, a_irng1, a_irng2, a_irng3, a_cxK, and_assoc, a_irev, a_ienum, a_cat, a_rep, a_pop, a_clear, a_rslL, a_ixL, a_ixT, a_setL, a_app,
    List.getElem?_cons_zero, List.getElem?_cons_succ, List.set_cons_zero, List.set_cons_succ, Option.some.injEq, V.int.injEq, V.bl.injEq, V.ref.injEq, V.ty.injEq, exists_eq_left', exists_eq_left, exists_and_left, decide_eq_true_eq, List.cons_append, List.nil_append, List.append_nil, List.cons.injEq, and_true, true_and, Bool.not_eq_true', decide_eq_false_iff_not, ite_true, ite_false, Bool.false_eq_true, if_true, if_false, List.length_cons, List.length_nil, L2.start, List.map_cons, List.map_nil, List.replicate_succ, List.replicate_zero]
    rw [List.length_map, hL.len] at eX
    exact q X _ sP nX eX

/-! #### comprehensions over a list of numbers, over a list of lists -/
def newLL (H : Hp) (Q : VK) (ds : List (List Int)) : Prop := ∀ (D : Addr) (bs : List Addr) H', Same H H' → H D = none → H' D = some (.lst (bs.map V.ref)) → LH H' bs ds → (∀ b ∈ bs, H b = none) → D ∉ bs → bs.Nodup → Q (.ref D) H'
theorem cl_ints {K : PySem.W.Frag} {a : Addr} {xs : List Int} {g : Int → Int} {fv : List (Nat × Str)} {te : TE} {Q : VK} {σ : L2.St} {H1 : Hp} {D : Addr} (nD : H1 D = none) (hA : SqL K H1 a (xs.map V.int)) (hl : xs.length ≤ 900)
    (hs : ∀ x ∈ xs, ∀ Hx R, Same H1 Hx → R (.int (g x)) Hx → te (bst fv σ (some (V.int x))) Hx R) (he : newL H1 Q ((xs.map g).map V.int)) : CLoop (Itl K a) fv te Q σ H1 D := by
  obtain ⟨Pc, hPc⟩ : ∃ Pc : Nat → Hp → Prop, ∀ i H', Pc i H' ↔ H' D = some (.lst (((xs.take i).map g).map V.int)) ∧ Same H1 H' := ⟨_, fun _ _ => Iff.rfl⟩
  refine cl_list (xs := xs.map V.int) Pc ((hPc _ _).mpr ⟨by rw [upd_same]; rfl, same_upd nD _⟩) (fun i Hx _ z => ((hPc i Hx).mp z).2.seq hA) ?_ ?_
  · intro i v Hx hv hc
    obtain ⟨k1, k2⟩ := (hPc _ _).mp hc
    have hi : i < xs.length := by have := (List.getElem?_eq_some_iff.mp hv).1; rw [List.length_map] at this; exact this
    rw [List.getElem?_map, List.getElem?_eq_getElem hi] at hv
    obtain rfl : V.int xs[i] = v := Option.some.inj hv
    have et : xs.take (i + 1) = xs.take i ++ [xs[i]] := by rw [List.take_succ, List.getElem?_eq_getElem hi]; rfl
    refine hs _ (List.getElem_mem hi) Hx _ k2 ⟨_, k1, small1000 (by simp; omega), (hPc _ _).mpr ⟨?_, k2.more nD⟩⟩
    rw [upd_same, et, List.map_append, List.map_append]; rfl
  intro H' hc
  obtain ⟨k1, k2⟩ := (hPc _ _).mp hc
  rw [List.length_map, List.take_length] at k1
  exact he D H' k2 nD k1
theorem cl_ll {K : PySem.W.Frag} {a : Addr} {as : List Addr} {ps ds : List (List Int)} {fv : List (Nat × Str)} {te : TE} {Q : VK} {σ : L2.St} {H1 : Hp} {D : Addr} (nD : H1 D = none) (hA : SqL K H1 a (as.map V.ref)) (hL : LL K H1 as ps) (hd : ds.length = ps.length) (hl : ps.length ≤ 900)
    (hs : ∀ (i : Nat) (b : Addr) (p d : List Int) (Hx : Hp) (R : VK), ps[i]? = some p → ds[i]? = some d → Same H1 Hx → SqL K Hx b (p.map V.int) → newL Hx R (d.map V.int) → te (bst fv σ (some (V.ref b))) Hx R) (he : newLL H1 Q ds) : CLoop (Itl K a) fv te Q σ H1 D := by
  obtain ⟨Pc, hPc⟩ : ∃ Pc : Nat → Hp → Prop, ∀ j Hx, Pc j Hx ↔ ∃ bs : List Addr, Hx D = some (.lst (bs.map V.ref)) ∧ LH Hx bs (ds.take j) ∧ D ∉ bs ∧ bs.Nodup ∧ (∀ b ∈ bs, H1 b = none) ∧ Same H1 Hx := ⟨_, fun _ _ => Iff.rfl⟩
  refine cl_list (xs := as.map V.ref) Pc ((hPc _ _).mpr ⟨[], upd_same, LH.nil _, by simp, List.nodup_nil, by simp, same_upd nD _⟩) (fun i Hx _ z => by obtain ⟨_, _, _, _, _, _, z⟩ := (hPc i Hx).mp z; exact z.seq hA) ?_ ?_
  · intro j v Hx hv hc
    obtain ⟨bs, k1, k2, k3, k4, k5, k6⟩ := (hPc _ _).mp hc
    obtain ⟨b, p, rfl, hb, hp, hB⟩ := hL.nth hv
    have hj : j < ps.length := (List.getElem?_eq_some_iff.mp hp).1
    have hdj : ds[j]? = some ds[j] := List.getElem?_eq_getElem (by omega)
    refine hs j b p _ Hx _ hp hdj k6 (k6.seq hB) fun F H2 s2 nF eF => ?_
    have lk := k2.len
    rw [List.length_take] at lk
    have nFD : F ≠ D := fun z => by rw [z, k1] at nF; cases nF
    have nFb : F ∉ bs := k2.notin nF
    have m1 : D ∉ bs ++ [F] := fun z => by
      rcases List.mem_append.mp z with z | z
      · exact k3 z
      · exact nFD (List.mem_singleton.mp z).symm
    refine ⟨_, s2 _ _ k1, by rw [List.length_map]; exact small1000 (by omega), (hPc _ _).mpr ⟨bs ++ [F], by rw [upd_same]; simp, ?_, m1, ?_, ?_, (k6.trans s2).more nD⟩⟩
    · have e : ds.take (j + 1) = ds.take j ++ [ds[j]] := by rw [List.take_succ, hdj]; rfl
      rw [e]
      exact ((k2.same s2).snoc eF).upd m1
    · exact List.nodup_append.mpr ⟨k4, by simp, fun x hx y hy z => nFb (by rw [List.mem_singleton.mp hy] at z; rw [← z]; exact hx)⟩
    · intro x hx
      rcases List.mem_append.mp hx with z | z
      · exact k5 x z
      · rw [List.mem_singleton.mp z]; exact k6.free nF
  · intro H' hc
    obtain ⟨bs, k1, k2, k3, k4, k5, k6⟩ := (hPc _ _).mp hc
    rw [List.length_map, hL.len, ← hd, List.take_length] at k2
    exact he D bs H' k6 nD k1 k2 k5 k3 k4
theorem pi_listK {X : Cx} {K : PySem.W.Frag} {tg l : Expr} {tl : TE} (hK : X.K = K) (hl : PE X l tl) : PI X tg l (iList K tl) := by subst hK; exact pi_list hl

/-! #### _law_cut -/
theorem trim_drop {xs : List Int} (h : xs ≠ []) (h0 : xs.getLast h = 0) : trim xs.dropLast = trim xs := by
  have e := List.dropLast_concat_getLast h
  rw [h0] at e
  conv => rhs; rw [← e]
  rw [trim_zero]
theorem ok__law_cut {P : Program} {w : World} {K : PySem.W.Frag} {mg : Str → Option Value} {base : Heap} (T : Tx K mg) : FnOk P w K mg base CX0 1 T.a__law_cut T.fd__law_cut ["_law_numbers"] (spTrim K) := by
  refine T.F__law_cut.ok sc__law_cut (fun vs H Q E h => ?_) (fun cdv A outer s H vs Q E hr h => ?_)
  · obtain ⟨a, xs, rfl, _⟩ := h
    rfl
  obtain ⟨a, xs, rfl, hS, hl, q⟩ := h
  refine ⟨_, ((pss_cons (ps_set (i := 1) sc__law_cut.nd rfl (Or.inl rfl) (pe_callTy call_list_of rfl T.z_list bt_list (pa_cons (pv 0) pa_nil)))
    (pss_cons (ps_while PassesOwn.never (PW.pt (pw_and (pt_cmpR op_gt (pe_callB call_len_seq rfl T.z_len bt_len (pa_cons (pv 1) pa_nil)) pe_int (nomark _)) (pw_and1 (pt_cmpR op_eq (pe_ix ix_list (pv 1) (pe_un un_neg pe_int) (fun _ _ => rfl)) pe_int (nomark _))))) (pss_one (ps_expr (pe_bm0 PySem.F.plainAttrs_list PySem.F.slot_list_pop PySem.F.type_list_pop mt_pop (pv 1)))))
    (pss_one (ps_ret (pv 1)))))), ?_⟩
  simp only [a_izip, a_drop_nx, a_raise, a_seq, a_next, a_drop, a_ret, a_retN, a_if, a_asg, a_gname, a_gsub, a_gtup, a_gnil, a_gcons, a_aug, a_augS, a_ipI, a_var, a_c, a_op, a_un, a_rI, a_rI0, a_rU, a_eqI, a_neI, a_eqB, a_neB, a_tB, a_test, a_and, a_or, a_not, a_andV, a_orV, a_notV, a_nil, a_cons, a_lst, a_tup, a_call, a_cb, a_bm0, a_bm, a_sl, a_nopart, a_part, a_tyI, a_for, a_comp, a_ilist, a_irng1, a_irng2, a_irng3, a_cxK, and_assoc, a_irev, a_ienum, a_cat, a_rep, a_pop, a_clear, a_rslL, a_ixL, a_ixT, a_setL, a_app,
    List.getElem?_cons_zero, List.getElem?_cons_succ, List.set_cons_zero, List.set_cons_succ, Option.some.injEq, V.int.injEq, V.bl.injEq, V.ref.injEq, V.ty.injEq, exists_eq_left', exists_eq_left, exists_and_left, decide_eq_true_eq, List.cons_append, List.nil_append, List.append_nil, List.cons.injEq, and_true, true_and, Bool.not_eq_true', decide_eq_false_iff_not, ite_true, ite_false, Bool.false_eq_true, if_true, if_false, List.length_cons, List.length_nil, L2.start, List.map_cons, List.map_nil, List.replicate_succ, List.replicate_zero]
  refine ⟨_, .inl hS, fun L hL => ?_⟩
  refine while_of (fun m σ H' => ∃ ys : List Int, ys.length = m ∧ σ = [some (.ref a), some (.ref L)] ∧ H' = upd H L (.lst (ys.map V.int)) ∧ trim ys = trim xs) xs.length ⟨xs, rfl, rfl, rfl, rfl⟩ ?_
  rintro m σ H' ⟨ys, hm, rfl, rfl, he⟩
  simp only [a_izip, a_drop_nx, a_raise, a_seq, a_next, a_drop, a_ret, a_retN, a_if, a_asg, a_gname, a_gsub, a_gtup, a_gnil, a_gcons, a_aug, a_augS, a_ipI, a_var, a_c, a_op, a_un, a_rI, a_rI0, a_rU, a_eqI, a_neI, a_eqB, a_neB, a_tB, a_test, a_and, a_or, a_not, a_andV, a_orV, a_notV, a_nil, a_cons, a_lst, a_tup, a_call, a_cb, a_bm0, a_bm, a_sl, a_nopart, a_part, a_tyI, a_for, a_comp, a_ilist, a_irng1, a_irng2, a_irng3, a_cxK, and_assoc, a_irev, a_ienum, a_cat, a_rep, a_pop, a_clear, a_rslL, a_ixL, a_ixT, a_setL, a_app,
    List.getElem?_cons_zero, List.getElem?_cons_succ, List.set_cons_zero, List.set_cons_succ, Option.some.injEq, V.int.injEq, V.bl.injEq, V.ref.injEq, V.ty.injEq, exists_eq_left', exists_eq_left, exists_and_left, decide_eq_true_eq, List.cons_append, List.nil_append, List.append_nil, List.cons.injEq, and_true, true_and, Bool.not_eq_true', decide_eq_false_iff_not, ite_true, ite_false, Bool.false_eq_true, if_true, if_false, List.length_cons, List.length_nil, L2.start, List.map_cons, List.map_nil, List.replicate_succ, List.replicate_zero]
  refine ⟨_, .inl (SqL.of upd_same), ?_⟩
  rw [List.length_map]
  have fin : Nml ys → Q (.ref L) (upd H L (.lst (ys.map V.int))) := fun hn => by
    refine q L _ (same_upd hL _) hL ?_
    rw [upd_same, ← he, nml_trim hn]
  refine ite2 (fun h => ?_) (fun h => ?_)
  · have hne : ys ≠ [] := by intro z; rw [z] at h; simp at h
    refine ⟨_, SqL.of upd_same, _, at_last hne, ?_⟩
    simp only [a_izip, a_drop_nx, a_raise, a_seq, a_next, a_drop, a_ret, a_retN, a_if, a_asg, a_gname, a_gsub, a_gtup, a_gnil, a_gcons, a_aug, a_augS, a_ipI, a_var, a_c, a_op, a_un, a_rI, a_rI0, a_rU, a_eqI, a_neI, a_eqB, a_neB, a_tB, a_test, a_and, a_or, a_not, a_andV, a_orV, a_notV, a_nil, a_cons, a_lst, a_tup, a_call, a_cb, a_bm0, a_bm, a_sl, a_nopart, a_part, a_tyI, a_for, a_comp, a_ilist, a_irng1, a_irng2, a_irng3, a_cxK, and_assoc, a_irev, a_ienum, a_cat, a_rep, a_pop, a_clear, a_rslL, a_ixL, a_ixT, a_setL, a_app,
    List.getElem?_cons_zero, List.getElem?_cons_succ, List.set_cons_zero, List.set_cons_succ, Option.some.injEq, V.int.injEq, V.bl.injEq, V.ref.injEq, V.ty.injEq, exists_eq_left', exists_eq_left, exists_and_left, decide_eq_true_eq, List.cons_append, List.nil_append, List.append_nil, List.cons.injEq, and_true, true_and, Bool.not_eq_true', decide_eq_false_iff_not, ite_true, ite_false, Bool.false_eq_true, if_true, if_false, List.length_cons, List.length_nil, L2.start, List.map_cons, List.map_nil, List.replicate_succ, List.replicate_zero]
    refine ite2 (fun h0 => ?_) (fun h0 => ?_)
    · refine ⟨fun σ' H1 => σ' = [some (V.ref a), some (V.ref L)] ∧ H1 = upd H L (.lst (ys.dropLast.map V.int)), ?_, a_tyL (SqL.of upd_same), _, upd_same, V.int (ys.getLast hne), ?_, rfl, ?_⟩
      · rintro σ' H1 ⟨rfl, rfl⟩
        exact ⟨ys.length - 1, by omega, ys.dropLast, List.length_dropLast, rfl, rfl, by rw [trim_drop hne h0]; exact he⟩
      · rw [List.getElem?_map, List.length_map, ← List.getLast?_eq_getElem?, List.getLast?_eq_some_getLast hne]; rfl
      · rw [upd_upd, ← List.map_dropLast]
    · refine fin (nml_last.mpr fun x hx => ?_)
      rw [List.getLast?_eq_some_getLast hne] at hx
      rw [← Option.some.inj hx]; exact h0
  · have hn : ys = [] := List.eq_nil_of_length_eq_zero (by omega)
    exact fin (by rw [hn]; exact nml_nil)

/-! #### _law_product -/
theorem sumN_ext {n m : Nat} {f : Nat → Int} (h : n ≤ m) (hz : ∀ j, n ≤ j → j < m → f j = 0) : sumN m f = sumN n f := by
  induction m with
  | zero => rw [show n = 0 by omega]
  | succ m ih =>
    by_cases e : n = m + 1
    · rw [e]
    · simp only [sumN]
      rw [ih (by omega) fun j h1 h2 => hz j h1 (by omega), hz m (by omega) (by omega)]; omega
theorem pm_cv (xs ys : List Int) (k : Nat) : pm (co xs) (co ys) k = cv xs ys xs.length k := by
  have e1 : pm (co xs) (co ys) k = sumN (k + 1) fun j => co xs j * cz ys k j := by
    unfold pm
    exact sumN_congr fun j hj => by unfold cz; rw [if_pos (by omega)]
  have e2 : sumN (k + 1 + xs.length) (fun j => co xs j * cz ys k j) = sumN (k + 1) fun j => co xs j * cz ys k j :=
    sumN_ext (by omega) fun j h1 _ => by unfold cz; rw [if_neg (by omega)]; simp
  have e3 : sumN (k + 1 + xs.length) (fun j => co xs j * cz ys k j) = sumN xs.length fun j => co xs j * cz ys k j :=
    sumN_ext (by omega) fun j h1 _ => by rw [co_ge h1]; simp
  rw [e1, ← e2, e3]; rfl

def spProd7 (K : PySem.W.Frag) : Sp := fun vs H Q _ => ∃ (a b : Addr) (xs ys : List Int) (k l : Nat), vs = [.ref a, .ref b] ∧ SqL K H a (xs.map V.int) ∧ SqL K H b (ys.map V.int) ∧ xs.length ≤ 40 ∧ ys.length ≤ 40 ∧ (∀ x ∈ xs, Bd k x) ∧ (∀ y ∈ ys, Bd l y) ∧ k + l ≤ 5000 ∧
  ∀ ws : List Int, Nml ws → ws.length ≤ xs.length + ys.length → (∀ j, co ws j = pm (co xs) (co ys) j) → newL H Q (ws.map V.int)
theorem ok__law_product {P : Program} {w : World} {K : PySem.W.Frag} {mg : Str → Option Value} {base : Heap} (T : Tx K mg) : FnOk P w K mg base CX0 2 T.a__law_product T.fd__law_product ["_law_one", "_law_other"] (spProd7 K) := by
  refine T.F__law_product.ok sc__law_product (fun vs H Q E h => ?_) (fun cdv A outer s H vs Q E hr h => ?_)
  · obtain ⟨a, b, xs, ys, k0, l0, rfl, _⟩ := h
    rfl
  obtain ⟨a, b, xs, ys, k0, l0, rfl, hA, hB, la, lb, ba, bb, hkl, q⟩ := h
  refine ⟨_, ((pss_cons (ps_set (i := 2) sc__law_product.nd rfl (Or.inl rfl) (pe_op op_rep (pe_lst (pa_cons pe_int pa_nil)) (pe_op op_add (pe_callB call_len_seq rfl T.z_len bt_len (pa_cons (pv 0) pa_nil)) (pe_callB call_len_seq rfl T.z_len bt_len (pa_cons (pv 1) pa_nil)))))
    (pss_cons (ps_for PassesOwn.never rfl (pi_range1 rfl T.z_range (pa_cons (pe_callB call_len_seq rfl T.z_len bt_len (pa_cons (pv 0) pa_nil)) pa_nil)) (pg_name (i := 3) sc__law_product.nd rfl (Or.inl rfl)) (pss_one (ps_for PassesOwn.never rfl (pi_range1 rfl T.z_range (pa_cons (pe_callB call_len_seq rfl T.z_len bt_len (pa_cons (pv 1) pa_nil)) pa_nil)) (pg_name (i := 4) sc__law_product.nd rfl (Or.inl rfl)) (pss_one (ps_asg (pe_op op_add (pe_ix ix_list (pv 2) (pe_op op_add (pv 3) (pv 4)) (fun _ _ => rfl)) (pe_op op_mulZ (pe_ix ix_list (pv 0) (pv 3) (fun _ _ => rfl)) (pe_ix ix_list (pv 1) (pv 4) (fun _ _ => rfl)))) (pg_sub (pv 2) (pe_op op_add (pv 3) (pv 4)) set_list))))))
    (pss_one (ps_ret (pe_call (FnOk.mono (ok__law_cut T) (by decide)) hr rfl T.m__law_cut T.F__law_cut.kp T.b__law_cut .nil pass0 (pa_cons (pv 2) pa_nil))))))), ?_⟩
  simp only [a_izip, a_drop_nx, a_raise, a_seq, a_next, a_drop, a_ret, a_retN, a_if, a_asg, a_gname, a_gsub, a_gtup, a_gnil, a_gcons, a_aug, a_augS, a_ipI, a_var, a_c, a_op, a_un, a_rI, a_rI0, a_rU, a_eqI, a_neI, a_eqB, a_neB, a_tB, a_test, a_and, a_or, a_not, a_andV, a_orV, a_notV, a_nil, a_cons, a_lst, a_tup, a_call, a_cb, a_bm0, a_bm, a_sl, a_nopart, a_part, a_tyI, a_for, a_comp, a_ilist, a_irng1, a_irng2, a_irng3, a_cxK, and_assoc, a_irev, a_ienum, a_cat, a_rep, a_pop, a_clear, a_rslL, a_ixL, a_ixT, a_setL, a_app,
    List.getElem?_cons_zero, List.getElem?_cons_succ, List.set_cons_zero, List.set_cons_succ, Option.some.injEq, V.int.injEq, V.bl.injEq, V.ref.injEq, V.ty.injEq, exists_eq_left', exists_eq_left, exists_and_left, decide_eq_true_eq, List.cons_append, List.nil_append, List.append_nil, List.cons.injEq, and_true, true_and, Bool.not_eq_true', decide_eq_false_iff_not, ite_true, ite_false, Bool.false_eq_true, if_true, if_false, List.length_cons, List.length_nil, L2.start, List.map_cons, List.map_nil, List.replicate_succ, List.replicate_zero]
  refine ⟨by decide, fun p hp => ?_⟩
  have s1 := same_upd hp (.lst [V.int 0])
  refine ⟨_, .inl (s1.seq hA), _, .inl (s1.seq hB), _, upd_same, ?_⟩
  rw [List.length_map, List.length_map, rep_zero]
  obtain ⟨k, hk⟩ : ∃ k : Nat, (xs.length : Int) + (ys.length : Int) = (k : Int) := ⟨xs.length + ys.length, by omega⟩
  have hk1 : k = xs.length + ys.length := by omega
  rw [hk, Int.toNat_natCast]
  refine ⟨by omega, by omega, Nat.le_of_lt (small1000 (by simp; omega)), fun F hF => ?_⟩
  have s4 := s1.trans (same_upd hF (.lst ((List.replicate k (0 : Int)).map V.int)))
  have f0 := s1.free hF
  have h4 : upd (upd H p (.lst [V.int 0])) F (.lst ((List.replicate k (0 : Int)).map V.int)) F = _ := upd_same
  generalize upd (upd H p (.lst [V.int 0])) F (.lst ((List.replicate k (0 : Int)).map V.int)) = H4 at s4 h4 ⊢
  refine ⟨_, .inl (s4.seq hA), ?_⟩
  rw [List.length_map, Int.toNat_natCast]
  refine ⟨by omega, by omega, ?_⟩
  obtain ⟨Pv, hPv⟩ : ∃ Pv : Nat → L2.St → Hp → Prop, ∀ l σ H', Pv l σ H' ↔ ∃ (zs : List Int) (r1 r2 : Option V), σ = [some (V.ref a), some (V.ref b), some (V.ref F), r1, r2] ∧ H' F = some (.lst (zs.map V.int)) ∧ zs.length = k ∧
    (∀ j, co zs j = cv xs ys l j) ∧ Same H H' := ⟨_, fun _ _ _ => Iff.rfl⟩
  refine lp_range Pv ((hPv _ _ _).mpr ⟨_, none, none, rfl, h4, by simp, fun j => by rw [co_rep]; rfl, s4⟩) ?_ ?_
  · intro l σ H' hi hp'
    obtain ⟨zs, r1, r2, rfl, hz, lz, cz', sz⟩ := (hPv _ _ _).mp hp'
    have e1 : (0 : Int) + (l : Int) = (l : Int) := Int.zero_add _
    simp only [a_izip, a_drop_nx, a_raise, a_seq, a_next, a_drop, a_ret, a_retN, a_if, a_asg, a_gname, a_gsub, a_gtup, a_gnil, a_gcons, a_aug, a_augS, a_ipI, a_var, a_c, a_op, a_un, a_rI, a_rI0, a_rU, a_eqI, a_neI, a_eqB, a_neB, a_tB, a_test, a_and, a_or, a_not, a_andV, a_orV, a_notV, a_nil, a_cons, a_lst, a_tup, a_call, a_cb, a_bm0, a_bm, a_sl, a_nopart, a_part, a_tyI, a_for, a_comp, a_ilist, a_irng1, a_irng2, a_irng3, a_cxK, and_assoc, a_irev, a_ienum, a_cat, a_rep, a_pop, a_clear, a_rslL, a_ixL, a_ixT, a_setL, a_app,
    List.getElem?_cons_zero, List.getElem?_cons_succ, List.set_cons_zero, List.set_cons_succ, Option.some.injEq, V.int.injEq, V.bl.injEq, V.ref.injEq, V.ty.injEq, exists_eq_left', exists_eq_left, exists_and_left, decide_eq_true_eq, List.cons_append, List.nil_append, List.append_nil, List.cons.injEq, and_true, true_and, Bool.not_eq_true', decide_eq_false_iff_not, ite_true, ite_false, Bool.false_eq_true, if_true, if_false, List.length_cons, List.length_nil, L2.start, List.map_cons, List.map_nil, List.replicate_succ, List.replicate_zero, e1]
    refine ⟨_, .inl (sz.seq hB), ?_⟩
    rw [List.length_map, Int.toNat_natCast]
    refine ⟨by omega, by omega, ?_⟩
    obtain ⟨Pw, hPw⟩ : ∃ Pw : Nat → L2.St → Hp → Prop, ∀ j σ H', Pw j σ H' ↔ ∃ (zs : List Int) (r2 : Option V), σ = [some (V.ref a), some (V.ref b), some (V.ref F), some (V.int l), r2] ∧ H' F = some (.lst (zs.map V.int)) ∧ zs.length = k ∧
      (∀ t, co zs t = cv xs ys l t + if l ≤ t ∧ t < l + j then xs[l] * co ys (t - l) else 0) ∧ Same H H' := ⟨_, fun _ _ _ => Iff.rfl⟩
    refine lp_range Pw ((hPw _ _ _).mpr ⟨zs, _, rfl, hz, lz, fun t => by rw [cz' t, if_neg (show ¬ (l ≤ t ∧ t < l + 0) by omega)]; omega, sz⟩) ?_ ?_
    · intro j σ H' hj hp'
      obtain ⟨zs, r2, rfl, hz, lz, cz', sz⟩ := (hPw _ _ _).mp hp'
      have e2 : (0 : Int) + (j : Int) = (j : Int) := Int.zero_add _
      have eij : (l : Int) + (j : Int) = ((l + j : Nat) : Int) := rfl
      simp only [a_izip, a_drop_nx, a_raise, a_seq, a_next, a_drop, a_ret, a_retN, a_if, a_asg, a_gname, a_gsub, a_gtup, a_gnil, a_gcons, a_aug, a_augS, a_ipI, a_var, a_c, a_op, a_un, a_rI, a_rI0, a_rU, a_eqI, a_neI, a_eqB, a_neB, a_tB, a_test, a_and, a_or, a_not, a_andV, a_orV, a_notV, a_nil, a_cons, a_lst, a_tup, a_call, a_cb, a_bm0, a_bm, a_sl, a_nopart, a_part, a_tyI, a_for, a_comp, a_ilist, a_irng1, a_irng2, a_irng3, a_cxK, and_assoc, a_irev, a_ienum, a_cat, a_rep, a_pop, a_clear, a_rslL, a_ixL, a_ixT, a_setL, a_app,
    List.getElem?_cons_zero, List.getElem?_cons_succ, List.set_cons_zero, List.set_cons_succ, Option.some.injEq, V.int.injEq, V.bl.injEq, V.ref.injEq, V.ty.injEq, exists_eq_left', exists_eq_left, exists_and_left, decide_eq_true_eq, List.cons_append, List.nil_append, List.append_nil, List.cons.injEq, and_true, true_and, Bool.not_eq_true', decide_eq_false_iff_not, ite_true, ite_false, Bool.false_eq_true, if_true, if_false, List.length_cons, List.length_nil, L2.start, List.map_cons, List.map_nil, List.replicate_succ, List.replicate_zero, e2, eij]
      have hiz : l + j < zs.length := by omega
      refine ⟨_, SqL.of hz, _, at_int hiz, _, sz.seq hA, _, at_int hi, _, sz.seq hB, _, at_int hj, ?_⟩
      simp only [a_izip, a_drop_nx, a_raise, a_seq, a_next, a_drop, a_ret, a_retN, a_if, a_asg, a_gname, a_gsub, a_gtup, a_gnil, a_gcons, a_aug, a_augS, a_ipI, a_var, a_c, a_op, a_un, a_rI, a_rI0, a_rU, a_eqI, a_neI, a_eqB, a_neB, a_tB, a_test, a_and, a_or, a_not, a_andV, a_orV, a_notV, a_nil, a_cons, a_lst, a_tup, a_call, a_cb, a_bm0, a_bm, a_sl, a_nopart, a_part, a_tyI, a_for, a_comp, a_ilist, a_irng1, a_irng2, a_irng3, a_cxK, and_assoc, a_irev, a_ienum, a_cat, a_rep, a_pop, a_clear, a_rslL, a_ixL, a_ixT, a_setL, a_app,
    List.getElem?_cons_zero, List.getElem?_cons_succ, List.set_cons_zero, List.set_cons_succ, Option.some.injEq, V.int.injEq, V.bl.injEq, V.ref.injEq, V.ty.injEq, exists_eq_left', exists_eq_left, exists_and_left, decide_eq_true_eq, List.cons_append, List.nil_append, List.append_nil, List.cons.injEq, and_true, true_and, Bool.not_eq_true', decide_eq_false_iff_not, ite_true, ite_false, Bool.false_eq_true, if_true, if_false, List.length_cons, List.length_nil, L2.start, List.map_cons, List.map_nil, List.replicate_succ, List.replicate_zero]
      refine ⟨(ba _ (List.getElem_mem hi)).fits (bb _ (List.getElem_mem hj)) (by omega), _, hz, l + j, ixN_nat (by rw [List.length_map]; exact hiz), (hPw _ _ _).mpr ⟨zs.set (l + j) (zs[l + j] + xs[l] * ys[j]), _, rfl, by rw [upd_same, map_set], by rw [List.length_set]; exact lz, fun t => ?_, sz.more f0⟩⟩
      rw [co_set _ _ _ _ hiz]
      by_cases e : t = l + j
      · subst e
        have := cz' (l + j)
        rw [if_neg (show ¬ (l ≤ l + j ∧ l + j < l + j) by omega), co_lt hiz] at this
        rw [if_pos (show l + j = l + j from rfl), if_pos (show l ≤ l + j ∧ l + j < l + (j + 1) by omega), show l + j - l = j by omega, co_lt hj]; omega
      · rw [if_neg e, cz' t]
        by_cases h3 : l ≤ t ∧ t < l + j
        · rw [if_pos h3, if_pos (show l ≤ t ∧ t < l + (j + 1) by omega)]
        · rw [if_neg h3, if_neg (show ¬ (l ≤ t ∧ t < l + (j + 1)) by omega)]
    · intro σ H' hp'
      obtain ⟨zs, r2, rfl, hz, lz, cz', sz⟩ := (hPw _ _ _).mp hp'
      refine (hPv _ _ _).mpr ⟨zs, _, _, rfl, hz, lz, fun t => ?_, sz⟩
      rw [cz' t]
      have e : cv xs ys (l + 1) t = cv xs ys l t + co xs l * cz ys t l := rfl
      rw [e, co_lt hi]
      unfold cz
      by_cases h2 : l ≤ t
      · rw [if_pos h2]
        by_cases h3 : t < l + ys.length
        · rw [if_pos ⟨h2, h3⟩]
        · rw [if_neg (by omega), co_ge (xs := ys) (by omega), Int.mul_zero]
      · rw [if_neg (by omega), if_neg h2, Int.mul_zero]
  · intro σ H' hp'
    obtain ⟨zs, r1, r2, rfl, hz, lz, cz', sz⟩ := (hPv _ _ _).mp hp'
    simp only [a_izip, a_drop_nx, a_raise, a_seq, a_next, a_drop, a_ret, a_retN, a_if, a_asg, a_gname, a_gsub, a_gtup, a_gnil, a_gcons, a_aug, a_augS, a_ipI, a_var, a_c, a_op, a_un, a_rI, a_rI0, a_rU, a_eqI, a_neI, a_eqB, a_neB, a_tB, a_test, a_and, a_or, a_not, a_andV, a_orV, a_notV, a_nil, a_cons, a_lst, a_tup, a_call, a_cb, a_bm0, a_bm, a_sl, a_nopart, a_part, a_tyI, a_for, a_comp, a_ilist, a_irng1, a_irng2, a_irng3, a_cxK, and_assoc, a_irev, a_ienum, a_cat, a_rep, a_pop, a_clear, a_rslL, a_ixL, a_ixT, a_setL, a_app,
    List.getElem?_cons_zero, List.getElem?_cons_succ, List.set_cons_zero, List.set_cons_succ, Option.some.injEq, V.int.injEq, V.bl.injEq, V.ref.injEq, V.ty.injEq, exists_eq_left', exists_eq_left, exists_and_left, decide_eq_true_eq, List.cons_append, List.nil_append, List.append_nil, List.cons.injEq, and_true, true_and, Bool.not_eq_true', decide_eq_false_iff_not, ite_true, ite_false, Bool.false_eq_true, if_true, if_false, List.length_cons, List.length_nil, L2.start, List.map_cons, List.map_nil, List.replicate_succ, List.replicate_zero]
    refine ⟨F, zs, rfl, SqL.of hz, by omega, fun R H2 s2 nR eR => q (trim zs) (trim_nml _) (Nat.le_trans (trim_len _) (by omega)) (fun j => ?_) R _ (sz.trans s2) (sz.free nR) eR⟩
    rw [trim_co, cz' j, pm_cv]

/-! #### _law_cell_at -/
def cell (ns : List Int) (k : Nat) : Int := ns.getD k 0
def spCellAt (K : PySem.W.Frag) : Sp := fun vs H Q _ => ∃ (a : Addr) (ns : List Int) (k : Nat), vs = [.ref a, .int (k : Int)] ∧ SqL K H a (ns.map V.int) ∧ Q (.int (cell ns k)) H
theorem ok__law_cell_at {P : Program} {w : World} {K : PySem.W.Frag} {mg : Str → Option Value} {base : Heap} (T : Tx K mg) : FnOk P w K mg base CX0 1 T.a__law_cell_at T.fd__law_cell_at ["_law_script", "_law_k"] (spCellAt K) := by
  refine T.F__law_cell_at.ok sc__law_cell_at (fun vs H Q E h => ?_) (fun cdv A outer s H vs Q E hr h => ?_)
  · obtain ⟨a, ns, k, rfl, _⟩ := h
    rfl
  obtain ⟨a, ns, k, rfl, hS, q⟩ := h
  refine ⟨_, ((pss_cons (ps_if (pt_cmpR op_lt (pv 1) (pe_callB call_len_seq rfl T.z_len bt_len (pa_cons (pv 0) pa_nil)) (nomark _)) (pss_one (ps_ret (pe_ix ix_list (pv 0) (pv 1) (fun _ _ => rfl)))) pss_nil)
    (pss_one (ps_ret pe_int)))), ?_⟩
  simp only [a_izip, a_drop_nx, a_raise, a_seq, a_next, a_drop, a_ret, a_retN, a_if, a_asg, a_gname, a_gsub, a_gtup, a_gnil, a_gcons, a_aug, a_augS, a_ipI, a_var, a_c, a_op, a_un, a_rI, a_rI0, a_rU, a_eqI, a_neI, a_eqB, a_neB, a_tB, a_test, a_and, a_or, a_not, a_andV, a_orV, a_notV, a_nil, a_cons, a_lst, a_tup, a_call, a_cb, a_bm0, a_bm, a_sl, a_nopart, a_part, a_tyI, a_for, a_comp, a_ilist, a_irng1, a_irng2, a_irng3, a_cxK, and_assoc, a_irev, a_ienum, a_cat, a_rep, a_pop, a_clear, a_rslL, a_ixL, a_ixT, a_setL, a_app,
    List.getElem?_cons_zero, List.getElem?_cons_succ, List.set_cons_zero, List.set_cons_succ, Option.some.injEq, V.int.injEq, V.bl.injEq, V.ref.injEq, V.ty.injEq, exists_eq_left', exists_eq_left, exists_and_left, decide_eq_true_eq, List.cons_append, List.nil_append, List.append_nil, List.cons.injEq, and_true, true_and, Bool.not_eq_true', decide_eq_false_iff_not, ite_true, ite_false, Bool.false_eq_true, if_true, if_false, List.length_cons, List.length_nil, L2.start, List.map_cons, List.map_nil, List.replicate_succ, List.replicate_zero]
  refine ⟨_, .inl hS, ?_⟩
  rw [List.length_map]
  unfold cell at q
  refine ite2 (fun h => ?_) (fun h => ?_)
  · have h' : k < ns.length := by omega
    rw [List.getD_eq_getElem?_getD, List.getElem?_eq_getElem h'] at q
    exact ⟨_, hS, _, at_int h', q⟩
  · rw [List.getD_eq_getElem?_getD, List.getElem?_eq_none (by omega)] at q
    exact q

theorem eqv_dec (xs ys : List Int) : PyData.eqv (.list (xs.map PyData.int)) (.list (ys.map PyData.int)) = decide (xs = ys) := by simp [PyData.eqv, eqvAll_ints]
theorem lay_self (xs : List Int) : PyData.canLay0 (.list (xs.map PyData.int)) = true := by simp [PyData.canLay0, lay_ints]
theorem dep_self (xs : List Int) : PyData.depth (.list (xs.map PyData.int)) ≤ 64 := by simp [PyData.depth, depth_ints]

/-! #### split -/
/-! #### thinned -/
def spThin (K : PySem.W.Frag) : Sp := fun vs H Q _ => ∃ (a : Addr) (as : List Addr) (rows ds : List (List Int)) (l R : List Int) (f : Nat → List Int), vs = [.ref a] ∧ SqL K H a (as.map V.ref) ∧ LL K H as rows ∧ rows.getLast? = some l ∧ rows.length ≤ 60 ∧ (∀ r ∈ rows, Nml r ∧ r.length ≤ 12 ∧ ∀ x ∈ r, Bd 130 x) ∧
  f 0 = [] ∧ (∀ i r, rows[i]? = some r → CommonIs (f i) r (f (i + 1))) ∧ (∀ i, (f i).length ≤ 1000) ∧ f rows.length = R ∧ R ≠ [] ∧ Nml R ∧ R.length ≤ 12 ∧ (∀ x ∈ R, Bd 130 x) ∧
  ds.length = rows.length ∧ (∀ (i : Nat) r d, rows[i]? = some r → ds[i]? = some d → Nml d ∧ Div r (thinS R l) d) ∧ newLL H Q ds
theorem ok_thinned {P : Program} {w : World} {K : PySem.W.Frag} {mg : Str → Option Value} {base : Heap} (T : Tx K mg) : FnOk P w K mg base CX0 7 T.a_thinned T.fd_thinned ["polys"] (spThin K) := by
  refine T.F_thinned.ok sc_thinned (fun vs H Q E h => ?_) (fun cdv A outer s H vs Q E hr h => ?_)
  · obtain ⟨a, as, rows, ds, l, R, f, rfl, _⟩ := h
    rfl
  obtain ⟨a, as, rows, ds, l, R, f, rfl, hA, hL, hl, lr, br, f0, fs, fl, fR, R0, nR, lR, bR, ld, hd, q⟩ := h
  refine ⟨_, ((pss_cons (ps_set (i := 1) sc_thinned.nd rfl (Or.inr rfl) (pe_call (FnOk.mono (ok_common_of T) (by decide)) hr rfl T.m_common_of T.F_common_of.kp T.b_common_of .nil pass0 (pa_cons (pv 0) pa_nil)))
    (pss_mid (ps_if (pt_not (pt_val (pe_call (FnOk.mono (ok_clear T) (by decide)) hr rfl T.m_clear T.F_clear.kp T.b_clear .nil pass0 (pa_cons (pv 1) (pa_cons pe_int pa_nil))))) (pss_one (ps_set (i := 1) sc_thinned.nd rfl (Or.inr rfl) (pe_lst (pa_cons (pe_call (FnOk.mono (ok_content T) (by decide)) hr rfl T.m_content T.F_content.kp T.b_content .nil pass0 (pa_cons (pv 1) pa_nil)) pa_nil)))) pss_nil)
    (pss_mid (ps_if (PW.pt (pw_and (pt_cmpR op_gt (pe_callB call_len_seq rfl T.z_len bt_len (pa_cons (pe_ix ix_list (pv 0) (pe_un un_neg pe_int) (fun _ _ => rfl)) pa_nil)) pe_int (nomark _)) (pw_and1 (pt_cmpR op_lt (pe_ix ix_list (pe_ix ix_list (pv 0) (pe_un un_neg pe_int) (fun _ _ => rfl)) (pe_un un_neg pe_int) (fun _ _ => rfl)) pe_int (nomark _))))) (pss_one (ps_set (i := 1) sc_thinned.nd rfl (Or.inr rfl) (pe_lcomp rfl (blkok rfl sub_nil fv_nil) (pi_list (pv 1)) (fun _ _ _ _ => (pe_un un_neg (pv 0)))))) pss_nil)
    (pss_one (ps_ret (pe_lcomp rfl (blkok rfl (sub_cons rfl sub_nil) (fv_cons 1 "shared" (by decide) rfl (Or.inl rfl) (Or.inl rfl) ⟨_, rfl⟩ fv_nil)) (pi_list (pv 0)) (fun _ _ _ _ => (pe_call (FnOk.mono (ok_quotient T) (by decide)) hr rfl T.m_quotient T.F_quotient.kp T.b_quotient .nil passF (pa_cons (pv 0) (pa_cons (pv 1) pa_nil))))))))))), ?_⟩
  simp only [a_izip, a_drop_nx, a_raise, a_seq, a_next, a_drop, a_ret, a_retN, a_if, a_asg, a_gname, a_gsub, a_gtup, a_gnil, a_gcons, a_aug, a_augS, a_ipI, a_var, a_c, a_op, a_un, a_rI, a_rI0, a_rU, a_eqI, a_neI, a_eqB, a_neB, a_tB, a_test, a_and, a_or, a_not, a_andV, a_orV, a_notV, a_nil, a_cons, a_lst, a_tup, a_call, a_cb, a_bm0, a_bm, a_sl, a_nopart, a_part, a_tyI, a_for, a_comp, a_ilist, a_irng1, a_irng2, a_irng3, a_cxK, and_assoc, a_irev, a_ienum, a_cat, a_rep, a_pop, a_clear, a_rslL, a_ixL, a_ixT, a_setL, a_app,
    List.getElem?_cons_zero, List.getElem?_cons_succ, List.set_cons_zero, List.set_cons_succ, Option.some.injEq, V.int.injEq, V.bl.injEq, V.ref.injEq, V.ty.injEq, exists_eq_left', exists_eq_left, exists_and_left, decide_eq_true_eq, List.cons_append, List.nil_append, List.append_nil, List.cons.injEq, and_true, true_and, Bool.not_eq_true', decide_eq_false_iff_not, ite_true, ite_false, Bool.false_eq_true, if_true, if_false, List.length_cons, List.length_nil, L2.start, List.map_cons, List.map_nil, List.replicate_succ, List.replicate_zero]
  refine ⟨a, as, rows, f, rfl, hA, hL, by omega, fun r hr' => by have := (br r hr').2.1; omega, fl, f0, fs, fun X H1 s1 nX eX => ?_⟩
  rw [fR] at eX
  have cb : Bd 130 ((contL R : Nat) : Int) := by show ((contL R : Nat) : Int).natAbs < 2 ^ 130; rw [Int.natAbs_natCast]; exact cont_lt (Nat.two_pow_pos 130) R bR
  have cp := cont_pos nR R0
  obtain ⟨S0, hS0⟩ : ∃ S0, S0 = if clr 0 R = true then R else [((contL R : Nat) : Int)] := ⟨_, rfl⟩
  have S00 : S0 ≠ [] := by rw [hS0]; split; exact R0; simp
  have nS0 : Nml S0 := by rw [hS0]; split; exact nR; exact nml_c (by omega)
  have lS0 : S0.length ≤ 12 := by rw [hS0]; split; exact lR; simp
  have bS0 : ∀ x ∈ S0, Bd 130 x := by
    rw [hS0]; split
    · exact bR
    · intro x hx; rw [List.mem_singleton.mp hx]; exact cb
  obtain ⟨M, hM⟩ : ∃ M : L2.St → Hp → Prop, ∀ σ Hx, M σ Hx ↔ ∃ Y : Addr, σ = [some (V.ref a), some (V.ref Y)] ∧ Hx Y = some (.lst (S0.map V.int)) ∧ Same H Hx := ⟨_, fun _ _ => Iff.rfl⟩
  refine mid_of M ?_ ?_
  · simp only [a_izip, a_drop_nx, a_raise, a_seq, a_next, a_drop, a_ret, a_retN, a_if, a_asg, a_gname, a_gsub, a_gtup, a_gnil, a_gcons, a_aug, a_augS, a_ipI, a_var, a_c, a_op, a_un, a_rI, a_rI0, a_rU, a_eqI, a_neI, a_eqB, a_neB, a_tB, a_test, a_and, a_or, a_not, a_andV, a_orV, a_notV, a_nil, a_cons, a_lst, a_tup, a_call, a_cb, a_bm0, a_bm, a_sl, a_nopart, a_part, a_tyI, a_for, a_comp, a_ilist, a_irng1, a_irng2, a_irng3, a_cxK, and_assoc, a_irev, a_ienum, a_cat, a_rep, a_pop, a_clear, a_rslL, a_ixL, a_ixT, a_setL, a_app,
    List.getElem?_cons_zero, List.getElem?_cons_succ, List.set_cons_zero, List.set_cons_succ, Option.some.injEq, V.int.injEq, V.bl.injEq, V.ref.injEq, V.ty.injEq, exists_eq_left', exists_eq_left, exists_and_left, decide_eq_true_eq, List.cons_append, List.nil_append, List.append_nil, List.cons.injEq, and_true, true_and, Bool.not_eq_true', decide_eq_false_iff_not, ite_true, ite_false, Bool.false_eq_true, if_true, if_false, List.length_cons, List.length_nil, L2.start, List.map_cons, List.map_nil, List.replicate_succ, List.replicate_zero]
    refine ⟨X, R, 0, 130, 1, rfl, SqL.of eX, by omega, bR, Bd.zero _, by decide, fun H2 s2 => ?_⟩
    refine ⟨_, rfl, ite2 (fun h => ?_) (fun h => ?_)⟩
    · refine ⟨X, R, rfl, SqL.of (s2 _ _ eX), fun x hx => Nat.lt_of_lt_of_le (bR x hx) (Nat.pow_le_pow_right (by decide) (by decide)), by decide, fun p np => (hM _ _).mpr ⟨p, rfl, ?_, s1.trans (s2.trans (same_upd np _))⟩⟩
      rw [upd_same, hS0, if_neg (by rw [h]; decide)]; rfl
    · have hc : clr 0 R = true := by simpa using h
      exact (hM _ _).mpr ⟨X, rfl, by rw [hS0, if_pos hc]; exact s2 _ _ eX, s1.trans s2⟩
  intro σ H3 hm
  obtain ⟨Y, rfl, eY, s3⟩ := (hM _ _).mp hm
  clear hm hM M
  have rne : rows ≠ [] := fun z => by rw [z] at hl; simp at hl
  obtain ⟨S, hS⟩ : ∃ S, thinS R l = S := ⟨_, rfl⟩
  have hS' : S = if l ≠ [] ∧ co l (l.length - 1) < 0 then S0.map (fun x => -x) else S0 := by rw [← hS, hS0]; rfl
  have en : S0.map (fun x : Int => -x) = S0.map fun x => (-1) * x := by congr 1; funext x; omega
  have lS : S.length ≤ 12 := by rw [hS']; split; rw [List.length_map]; exact lS0; exact lS0
  have S1 : S ≠ [] := by rw [hS']; split; simpa using S00; exact S00
  have nS : Nml S := by
    rw [hS']; split
    · rw [en]; exact nml_of_last (.inr (by rw [List.length_map, co_mapc]; exact Int.mul_ne_zero (by decide) (co_last nS0 S00)))
    · exact nS0
  have bS : ∀ x ∈ S, Bd 130 x := by
    rw [hS']; split
    · intro x hx; obtain ⟨y, hy, rfl⟩ := List.mem_map.mp hx; exact (bS0 y hy).neg
    · exact bS0
  rw [hS] at hd
  obtain ⟨M, hM⟩ : ∃ M : L2.St → Hp → Prop, ∀ σ Hx, M σ Hx ↔ ∃ Y : Addr, σ = [some (V.ref a), some (V.ref Y)] ∧ Hx Y = some (.lst (S.map V.int)) ∧ Same H Hx := ⟨_, fun _ _ => Iff.rfl⟩
  refine mid_of M ?_ ?_
  · simp only [a_izip, a_drop_nx, a_raise, a_seq, a_next, a_drop, a_ret, a_retN, a_if, a_asg, a_gname, a_gsub, a_gtup, a_gnil, a_gcons, a_aug, a_augS, a_ipI, a_var, a_c, a_op, a_un, a_rI, a_rI0, a_rU, a_eqI, a_neI, a_eqB, a_neB, a_tB, a_test, a_and, a_or, a_not, a_andV, a_orV, a_notV, a_nil, a_cons, a_lst, a_tup, a_call, a_cb, a_bm0, a_bm, a_sl, a_nopart, a_part, a_tyI, a_for, a_comp, a_ilist, a_irng1, a_irng2, a_irng3, a_cxK, and_assoc, a_irev, a_ienum, a_cat, a_rep, a_pop, a_clear, a_rslL, a_ixL, a_ixT, a_setL, a_app,
    List.getElem?_cons_zero, List.getElem?_cons_succ, List.set_cons_zero, List.set_cons_succ, Option.some.injEq, V.int.injEq, V.bl.injEq, V.ref.injEq, V.ty.injEq, exists_eq_left', exists_eq_left, exists_and_left, decide_eq_true_eq, List.cons_append, List.nil_append, List.append_nil, List.cons.injEq, and_true, true_and, Bool.not_eq_true', decide_eq_false_iff_not, ite_true, ite_false, Bool.false_eq_true, if_true, if_false, List.length_cons, List.length_nil, L2.start, List.map_cons, List.map_nil, List.replicate_succ, List.replicate_zero]
    obtain ⟨b, p, at1, _, hp2, hpS⟩ := (hL.same s3).lastAt rne
    obtain rfl : p = l := by rw [hl] at hp2; exact (Option.some.inj hp2).symm
    have no : ¬ (p ≠ [] ∧ co p (p.length - 1) < 0) → M [some (V.ref a), some (V.ref Y)] H3 := fun h => (hM _ _).mpr ⟨Y, rfl, by rw [hS', if_neg h]; exact eY, s3⟩
    refine ⟨_, s3.seq hA, _, at1, b, rfl, _, .inl hpS, ?_⟩
    rw [List.length_map]
    refine ite2 (fun h => ?_) (fun h => no fun z => by have := List.length_pos_iff.mpr z.1; omega)
    have pne : p ≠ [] := by intro z; rw [z] at h; simp at h
    have ec : co p (p.length - 1) = p.getLast pne := by rw [co_lt (by omega), List.getLast_eq_getElem]
    refine ⟨_, s3.seq hA, _, at1, b, rfl, _, hpS, _, at_last pne, _, rfl, ite2 (fun h0 => ⟨⟨_, SqL.of eY⟩, fun D nD => ?_⟩) (fun h0 => no fun z => h0 (by rw [← ec]; exact z.2))⟩
    refine cl_ints (g := fun x => -x) nD (SqL.of eY) (by omega) (fun x hx Hx R' sx hR => ?_) fun F H5 s5 nF eF => (hM _ _).mpr ⟨F, rfl, ?_, s3.trans s5⟩
    · simp only [a_izip, a_drop_nx, a_raise, a_seq, a_next, a_drop, a_ret, a_retN, a_if, a_asg, a_gname, a_gsub, a_gtup, a_gnil, a_gcons, a_aug, a_augS, a_ipI, a_var, a_c, a_op, a_un, a_rI, a_rI0, a_rU, a_eqI, a_neI, a_eqB, a_neB, a_tB, a_test, a_and, a_or, a_not, a_andV, a_orV, a_notV, a_nil, a_cons, a_lst, a_tup, a_call, a_cb, a_bm0, a_bm, a_sl, a_nopart, a_part, a_tyI, a_for, a_comp, a_ilist, a_irng1, a_irng2, a_irng3, a_cxK, and_assoc, a_irev, a_ienum, a_cat, a_rep, a_pop, a_clear, a_rslL, a_ixL, a_ixT, a_setL, a_app,
    List.getElem?_cons_zero, List.getElem?_cons_succ, List.set_cons_zero, List.set_cons_succ, Option.some.injEq, V.int.injEq, V.bl.injEq, V.ref.injEq, V.ty.injEq, exists_eq_left', exists_eq_left, exists_and_left, decide_eq_true_eq, List.cons_append, List.nil_append, List.append_nil, List.cons.injEq, and_true, true_and, Bool.not_eq_true', decide_eq_false_iff_not, ite_true, ite_false, Bool.false_eq_true, if_true, if_false, List.length_cons, List.length_nil, L2.start, List.map_cons, List.map_nil, List.replicate_succ, List.replicate_zero, bst, Option.getD_some]; exact hR
    · rw [eF, hS', if_pos ⟨pne, by rw [ec]; exact h0⟩]
  intro σ H4 hm
  obtain ⟨Z, rfl, eZ, s4⟩ := (hM _ _).mp hm
  clear hm hM M
  simp only [a_izip, a_drop_nx, a_raise, a_seq, a_next, a_drop, a_ret, a_retN, a_if, a_asg, a_gname, a_gsub, a_gtup, a_gnil, a_gcons, a_aug, a_augS, a_ipI, a_var, a_c, a_op, a_un, a_rI, a_rI0, a_rU, a_eqI, a_neI, a_eqB, a_neB, a_tB, a_test, a_and, a_or, a_not, a_andV, a_orV, a_notV, a_nil, a_cons, a_lst, a_tup, a_call, a_cb, a_bm0, a_bm, a_sl, a_nopart, a_part, a_tyI, a_for, a_comp, a_ilist, a_irng1, a_irng2, a_irng3, a_cxK, and_assoc, a_irev, a_ienum, a_cat, a_rep, a_pop, a_clear, a_rslL, a_ixL, a_ixT, a_setL, a_app,
    List.getElem?_cons_zero, List.getElem?_cons_succ, List.set_cons_zero, List.set_cons_succ, Option.some.injEq, V.int.injEq, V.bl.injEq, V.ref.injEq, V.ty.injEq, exists_eq_left', exists_eq_left, exists_and_left, decide_eq_true_eq, List.cons_append, List.nil_append, List.append_nil, List.cons.injEq, and_true, true_and, Bool.not_eq_true', decide_eq_false_iff_not, ite_true, ite_false, Bool.false_eq_true, if_true, if_false, List.length_cons, List.length_nil, L2.start, List.map_cons, List.map_nil, List.replicate_succ, List.replicate_zero]
  refine ⟨⟨_, s4.seq hA⟩, fun D nD => cl_ll nD (s4.seq hA) (hL.same s4) ld (by omega) (fun i b p d Hx R' hp hd' sx hB hR => ?_) fun D' bs H' s' nD' eD lh fr nDb nd => q D' bs H' (s4.trans s') (s4.free nD') eD lh (fun x hx => s4.free (fr x hx)) nDb nd⟩
  simp only [a_izip, a_drop_nx, a_raise, a_seq, a_next, a_drop, a_ret, a_retN, a_if, a_asg, a_gname, a_gsub, a_gtup, a_gnil, a_gcons, a_aug, a_augS, a_ipI, a_var, a_c, a_op, a_un, a_rI, a_rI0, a_rU, a_eqI, a_neI, a_eqB, a_neB, a_tB, a_test, a_and, a_or, a_not, a_andV, a_orV, a_notV, a_nil, a_cons, a_lst, a_tup, a_call, a_cb, a_bm0, a_bm, a_sl, a_nopart, a_part, a_tyI, a_for, a_comp, a_ilist, a_irng1, a_irng2, a_irng3, a_cxK, and_assoc, a_irev, a_ienum, a_cat, a_rep, a_pop, a_clear, a_rslL, a_ixL, a_ixT, a_setL, a_app,
    List.getElem?_cons_zero, List.getElem?_cons_succ, List.set_cons_zero, List.set_cons_succ, Option.some.injEq, V.int.injEq, V.bl.injEq, V.ref.injEq, V.ty.injEq, exists_eq_left', exists_eq_left, exists_and_left, decide_eq_true_eq, List.cons_append, List.nil_append, List.append_nil, List.cons.injEq, and_true, true_and, Bool.not_eq_true', decide_eq_false_iff_not, ite_true, ite_false, Bool.false_eq_true, if_true, if_false, List.length_cons, List.length_nil, L2.start, List.map_cons, List.map_nil, List.replicate_succ, List.replicate_zero, bst, Option.getD_some]
  obtain ⟨d1, d2⟩ := hd i p d hp hd'
  have bp := br p (List.mem_of_getElem? hp)
  exact ⟨b, Z, p, S, 130, 130, rfl, hB, SqL.of (sx _ _ eZ), by omega, by omega, bp.1, nS, bp.2.2, bS, by decide, by decide, .inr ⟨S1, .inl ⟨d, d1, d2, hR⟩⟩⟩

/-! #### split -/
/-! #### _law_factor, _law_number, _law_parts, _law_is -/
theorem pd_ext {xs ys ws : List Int} (nw : Nml ws) (h : ∀ j, co ws j = pm (co xs) (co ys) j) : ws = pdL xs ys := nml_ext nw (pd_nml _ _) fun j => by rw [h j, pd_co]
def spFactor (K : PySem.W.Frag) : Sp := fun vs H Q _ => ∃ c : Int, vs = [.int c] ∧ ∀ (fs : List Int) (b : Bool), Fac fs → (b = true ↔ go fs) → ∀ (p F : Addr) H', Same H H' → H' p = some (.tup [.ref F, .bl b]) → H' F = some (.lst (fs.map V.int)) → Q (.ref p) H'
theorem ok__law_factor {P : Program} {w : World} {K : PySem.W.Frag} {mg : Str → Option Value} {base : Heap} (T : Tx K mg) : FnOk P w K mg base CX0 3 T.a__law_factor T.fd__law_factor ["_law_cell"] (spFactor K) := by
  refine T.F__law_factor.ok sc__law_factor (fun vs H Q E h => ?_) (fun cdv A outer s H vs Q E hr h => ?_)
  · obtain ⟨c, rfl, _⟩ := h
    rfl
  obtain ⟨c, rfl, q⟩ := h
  refine ⟨_, ((pss_cons (ps_set (i := 1) sc__law_factor.nd rfl (Or.inl rfl) (pe_op op_sub (pe_op op_mod (pe_op op_fdiv (pv 0) pe_int) pe_int) pe_int))
    (pss_cons (ps_if (pt_cmpR op_eq (pe_op op_mod (pv 0) pe_int) pe_int (nomark _)) (pss_one (ps_ret (pe_tup (pa_cons (pe_lst (pa_cons (pv 1) (pa_cons pe_int pa_nil))) (pa_cons (pe_cmpR op_gt (pv 1) pe_int (nomark _)) pa_nil))))) pss_nil)
    (pss_cons (ps_if (pt_cmpR op_eq (pe_op op_mod (pv 0) pe_int) pe_int (nomark _)) (pss_cons (ps_set (i := 2) sc__law_factor.nd rfl (Or.inl rfl) (pe_op op_sub (pe_op op_mod (pe_op op_fdiv (pv 0) pe_int) pe_int) pe_int))
    (pss_one (ps_ret (pe_tup (pa_cons (pe_call (FnOk.mono (ok__law_product T) (by decide)) hr rfl T.m__law_product T.F__law_product.kp T.b__law_product .nil pass0 (pa_cons (pe_lst (pa_cons (pv 1) (pa_cons pe_int pa_nil))) (pa_cons (pe_lst (pa_cons (pv 2) (pa_cons pe_int pa_nil))) pa_nil))) (pa_cons (pe_and (pe_cmpR op_gt (pv 1) pe_int (nomark _)) (pe_one (pe_cmpR op_gt (pv 2) pe_int (nomark _)))) pa_nil)))))) pss_nil)
    (pss_cons (ps_if (pt_cmpR op_eq (pe_op op_mod (pv 0) pe_int) pe_int (nomark _)) (pss_one (ps_ret (pe_tup (pa_cons (pe_lst (pa_cons (pe_op op_add (pe_op op_add (pe_op op_mulZ (pv 1) (pv 1)) pe_int) (pe_op op_mod (pe_op op_fdiv (pv 0) pe_int) pe_int)) (pa_cons (pe_op op_mul (pe_un un_neg pe_int) (pv 1)) (pa_cons pe_int pa_nil)))) (pa_cons (pe_cmpR op_le (pv 1) pe_int (nomark _)) pa_nil))))) pss_nil)
    (pss_one (ps_ret (pe_tup (pa_cons (pe_lst (pa_cons pe_int pa_nil)) (pa_cons pe_bl pa_nil)))))))))), ?_⟩
  simp only [a_izip, a_drop_nx, a_raise, a_seq, a_next, a_drop, a_ret, a_retN, a_if, a_asg, a_gname, a_gsub, a_gtup, a_gnil, a_gcons, a_aug, a_augS, a_ipI, a_var, a_c, a_op, a_un, a_rI, a_rI0, a_rU, a_eqI, a_neI, a_eqB, a_neB, a_tB, a_test, a_and, a_or, a_not, a_andV, a_orV, a_notV, a_nil, a_cons, a_lst, a_tup, a_call, a_cb, a_bm0, a_bm, a_sl, a_nopart, a_part, a_tyI, a_for, a_comp, a_ilist, a_irng1, a_irng2, a_irng3, a_cxK, and_assoc, a_irev, a_ienum, a_cat, a_rep, a_pop, a_clear, a_rslL, a_ixL, a_ixT, a_setL, a_app,
    List.getElem?_cons_zero, List.getElem?_cons_succ, List.set_cons_zero, List.set_cons_succ, Option.some.injEq, V.int.injEq, V.bl.injEq, V.ref.injEq, V.ty.injEq, exists_eq_left', exists_eq_left, exists_and_left, decide_eq_true_eq, List.cons_append, List.nil_append, List.append_nil, List.cons.injEq, and_true, true_and, Bool.not_eq_true', decide_eq_false_iff_not, ite_true, ite_false, Bool.false_eq_true, if_true, if_false, List.length_cons, List.length_nil, L2.start, List.map_cons, List.map_nil, List.replicate_succ, List.replicate_zero]
  have ba : ∀ x : Int, (x % 11 - 4).natAbs ≤ 6 := fun x => by omega
  have fin : ∀ (fs : List Int) (b : Bool), Fac fs → (b = true ↔ go fs) → ∀ p, H p = none → ∀ p1, upd H p (.lst (fs.map V.int)) p1 = none → Q (.ref p1) (upd (upd H p (.lst (fs.map V.int))) p1 (.tup [.ref p, .bl b])) := fun fs b F hb p np p1 np1 => by
    have u1 := same_upd np (.lst (fs.map V.int))
    have u2 := same_upd np1 (.tup [V.ref p, .bl b])
    exact q fs b F hb p1 p _ (u1.trans u2) upd_same (u2 _ _ upd_same)
  have a1 := ba (c / 4)
  have a2 := ba (c / 44)
  refine ⟨⟨by decide, by decide⟩, by decide, by decide, ite2 (fun h => ⟨by decide, fun p np => ⟨by decide, fun p1 np1 => ?_⟩⟩) (fun h => ⟨by decide, ite2 (fun h2 => ?_) (fun h2 => ⟨by decide, ite2 (fun h3 => ?_) (fun h3 => ⟨by decide, fun p np => ⟨by decide, fun p1 np1 => ?_⟩⟩)⟩)⟩)⟩
  · obtain ⟨F, hb⟩ := fac_lin a1
    exact fin [c / 4 % 11 - 4, 1] _ F hb p np p1 np1
  · generalize c / 4 % 11 - 4 = x at a1
    generalize hy : c / 44 % 11 - 4 = y at a2
    obtain ⟨F, hb⟩ := fac_two a1 a2
    refine ⟨⟨by decide, by decide⟩, by decide, by decide, fun p np => ⟨by decide, fun p1 np1 => ?_⟩⟩
    have u1 := same_upd np (.lst [V.int x, V.int 1])
    have u2 := same_upd np1 (.lst [V.int y, V.int 1])
    have bb : ∀ z : Int, z.natAbs ≤ 6 → ∀ v ∈ [z, 1], Bd 3 v := fun z hz v hv => by
      simp at hv
      rcases hv with rfl | rfl
      · exact Bd.of_lt (m := 7) (by omega) (by decide)
      · exact Bd.one (by decide)
    refine ⟨p, p1, [x, 1], [y, 1], 3, 3, rfl, SqL.of (u2 _ _ upd_same), SqL.of upd_same, by simp, by simp, bb x a1, bb y a2, by decide, fun ws nw lw cw W H2 s2 nW eW => ?_⟩
    rw [pd_ext nw cw] at eW
    have fin2 : ∀ b : Bool, (b = true ↔ (0 < x ∧ 0 < y)) → 0 + 1 + 1 ≤ sizeLine ∧ ∀ p, H2 p = none → Q (.ref p) (upd H2 p (.tup [.ref W, .bl b])) := fun b hb2 => ⟨by decide, fun p2 np2 => by
      have u3 := same_upd np2 (.tup [V.ref W, .bl b])
      exact q _ b F (hb2.trans hb) p2 W _ ((u1.trans u2).trans (s2.trans u3)) upd_same (u3 _ _ eW)⟩
    refine ite2 (fun hx => fin2 _ ?_) (fun hx => fin2 _ ?_)
    · rw [decide_eq_true_iff]; exact ⟨fun z => ⟨hx, z⟩, fun z => z.2⟩
    · simp [hx]
  · have a5 : 0 ≤ c / 44 % 5 ∧ c / 44 % 5 ≤ 4 := by omega
    obtain ⟨F, hb⟩ := fac_sq a1 a5.1 a5.2
    have bx : Bd 3 (c / 4 % 11 - 4) := Bd.of_lt (m := 7) (by omega) (by decide)
    exact ⟨bx.fits bx (by decide), ⟨by decide, by decide⟩, by decide, .inl ⟨by decide, by decide⟩, by decide, fun p np => ⟨by decide, fun p1 np1 => fin [(c / 4 % 11 - 4) * (c / 4 % 11 - 4) + 1 + c / 44 % 5, -2 * (c / 4 % 11 - 4), 1] _ F hb p np p1 np1⟩⟩
  · exact fin [1] true fac_one.1 fac_one.2 p np p1 np1
def spNum35 : Sp := fun vs H Q _ => ∃ c : Int, vs = [.int c] ∧ ∀ n : Int, n ≠ 0 → n.natAbs ≤ 10 ^ 20 → ∀ H', Same H H' → Q (.int n) H'
theorem ok__law_number {P : Program} {w : World} {K : PySem.W.Frag} {mg : Str → Option Value} {base : Heap} (T : Tx K mg) : FnOk P w K mg base CX0 1 T.a__law_number T.fd__law_number ["_law_cell"] spNum35 := by
  refine T.F__law_number.ok sc__law_number (fun vs H Q E h => ?_) (fun cdv A outer s H vs Q E hr h => ?_)
  · obtain ⟨c, rfl, _⟩ := h
    rfl
  obtain ⟨c, rfl, q⟩ := h
  refine ⟨_, ((pss_cons (ps_set (i := 1) sc__law_number.nd rfl (Or.inl rfl) (pe_op op_sub (pe_op op_mod (pe_op op_fdiv (pv 0) pe_int) pe_int) pe_int))
    (pss_mid (ps_if (pt_cmpR op_eq (pe_op op_mod (pv 0) pe_int) pe_int (nomark _)) (pss_one (ps_set (i := 1) sc__law_number.nd rfl (Or.inl rfl) (pe_op op_add (pe_op op_sub (pe_op op_mod (pe_op op_fdiv (pv 0) pe_int) (pe_op op_sub (pe_op op_mul pe_int (pe_op op_pow pe_int pe_int)) pe_int)) (pe_op op_pow pe_int pe_int)) pe_int))) pss_nil)
    (pss_mid (ps_if (pt_cmpR op_eq (pv 1) pe_int (nomark _)) (pss_one (ps_set (i := 1) sc__law_number.nd rfl (Or.inl rfl) (pe_un un_neg pe_int))) pss_nil)
    (pss_one (ps_ret (pv 1))))))), ?_⟩
  simp only [a_izip, a_drop_nx, a_raise, a_seq, a_next, a_drop, a_ret, a_retN, a_if, a_asg, a_gname, a_gsub, a_gtup, a_gnil, a_gcons, a_aug, a_augS, a_ipI, a_var, a_c, a_op, a_un, a_rI, a_rI0, a_rU, a_eqI, a_neI, a_eqB, a_neB, a_tB, a_test, a_and, a_or, a_not, a_andV, a_orV, a_notV, a_nil, a_cons, a_lst, a_tup, a_call, a_cb, a_bm0, a_bm, a_sl, a_nopart, a_part, a_tyI, a_for, a_comp, a_ilist, a_irng1, a_irng2, a_irng3, a_cxK, and_assoc, a_irev, a_ienum, a_cat, a_rep, a_pop, a_clear, a_rslL, a_ixL, a_ixT, a_setL, a_app,
    List.getElem?_cons_zero, List.getElem?_cons_succ, List.set_cons_zero, List.set_cons_succ, Option.some.injEq, V.int.injEq, V.bl.injEq, V.ref.injEq, V.ty.injEq, exists_eq_left', exists_eq_left, exists_and_left, decide_eq_true_eq, List.cons_append, List.nil_append, List.append_nil, List.cons.injEq, and_true, true_and, Bool.not_eq_true', decide_eq_false_iff_not, ite_true, ite_false, Bool.false_eq_true, if_true, if_false, List.length_cons, List.length_nil, L2.start, List.map_cons, List.map_nil, List.replicate_succ, List.replicate_zero]
  refine ⟨⟨by decide, by decide⟩, by decide, ?_⟩
  obtain ⟨M, hM⟩ : ∃ M : L2.St → Hp → Prop, ∀ σ Hx, M σ Hx ↔ ∃ n : Int, σ = [some (V.int c), some (V.int n)] ∧ n.natAbs ≤ 10 ^ 20 ∧ Hx = H := ⟨_, fun _ _ => Iff.rfl⟩
  refine mid_of M ?_ ?_
  · simp only [a_izip, a_drop_nx, a_raise, a_seq, a_next, a_drop, a_ret, a_retN, a_if, a_asg, a_gname, a_gsub, a_gtup, a_gnil, a_gcons, a_aug, a_augS, a_ipI, a_var, a_c, a_op, a_un, a_rI, a_rI0, a_rU, a_eqI, a_neI, a_eqB, a_neB, a_tB, a_test, a_and, a_or, a_not, a_andV, a_orV, a_notV, a_nil, a_cons, a_lst, a_tup, a_call, a_cb, a_bm0, a_bm, a_sl, a_nopart, a_part, a_tyI, a_for, a_comp, a_ilist, a_irng1, a_irng2, a_irng3, a_cxK, and_assoc, a_irev, a_ienum, a_cat, a_rep, a_pop, a_clear, a_rslL, a_ixL, a_ixT, a_setL, a_app,
    List.getElem?_cons_zero, List.getElem?_cons_succ, List.set_cons_zero, List.set_cons_succ, Option.some.injEq, V.int.injEq, V.bl.injEq, V.ref.injEq, V.ty.injEq, exists_eq_left', exists_eq_left, exists_and_left, decide_eq_true_eq, List.cons_append, List.nil_append, List.append_nil, List.cons.injEq, and_true, true_and, Bool.not_eq_true', decide_eq_false_iff_not, ite_true, ite_false, Bool.false_eq_true, if_true, if_false, List.length_cons, List.length_nil, L2.start, List.map_cons, List.map_nil, List.replicate_succ, List.replicate_zero]
    refine ⟨by decide, ite2 (fun h => ?_) (fun h => (hM _ _).mpr ⟨_, rfl, by omega, rfl⟩)⟩
    have p : CPow 10 20 := ⟨by decide, by decide, by decide⟩
    have e20 : (10 : Int) ^ Int.toNat 20 = 10 ^ 20 := rfl
    rw [e20]
    have h1 := Int.emod_nonneg (c / 2) (show (2 * 10 ^ 20 - 1 : Int) ≠ 0 by decide)
    have h2 := Int.emod_lt_of_pos (c / 2) (show (0 : Int) < 2 * 10 ^ 20 - 1 by decide)
    exact ⟨⟨by decide, by decide⟩, p, .inl ⟨by decide, by decide⟩, by decide, p, (hM _ _).mpr ⟨_, rfl, by omega, rfl⟩⟩
  intro σ Hx hm
  obtain ⟨n, rfl, hn, rfl⟩ := (hM _ _).mp hm
  clear hm hM M
  obtain ⟨M, hM⟩ : ∃ M : L2.St → Hp → Prop, ∀ σ Hy, M σ Hy ↔ ∃ n : Int, σ = [some (V.int c), some (V.int n)] ∧ n ≠ 0 ∧ n.natAbs ≤ 10 ^ 20 ∧ Hy = Hx := ⟨_, fun _ _ => Iff.rfl⟩
  refine mid_of M ?_ ?_
  · simp only [a_izip, a_drop_nx, a_raise, a_seq, a_next, a_drop, a_ret, a_retN, a_if, a_asg, a_gname, a_gsub, a_gtup, a_gnil, a_gcons, a_aug, a_augS, a_ipI, a_var, a_c, a_op, a_un, a_rI, a_rI0, a_rU, a_eqI, a_neI, a_eqB, a_neB, a_tB, a_test, a_and, a_or, a_not, a_andV, a_orV, a_notV, a_nil, a_cons, a_lst, a_tup, a_call, a_cb, a_bm0, a_bm, a_sl, a_nopart, a_part, a_tyI, a_for, a_comp, a_ilist, a_irng1, a_irng2, a_irng3, a_cxK, and_assoc, a_irev, a_ienum, a_cat, a_rep, a_pop, a_clear, a_rslL, a_ixL, a_ixT, a_setL, a_app,
    List.getElem?_cons_zero, List.getElem?_cons_succ, List.set_cons_zero, List.set_cons_succ, Option.some.injEq, V.int.injEq, V.bl.injEq, V.ref.injEq, V.ty.injEq, exists_eq_left', exists_eq_left, exists_and_left, decide_eq_true_eq, List.cons_append, List.nil_append, List.append_nil, List.cons.injEq, and_true, true_and, Bool.not_eq_true', decide_eq_false_iff_not, ite_true, ite_false, Bool.false_eq_true, if_true, if_false, List.length_cons, List.length_nil, L2.start, List.map_cons, List.map_nil, List.replicate_succ, List.replicate_zero]
    exact ite2 (fun h => (hM _ _).mpr ⟨_, rfl, by decide, by decide, rfl⟩) (fun h => (hM _ _).mpr ⟨_, rfl, h, hn, rfl⟩)
  intro σ Hy hm
  obtain ⟨n, rfl, n0, hn, rfl⟩ := (hM _ _).mp hm
  simp only [a_izip, a_drop_nx, a_raise, a_seq, a_next, a_drop, a_ret, a_retN, a_if, a_asg, a_gname, a_gsub, a_gtup, a_gnil, a_gcons, a_aug, a_augS, a_ipI, a_var, a_c, a_op, a_un, a_rI, a_rI0, a_rU, a_eqI, a_neI, a_eqB, a_neB, a_tB, a_test, a_and, a_or, a_not, a_andV, a_orV, a_notV, a_nil, a_cons, a_lst, a_tup, a_call, a_cb, a_bm0, a_bm, a_sl, a_nopart, a_part, a_tyI, a_for, a_comp, a_ilist, a_irng1, a_irng2, a_irng3, a_cxK, and_assoc, a_irev, a_ienum, a_cat, a_rep, a_pop, a_clear, a_rslL, a_ixL, a_ixT, a_setL, a_app,
    List.getElem?_cons_zero, List.getElem?_cons_succ, List.set_cons_zero, List.set_cons_succ, Option.some.injEq, V.int.injEq, V.bl.injEq, V.ref.injEq, V.ty.injEq, exists_eq_left', exists_eq_left, exists_and_left, decide_eq_true_eq, List.cons_append, List.nil_append, List.append_nil, List.cons.injEq, and_true, true_and, Bool.not_eq_true', decide_eq_false_iff_not, ite_true, ite_false, Bool.false_eq_true, if_true, if_false, List.length_cons, List.length_nil, L2.start, List.map_cons, List.map_nil, List.replicate_succ, List.replicate_zero]
  exact q n n0 hn _ (Same.refl _)
def spIs35 (K : PySem.W.Frag) : Sp := fun vs H Q _ => ∃ (a b : Addr) (as bs : List Addr) (ds : List (List Int)), vs = [.ref a, .ref b] ∧ H a = some (.lst (as.map V.ref)) ∧ LH H as ds ∧ SqL K H b (bs.map V.ref) ∧ LL K H bs ds ∧ ds.length ≤ 900 ∧ (∀ d ∈ ds, d.length ≤ 900) ∧ ∀ H', Same H H' → Q (.bl true) H'
theorem ok__law_is {P : Program} {w : World} {K : PySem.W.Frag} {mg : Str → Option Value} {base : Heap} (T : Tx K mg) : FnOk P w K mg base CX0 1 T.a__law_is T.fd__law_is ["_law_found", "_law_due"] (spIs35 K) := by
  refine T.F__law_is.ok sc__law_is (fun vs H Q E h => ?_) (fun cdv A outer s H vs Q E hr h => ?_)
  · obtain ⟨a, b, as, bs, ds, rfl, _⟩ := h
    rfl
  obtain ⟨a, b, as, bs, ds, rfl, hA, la, hB, lb, l1, l2, q⟩ := h
  refine ⟨_, ((pss_cons (ps_if (PW.pt (pw_or (pt_not (pt_val (pe_callB call_isinst rfl T.z_isinstance bt_isinstance (pa_cons (pv 0) (pa_cons (pe_bltn (v := .ty "list") rfl T.z_list bt_list rfl) pa_nil))))) (pw_or1 (pt_cmpR op_ne (pe_callB call_len_seq rfl T.z_len bt_len (pa_cons (pv 0) pa_nil)) (pe_callB call_len_seq rfl T.z_len bt_len (pa_cons (pv 1) pa_nil)) (nomark _))))) (pss_one (ps_ret pe_bl)) pss_nil)
    (pss_cons (ps_for PassesOwn.never rfl (pi_zip rfl T.z_zip (pa_cons (pv 0) (pa_cons (pv 1) pa_nil))) (pg_tup rfl (pgs_cons (pg_name (i := 2) sc__law_is.nd rfl (Or.inl rfl)) (pgs_cons (pg_name (i := 3) sc__law_is.nd rfl (Or.inl rfl)) pgs_nil))) (pss_cons (ps_if (PW.pt (pw_or (pt_not (pt_val (pe_callB call_isinst rfl T.z_isinstance bt_isinstance (pa_cons (pv 2) (pa_cons (pe_bltn (v := .ty "list") rfl T.z_list bt_list rfl) pa_nil))))) (pw_or1 (pt_cmpR op_ne (pe_callB call_len_seq rfl T.z_len bt_len (pa_cons (pv 2) pa_nil)) (pe_callB call_len_seq rfl T.z_len bt_len (pa_cons (pv 3) pa_nil)) (nomark _))))) (pss_one (ps_ret pe_bl)) pss_nil)
    (pss_one (ps_for PassesOwn.never rfl (pi_range1 rfl T.z_range (pa_cons (pe_callB call_len_seq rfl T.z_len bt_len (pa_cons (pv 3) pa_nil)) pa_nil)) (pg_name (i := 4) sc__law_is.nd rfl (Or.inl rfl)) (pss_one (ps_if (PW.pt (pw_or (pt_not (pt_val (pe_callB call_isinst rfl T.z_isinstance bt_isinstance (pa_cons (pe_ix ix_list (pv 2) (pv 4) (fun _ _ => rfl)) (pa_cons (pe_bltn (v := .ty "int") rfl T.z_int bt_int rfl) pa_nil))))) (pw_or (pt_val (pe_callB call_isinst rfl T.z_isinstance bt_isinstance (pa_cons (pe_ix ix_list (pv 2) (pv 4) (fun _ _ => rfl)) (pa_cons (pe_bltn (v := .ty "bool") rfl T.z_bool bt_bool rfl) pa_nil)))) (pw_or1 (pt_cmpR op_ne (pe_ix ix_list (pv 2) (pv 4) (fun _ _ => rfl)) (pe_ix ix_list (pv 3) (pv 4) (fun _ _ => rfl)) (nomark _)))))) (pss_one (ps_ret pe_bl)) pss_nil))))))
    (pss_one (ps_ret pe_bl))))), ?_⟩
  simp only [a_izip, a_drop_nx, a_raise, a_seq, a_next, a_drop, a_ret, a_retN, a_if, a_asg, a_gname, a_gsub, a_gtup, a_gnil, a_gcons, a_aug, a_augS, a_ipI, a_var, a_c, a_op, a_un, a_rI, a_rI0, a_rU, a_eqI, a_neI, a_eqB, a_neB, a_tB, a_test, a_and, a_or, a_not, a_andV, a_orV, a_notV, a_nil, a_cons, a_lst, a_tup, a_call, a_cb, a_bm0, a_bm, a_sl, a_nopart, a_part, a_tyI, a_for, a_comp, a_ilist, a_irng1, a_irng2, a_irng3, a_cxK, and_assoc, a_irev, a_ienum, a_cat, a_rep, a_pop, a_clear, a_rslL, a_ixL, a_ixT, a_setL, a_app,
    List.getElem?_cons_zero, List.getElem?_cons_succ, List.set_cons_zero, List.set_cons_succ, Option.some.injEq, V.int.injEq, V.bl.injEq, V.ref.injEq, V.ty.injEq, exists_eq_left', exists_eq_left, exists_and_left, decide_eq_true_eq, List.cons_append, List.nil_append, List.append_nil, List.cons.injEq, and_true, true_and, Bool.not_eq_true', decide_eq_false_iff_not, ite_true, ite_false, Bool.false_eq_true, if_true, if_false, List.length_cons, List.length_nil, L2.start, List.map_cons, List.map_nil, List.replicate_succ, List.replicate_zero]
  refine ⟨_, .lst hA, true, rfl, ?_⟩
  rw [if_neg (by decide)]
  refine ⟨_, .inl (SqL.of hA), _, .inl hB, ?_⟩
  have e1 := la.len
  have e2 := lb.len
  rw [List.length_map, List.length_map, e1, e2, if_neg (by simp)]
  refine ⟨_, SqL.of hA, _, hB, ?_⟩
  obtain ⟨Pv, hPv⟩ : ∃ Pv : Nat → L2.St → Hp → Prop, ∀ i σ H', Pv i σ H' ↔ ∃ r2 r3 r4 : Option V, σ = [some (V.ref a), some (V.ref b), r2, r3, r4] ∧ Same H H' := ⟨_, fun _ _ _ => Iff.rfl⟩
  refine lp_zip (xs := as.map V.ref) (ys := bs.map V.ref) Pv ((hPv _ _ _).mpr ⟨none, none, none, rfl, Same.refl _⟩) (fun i σ H' _ _ z => by obtain ⟨_, _, _, _, z⟩ := (hPv i σ H').mp z; exact ⟨SqL.of (z _ _ hA), z.seq hB⟩) ?_ ?_
  · intro i v1 v2 p σ H' hv1 hv2 hp np
    obtain ⟨r2, r3, r4, rfl, sP⟩ := (hPv _ _ _).mp hp
    obtain ⟨a1, d, rfl, ha1, hd1, _⟩ := (la.ll (K := K)).nth hv1
    have ea := la.get i a1 d ha1 hd1
    obtain ⟨b1, d', rfl, hb1, hd2, hB1⟩ := lb.nth hv2
    obtain rfl : d' = d := by rw [hd1] at hd2; exact (Option.some.inj hd2).symm
    have ld := l2 d' (List.mem_of_getElem? hd1)
    have u1 := sP.trans (same_upd np (.tup [V.ref a1, V.ref b1]))
    simp only [a_izip, a_drop_nx, a_raise, a_seq, a_next, a_drop, a_ret, a_retN, a_if, a_asg, a_gname, a_gsub, a_gtup, a_gnil, a_gcons, a_aug, a_augS, a_ipI, a_var, a_c, a_op, a_un, a_rI, a_rI0, a_rU, a_eqI, a_neI, a_eqB, a_neB, a_tB, a_test, a_and, a_or, a_not, a_andV, a_orV, a_notV, a_nil, a_cons, a_lst, a_tup, a_call, a_cb, a_bm0, a_bm, a_sl, a_nopart, a_part, a_tyI, a_for, a_comp, a_ilist, a_irng1, a_irng2, a_irng3, a_cxK, and_assoc, a_irev, a_ienum, a_cat, a_rep, a_pop, a_clear, a_rslL, a_ixL, a_ixT, a_setL, a_app,
    List.getElem?_cons_zero, List.getElem?_cons_succ, List.set_cons_zero, List.set_cons_succ, Option.some.injEq, V.int.injEq, V.bl.injEq, V.ref.injEq, V.ty.injEq, exists_eq_left', exists_eq_left, exists_and_left, decide_eq_true_eq, List.cons_append, List.nil_append, List.append_nil, List.cons.injEq, and_true, true_and, Bool.not_eq_true', decide_eq_false_iff_not, ite_true, ite_false, Bool.false_eq_true, if_true, if_false, List.length_cons, List.length_nil, L2.start, List.map_cons, List.map_nil, List.replicate_succ, List.replicate_zero]
    refine ⟨_, SqT.of upd_same, rfl, ?_⟩
    simp only [a_izip, a_drop_nx, a_raise, a_seq, a_next, a_drop, a_ret, a_retN, a_if, a_asg, a_gname, a_gsub, a_gtup, a_gnil, a_gcons, a_aug, a_augS, a_ipI, a_var, a_c, a_op, a_un, a_rI, a_rI0, a_rU, a_eqI, a_neI, a_eqB, a_neB, a_tB, a_test, a_and, a_or, a_not, a_andV, a_orV, a_notV, a_nil, a_cons, a_lst, a_tup, a_call, a_cb, a_bm0, a_bm, a_sl, a_nopart, a_part, a_tyI, a_for, a_comp, a_ilist, a_irng1, a_irng2, a_irng3, a_cxK, and_assoc, a_irev, a_ienum, a_cat, a_rep, a_pop, a_clear, a_rslL, a_ixL, a_ixT, a_setL, a_app,
    List.getElem?_cons_zero, List.getElem?_cons_succ, List.set_cons_zero, List.set_cons_succ, Option.some.injEq, V.int.injEq, V.bl.injEq, V.ref.injEq, V.ty.injEq, exists_eq_left', exists_eq_left, exists_and_left, decide_eq_true_eq, List.cons_append, List.nil_append, List.append_nil, List.cons.injEq, and_true, true_and, Bool.not_eq_true', decide_eq_false_iff_not, ite_true, ite_false, Bool.false_eq_true, if_true, if_false, List.length_cons, List.length_nil, L2.start, List.map_cons, List.map_nil, List.replicate_succ, List.replicate_zero]
    have ea1 := u1 _ _ ea
    have eb1 := u1.seq hB1
    generalize upd H' p (.tup [V.ref a1, V.ref b1]) = G at u1 ea1 eb1 ⊢
    refine ⟨_, .lst ea1, true, rfl, ?_⟩
    rw [if_neg (by decide)]
    refine ⟨_, .inl (SqL.of ea1), _, .inl eb1, ?_⟩
    rw [if_neg (by simp)]
    refine ⟨_, .inl eb1, by rw [List.length_map]; omega, by rw [List.length_map]; omega, ?_⟩
    rw [List.length_map, Int.toNat_natCast]
    refine lp_range (fun i σ H' => (∃ r, σ = [some (V.ref a), some (V.ref b), some (V.ref a1), some (V.ref b1), r]) ∧ H' = G) ⟨⟨_, rfl⟩, rfl⟩ ?_ ?_
    · rintro j σ H2 hj ⟨⟨r, rfl⟩, rfl⟩
      have e0 : (0 : Int) + (j : Int) = (j : Int) := Int.zero_add _
      simp only [a_izip, a_drop_nx, a_raise, a_seq, a_next, a_drop, a_ret, a_retN, a_if, a_asg, a_gname, a_gsub, a_gtup, a_gnil, a_gcons, a_aug, a_augS, a_ipI, a_var, a_c, a_op, a_un, a_rI, a_rI0, a_rU, a_eqI, a_neI, a_eqB, a_neB, a_tB, a_test, a_and, a_or, a_not, a_andV, a_orV, a_notV, a_nil, a_cons, a_lst, a_tup, a_call, a_cb, a_bm0, a_bm, a_sl, a_nopart, a_part, a_tyI, a_for, a_comp, a_ilist, a_irng1, a_irng2, a_irng3, a_cxK, and_assoc, a_irev, a_ienum, a_cat, a_rep, a_pop, a_clear, a_rslL, a_ixL, a_ixT, a_setL, a_app,
    List.getElem?_cons_zero, List.getElem?_cons_succ, List.set_cons_zero, List.set_cons_succ, Option.some.injEq, V.int.injEq, V.bl.injEq, V.ref.injEq, V.ty.injEq, exists_eq_left', exists_eq_left, exists_and_left, decide_eq_true_eq, List.cons_append, List.nil_append, List.append_nil, List.cons.injEq, and_true, true_and, Bool.not_eq_true', decide_eq_false_iff_not, ite_true, ite_false, Bool.false_eq_true, if_true, if_false, List.length_cons, List.length_nil, L2.start, List.map_cons, List.map_nil, List.replicate_succ, List.replicate_zero, e0]
      refine ⟨_, SqL.of ea1, _, at_int hj, _, .int _, true, rfl, ?_⟩
      rw [if_neg (by decide)]
      refine ⟨_, SqL.of ea1, _, at_int hj, _, .int _, false, rfl, ?_⟩
      rw [if_neg (by decide)]
      refine ⟨_, SqL.of ea1, _, at_int hj, _, eb1, _, at_int hj, ?_⟩
      simp only [a_izip, a_drop_nx, a_raise, a_seq, a_next, a_drop, a_ret, a_retN, a_if, a_asg, a_gname, a_gsub, a_gtup, a_gnil, a_gcons, a_aug, a_augS, a_ipI, a_var, a_c, a_op, a_un, a_rI, a_rI0, a_rU, a_eqI, a_neI, a_eqB, a_neB, a_tB, a_test, a_and, a_or, a_not, a_andV, a_orV, a_notV, a_nil, a_cons, a_lst, a_tup, a_call, a_cb, a_bm0, a_bm, a_sl, a_nopart, a_part, a_tyI, a_for, a_comp, a_ilist, a_irng1, a_irng2, a_irng3, a_cxK, and_assoc, a_irev, a_ienum, a_cat, a_rep, a_pop, a_clear, a_rslL, a_ixL, a_ixT, a_setL, a_app,
    List.getElem?_cons_zero, List.getElem?_cons_succ, List.set_cons_zero, List.set_cons_succ, Option.some.injEq, V.int.injEq, V.bl.injEq, V.ref.injEq, V.ty.injEq, exists_eq_left', exists_eq_left, exists_and_left, decide_eq_true_eq, List.cons_append, List.nil_append, List.append_nil, List.cons.injEq, and_true, true_and, Bool.not_eq_true', decide_eq_false_iff_not, ite_true, ite_false, Bool.false_eq_true, if_true, if_false, List.length_cons, List.length_nil, L2.start, List.map_cons, List.map_nil, List.replicate_succ, List.replicate_zero]
      rw [if_neg (by simp)]
      exact ⟨_, rfl⟩
    · rintro σ H2 ⟨⟨r, rfl⟩, rfl⟩
      exact (hPv _ _ _).mpr ⟨_, _, _, rfl, u1⟩
  · intro σ H' hp
    obtain ⟨r2, r3, r4, rfl, sP⟩ := (hPv _ _ _).mp hp
    simp only [a_izip, a_drop_nx, a_raise, a_seq, a_next, a_drop, a_ret, a_retN, a_if, a_asg, a_gname, a_gsub, a_gtup, a_gnil, a_gcons, a_aug, a_augS, a_ipI, a_var, a_c, a_op, a_un, a_rI, a_rI0, a_rU, a_eqI, a_neI, a_eqB, a_neB, a_tB, a_test, a_and, a_or, a_not, a_andV, a_orV, a_notV, a_nil, a_cons, a_lst, a_tup, a_call, a_cb, a_bm0, a_bm, a_sl, a_nopart, a_part, a_tyI, a_for, a_comp, a_ilist, a_irng1, a_irng2, a_irng3, a_cxK, and_assoc, a_irev, a_ienum, a_cat, a_rep, a_pop, a_clear, a_rslL, a_ixL, a_ixT, a_setL, a_app,
    List.getElem?_cons_zero, List.getElem?_cons_succ, List.set_cons_zero, List.set_cons_succ, Option.some.injEq, V.int.injEq, V.bl.injEq, V.ref.injEq, V.ty.injEq, exists_eq_left', exists_eq_left, exists_and_left, decide_eq_true_eq, List.cons_append, List.nil_append, List.append_nil, List.cons.injEq, and_true, true_and, Bool.not_eq_true', decide_eq_false_iff_not, ite_true, ite_false, Bool.false_eq_true, if_true, if_false, List.length_cons, List.length_nil, L2.start, List.map_cons, List.map_nil, List.replicate_succ, List.replicate_zero]
    exact q _ sP
/-! #### split -/
theorem cut_from (bs : List Addr) (k : Nat) : cutV (bs.map V.ref) (some (k : Int)) none = (bs.drop k).map V.ref := by
  unfold cutV
  rw [HT.sIx_nat, HT.sIx_none, List.length_map, ← List.map_drop, List.take_of_length_le (by rw [List.length_map, List.length_drop]; omega)]
  congr 1
  by_cases z : k ≤ bs.length
  · rw [Nat.min_eq_left z]
  · rw [Nat.min_eq_right (by omega), List.drop_of_length_le (Nat.le_refl _), List.drop_of_length_le (by omega)]
theorem cut_upto (bs : List Addr) (k : Nat) : cutV (bs.map V.ref) none (some (k : Int)) = (bs.take k).map V.ref := by
  unfold cutV
  rw [HT.sIx_nat, HT.sIx_none, List.length_map, List.drop_zero, ← List.map_take]
  congr 1
  by_cases z : k ≤ bs.length
  · rw [Nat.min_eq_left z]; rfl
  · rw [Nat.min_eq_right (by omega), Nat.sub_zero, List.take_of_length_le (Nat.le_refl _), List.take_of_length_le (by omega)]
theorem LH.rot {H : Hp} {as : List Addr} {ps : List (List Int)} (h : LH H as ps) (k : Nat) : LH H (as.drop k ++ as.take k) (ps.drop k ++ ps.take k) := by
  have l := h.len
  refine ⟨by simp [l], fun i a p h1 h2 => ?_⟩
  by_cases z : i < (as.drop k).length
  · rw [List.getElem?_append_left z, List.getElem?_drop] at h1
    rw [List.getElem?_append_left (by rw [List.length_drop] at z ⊢; omega), List.getElem?_drop] at h2
    exact h.get _ a p h1 h2
  · rw [List.getElem?_append_right (by omega)] at h1
    rw [List.getElem?_append_right (by rw [List.length_drop] at z ⊢; omega)] at h2
    rw [List.length_drop] at z h1 h2
    rw [← l] at h2
    have y : i - (as.length - k) < k := by
      have := (List.getElem?_eq_some_iff.mp h1).1
      rw [List.length_take] at this; omega
    rw [List.getElem?_take_of_lt y] at h1 h2
    exact h.get _ a p h1 h2
def spParts (K : PySem.W.Frag) : Sp := fun vs H Q _ => ∃ (a : Addr) (ns : List Int), vs = [.ref a] ∧ SqL K H a (ns.map V.int) ∧ ns.length ≤ 63 ∧ ∀ ps : List (List Int), Parts ps → ps.length ≤ 5 → ∀ (R : Addr) (as : List Addr) H', Same H H' → H' R = some (.lst (as.map V.ref)) → LH H' as ps → Q (.ref R) H'
theorem ok__law_parts {P : Program} {w : World} {K : PySem.W.Frag} {mg : Str → Option Value} {base : Heap} (T : Tx K mg) : FnOk P w K mg base CX0 3 T.a__law_parts T.fd__law_parts ["_law_script"] (spParts K) := by
  refine T.F__law_parts.ok sc__law_parts (fun vs H Q E h => ?_) (fun cdv A outer s H vs Q E hr h => ?_)
  · obtain ⟨a, ns, rfl, _⟩ := h
    rfl
  obtain ⟨a, ns, rfl, hA, hl, q⟩ := h
  refine ⟨_, ((pss_cons (ps_set (i := 1) sc__law_parts.nd rfl (Or.inl rfl) (pe_call (FnOk.mono (ok__law_cut T) (by decide)) hr rfl T.m__law_cut T.F__law_cut.kp T.b__law_cut .nil pass0 (pa_cons (pe_lst (pa_cons (pe_op op_sub (pe_op op_mod (pe_call (FnOk.mono (ok__law_cell_at T) (by decide)) hr rfl T.m__law_cell_at T.F__law_cell_at.kp T.b__law_cell_at .nil pass0 (pa_cons (pv 0) (pa_cons pe_int pa_nil))) pe_int) pe_int) (pa_cons (pe_op op_sub (pe_op op_mod (pe_call (FnOk.mono (ok__law_cell_at T) (by decide)) hr rfl T.m__law_cell_at T.F__law_cell_at.kp T.b__law_cell_at .nil pass0 (pa_cons (pv 0) (pa_cons pe_int pa_nil))) pe_int) pe_int) pa_nil))) pa_nil)))
    (pss_mid (ps_if (pt_cmpR (op_eqD hr.units) (pv 1) (pe_lst pa_nil) (nomark _)) (pss_one (ps_set (i := 1) sc__law_parts.nd rfl (Or.inl rfl) (pe_lst (pa_cons pe_int pa_nil)))) pss_nil)
    (pss_cons (ps_set (i := 2) sc__law_parts.nd rfl (Or.inl rfl) (pe_call (FnOk.mono (ok__law_product T) (by decide)) hr rfl T.m__law_product T.F__law_product.kp T.b__law_product .nil pass0 (pa_cons (pv 1) (pa_cons (pe_call (FnOk.mono (ok__law_cut T) (by decide)) hr rfl T.m__law_cut T.F__law_cut.kp T.b__law_cut .nil pass0 (pa_cons (pe_lst (pa_cons (pe_op op_sub (pe_op op_mod (pe_call (FnOk.mono (ok__law_cell_at T) (by decide)) hr rfl T.m__law_cell_at T.F__law_cell_at.kp T.b__law_cell_at .nil pass0 (pa_cons (pv 0) (pa_cons pe_int pa_nil))) pe_int) pe_int) (pa_cons (pe_op op_sub (pe_op op_mod (pe_call (FnOk.mono (ok__law_cell_at T) (by decide)) hr rfl T.m__law_cell_at T.F__law_cell_at.kp T.b__law_cell_at .nil pass0 (pa_cons (pv 0) (pa_cons pe_int pa_nil))) pe_int) pe_int) pa_nil))) pa_nil)) pa_nil))))
    (pss_mid (ps_if (pt_cmpR (op_eqD hr.units) (pv 2) (pe_lst pa_nil) (nomark _)) (pss_one (ps_set (i := 2) sc__law_parts.nd rfl (Or.inl rfl) (pe_lst (pa_cons pe_int pa_nil)))) pss_nil)
    (pss_cons (ps_asg (pe_op op_add (pe_ix ix_list (pv 2) pe_int (fun _ _ => rfl)) pe_int) (pg_sub (pv 2) pe_int set_list))
    (pss_cons (ps_set (i := 3) sc__law_parts.nd rfl (Or.inl rfl) (pe_lst (pa_cons (pv 1) (pa_cons (pe_call (FnOk.mono (ok__law_cut T) (by decide)) hr rfl T.m__law_cut T.F__law_cut.kp T.b__law_cut .nil pass0 (pa_cons (pv 2) pa_nil)) pa_nil))))
    (pss_cons (ps_for PassesOwn.never rfl (pi_list (pe_slice sl_list (pv 0) (po_some pe_int) (po_some (pe_op op_add pe_int (pe_op op_mod (pe_call (FnOk.mono (ok__law_cell_at T) (by decide)) hr rfl T.m__law_cell_at T.F__law_cell_at.kp T.b__law_cell_at .nil pass0 (pa_cons (pv 0) (pa_cons pe_int pa_nil))) pe_int))))) (pg_name (i := 4) sc__law_parts.nd rfl (Or.inl rfl)) (pss_one (ps_expr (pe_bm PySem.F.plainAttrs_list PySem.F.slot_list_append PySem.F.type_list_append mt_append (pv 3) (pa_cons (pe_call (FnOk.mono (ok__law_cut T) (by decide)) hr rfl T.m__law_cut T.F__law_cut.kp T.b__law_cut .nil pass0 (pa_cons (pe_lst (pa_cons (pe_op op_sub (pe_op op_mod (pv 4) pe_int) pe_int) (pa_cons (pe_op op_sub (pe_op op_mod (pe_op op_fdiv (pv 4) pe_int) pe_int) pe_int) pa_nil))) pa_nil)) pa_nil)))))
    (pss_cons (ps_set (i := 5) sc__law_parts.nd rfl (Or.inl rfl) (pe_op op_mod (pe_op op_fdiv (pe_call (FnOk.mono (ok__law_cell_at T) (by decide)) hr rfl T.m__law_cell_at T.F__law_cell_at.kp T.b__law_cell_at .nil pass0 (pa_cons (pv 0) (pa_cons pe_int pa_nil))) pe_int) (pe_callB call_len_seq rfl T.z_len bt_len (pa_cons (pv 3) pa_nil))))
    (pss_one (ps_ret (pe_op op_cat (pe_slice sl_list (pv 3) (po_some (pv 5)) po_none) (pe_slice sl_list (pv 3) po_none (po_some (pv 5))))))))))))))), ?_⟩
  simp only [a_izip, a_drop_nx, a_raise, a_seq, a_next, a_drop, a_ret, a_retN, a_if, a_asg, a_gname, a_gsub, a_gtup, a_gnil, a_gcons, a_aug, a_augS, a_ipI, a_var, a_c, a_op, a_un, a_rI, a_rI0, a_rU, a_eqI, a_neI, a_eqB, a_neB, a_tB, a_test, a_and, a_or, a_not, a_andV, a_orV, a_notV, a_nil, a_cons, a_lst, a_tup, a_call, a_cb, a_bm0, a_bm, a_sl, a_nopart, a_part, a_tyI, a_for, a_comp, a_ilist, a_irng1, a_irng2, a_irng3, a_cxK, and_assoc, a_irev, a_ienum, a_cat, a_rep, a_pop, a_clear, a_rslL, a_ixL, a_ixT, a_setL, a_app,
    List.getElem?_cons_zero, List.getElem?_cons_succ, List.set_cons_zero, List.set_cons_succ, Option.some.injEq, V.int.injEq, V.bl.injEq, V.ref.injEq, V.ty.injEq, exists_eq_left', exists_eq_left, exists_and_left, decide_eq_true_eq, List.cons_append, List.nil_append, List.append_nil, List.cons.injEq, and_true, true_and, Bool.not_eq_true', decide_eq_false_iff_not, ite_true, ite_false, Bool.false_eq_true, if_true, if_false, List.length_cons, List.length_nil, L2.start, List.map_cons, List.map_nil, List.replicate_succ, List.replicate_zero]
  refine ⟨a, ns, 1, rfl, hA, _, rfl, by decide, a, ns, 2, rfl, hA, _, rfl, by decide, by decide, fun p np => ?_⟩
  have b4 : ∀ x y : Int, ∀ z ∈ [x % 9 - 4, y % 9 - 4], z.natAbs ≤ 4 := fun x y z hz => by simp at hz; omega
  have u1 := same_upd np (.lst [V.int (cell ns 1 % 9 - 4), V.int (cell ns 2 % 9 - 4)])
  refine ⟨p, [cell ns 1 % 9 - 4, cell ns 2 % 9 - 4], rfl, SqL.of upd_same, by simp, fun F H1 s1 nF eF => ?_⟩
  have s01 := u1.trans s1
  have lt2 : ∀ x y : Int, (trim [x, y]).length ≤ 2 := fun x y => Nat.le_trans (trim_len _) (by simp)
  obtain ⟨M, hM⟩ : ∃ M : L2.St → Hp → Prop, ∀ σ Hx, M σ Hx ↔ ∃ (F : Addr) (h : List Int), σ = [some (V.ref a), some (V.ref F), none, none, none, none] ∧ Hx F = some (.lst (h.map V.int)) ∧ Nml h ∧ h ≠ [] ∧ h.length ≤ 2 ∧ (∀ z ∈ h, z.natAbs ≤ 4) ∧ Same H Hx := ⟨_, fun _ _ => Iff.rfl⟩
  refine mid_of M ?_ ?_
  · simp only [a_izip, a_drop_nx, a_raise, a_seq, a_next, a_drop, a_ret, a_retN, a_if, a_asg, a_gname, a_gsub, a_gtup, a_gnil, a_gcons, a_aug, a_augS, a_ipI, a_var, a_c, a_op, a_un, a_rI, a_rI0, a_rU, a_eqI, a_neI, a_eqB, a_neB, a_tB, a_test, a_and, a_or, a_not, a_andV, a_orV, a_notV, a_nil, a_cons, a_lst, a_tup, a_call, a_cb, a_bm0, a_bm, a_sl, a_nopart, a_part, a_tyI, a_for, a_comp, a_ilist, a_irng1, a_irng2, a_irng3, a_cxK, and_assoc, a_irev, a_ienum, a_cat, a_rep, a_pop, a_clear, a_rslL, a_ixL, a_ixT, a_setL, a_app,
    List.getElem?_cons_zero, List.getElem?_cons_succ, List.set_cons_zero, List.set_cons_succ, Option.some.injEq, V.int.injEq, V.bl.injEq, V.ref.injEq, V.ty.injEq, exists_eq_left', exists_eq_left, exists_and_left, decide_eq_true_eq, List.cons_append, List.nil_append, List.append_nil, List.cons.injEq, and_true, true_and, Bool.not_eq_true', decide_eq_false_iff_not, ite_true, ite_false, Bool.false_eq_true, if_true, if_false, List.length_cons, List.length_nil, L2.start, List.map_cons, List.map_nil, List.replicate_succ, List.replicate_zero]
    refine ⟨Nat.zero_le _, fun p1 np1 => ?_⟩
    have w1 := same_upd np1 (.lst [])
    refine ⟨_, DV.ints (SqL.of (w1 _ _ eF)), _, DV.ints (ns := []) (SqL.of upd_same), lay_self _, lay_self _, dep_self _, ?_⟩
    rw [eqv_dec]
    refine ite2 (fun h => ⟨by decide, fun p2 np2 => ?_⟩) (fun h => ?_)
    · exact (hM _ _).mpr ⟨p2, [3], rfl, upd_same, nml_c (by decide), by simp, by simp, by simp, s01.trans (w1.trans (same_upd np2 _))⟩
    · exact (hM _ _).mpr ⟨F, _, rfl, w1 _ _ eF, trim_nml _, fun z => h (decide_eq_true z), lt2 _ _, trim_le (b4 _ _), s01.trans w1⟩
  intro σ H2 hm
  obtain ⟨Fh, h, rfl, eh, nh, h0, lh, bh, s2⟩ := (hM _ _).mp hm
  clear hm hM M
  simp only [a_izip, a_drop_nx, a_raise, a_seq, a_next, a_drop, a_ret, a_retN, a_if, a_asg, a_gname, a_gsub, a_gtup, a_gnil, a_gcons, a_aug, a_augS, a_ipI, a_var, a_c, a_op, a_un, a_rI, a_rI0, a_rU, a_eqI, a_neI, a_eqB, a_neB, a_tB, a_test, a_and, a_or, a_not, a_andV, a_orV, a_notV, a_nil, a_cons, a_lst, a_tup, a_call, a_cb, a_bm0, a_bm, a_sl, a_nopart, a_part, a_tyI, a_for, a_comp, a_ilist, a_irng1, a_irng2, a_irng3, a_cxK, and_assoc, a_irev, a_ienum, a_cat, a_rep, a_pop, a_clear, a_rslL, a_ixL, a_ixT, a_setL, a_app,
    List.getElem?_cons_zero, List.getElem?_cons_succ, List.set_cons_zero, List.set_cons_succ, Option.some.injEq, V.int.injEq, V.bl.injEq, V.ref.injEq, V.ty.injEq, exists_eq_left', exists_eq_left, exists_and_left, decide_eq_true_eq, List.cons_append, List.nil_append, List.append_nil, List.cons.injEq, and_true, true_and, Bool.not_eq_true', decide_eq_false_iff_not, ite_true, ite_false, Bool.false_eq_true, if_true, if_false, List.length_cons, List.length_nil, L2.start, List.map_cons, List.map_nil, List.replicate_succ, List.replicate_zero]
  refine ⟨a, ns, 3, rfl, s2.seq hA, _, rfl, by decide, a, ns, 4, rfl, s2.seq hA, _, rfl, by decide, by decide, fun p1 np1 => ?_⟩
  have w1 := same_upd np1 (.lst [V.int (cell ns 3 % 9 - 4), V.int (cell ns 4 % 9 - 4)])
  refine ⟨p1, [cell ns 3 % 9 - 4, cell ns 4 % 9 - 4], rfl, SqL.of upd_same, by simp, fun Fm H3 s3 nFm em => ?_⟩
  have bm := trim_le (b4 (cell ns 3) (cell ns 4))
  have lm := lt2 (cell ns 3 % 9 - 4) (cell ns 4 % 9 - 4)
  have nm := trim_nml [cell ns 3 % 9 - 4, cell ns 4 % 9 - 4]
  generalize trim [cell ns 3 % 9 - 4, cell ns 4 % 9 - 4] = m at bm lm nm em
  have s23 := w1.trans s3
  have eh3 := s23 _ _ eh
  have bd3 : ∀ xs : List Int, (∀ z ∈ xs, z.natAbs ≤ 4) → ∀ z ∈ xs, Bd 3 z := fun xs hx z hz => Bd.of_lt (m := 5) (by have := hx z hz; omega) (by decide)
  refine ⟨Fh, Fm, h, m, 3, 3, rfl, SqL.of eh3, SqL.of em, by omega, by omega, bd3 _ bh, bd3 _ bm, by decide, fun ws nw lw cw W H4 s4 nW eW => ?_⟩
  have ew := pd_ext nw cw
  have bw : ∀ z ∈ ws, z.natAbs ≤ 32 := fun z hz => by
    rw [ew] at hz
    exact Nat.le_trans (pd_le bh bm z hz) (Nat.mul_le_mul lh (Nat.le_refl 16))
  have lw3 : ws.length ≤ 3 := by rw [ew]; have := pd_len nh nm; omega
  have vw : ∀ n, val n ws = val n h * val n m := fun n => by rw [ew, pd_val]
  have s24 := s23.trans s4
  have sH4 := s2.trans s24
  have eh4 := s24 _ _ eh
  obtain ⟨M, hM⟩ : ∃ M : L2.St → Hp → Prop, ∀ σ Hx, M σ Hx ↔ ∃ (W : Addr) (x : Int) (xs : List Int), σ = [some (V.ref a), some (V.ref Fh), some (V.ref W), none, none, none] ∧ Hx W = some (.lst ((x :: xs).map V.int)) ∧ W ≠ Fh ∧ H W = none ∧ xs.length ≤ 2 ∧ (∀ z ∈ x :: xs, z.natAbs ≤ 32) ∧ (∀ n, val n (x :: xs) = val n h * val n m) ∧ Hx Fh = some (.lst (h.map V.int)) ∧ Same H Hx := ⟨_, fun _ _ => Iff.rfl⟩
  have nWF : W ≠ Fh := fun z => by rw [z, eh3] at nW; cases nW
  refine mid_of M ?_ ?_
  · simp only [a_izip, a_drop_nx, a_raise, a_seq, a_next, a_drop, a_ret, a_retN, a_if, a_asg, a_gname, a_gsub, a_gtup, a_gnil, a_gcons, a_aug, a_augS, a_ipI, a_var, a_c, a_op, a_un, a_rI, a_rI0, a_rU, a_eqI, a_neI, a_eqB, a_neB, a_tB, a_test, a_and, a_or, a_not, a_andV, a_orV, a_notV, a_nil, a_cons, a_lst, a_tup, a_call, a_cb, a_bm0, a_bm, a_sl, a_nopart, a_part, a_tyI, a_for, a_comp, a_ilist, a_irng1, a_irng2, a_irng3, a_cxK, and_assoc, a_irev, a_ienum, a_cat, a_rep, a_pop, a_clear, a_rslL, a_ixL, a_ixT, a_setL, a_app,
    List.getElem?_cons_zero, List.getElem?_cons_succ, List.set_cons_zero, List.set_cons_succ, Option.some.injEq, V.int.injEq, V.bl.injEq, V.ref.injEq, V.ty.injEq, exists_eq_left', exists_eq_left, exists_and_left, decide_eq_true_eq, List.cons_append, List.nil_append, List.append_nil, List.cons.injEq, and_true, true_and, Bool.not_eq_true', decide_eq_false_iff_not, ite_true, ite_false, Bool.false_eq_true, if_true, if_false, List.length_cons, List.length_nil, L2.start, List.map_cons, List.map_nil, List.replicate_succ, List.replicate_zero]
    refine ⟨Nat.zero_le _, fun p2 np2 => ?_⟩
    have w5 := same_upd np2 (.lst [])
    refine ⟨_, DV.ints (SqL.of (w5 _ _ eW)), _, DV.ints (ns := []) (SqL.of upd_same), lay_self _, lay_self _, dep_self _, ?_⟩
    rw [eqv_dec]
    refine ite2 (fun hz => ⟨by decide, fun p3 np3 => ?_⟩) (fun hz => ?_)
    · have w6 := w5.trans (same_upd np3 (.lst [V.int 0]))
      have e0 : ws = [] := of_decide_eq_true hz
      exact (hM _ _).mpr ⟨p3, 0, [], rfl, upd_same, (fun z => by rw [z, w5 _ _ eh4] at np3; cases np3), (sH4.trans w5).free np3, by simp, by simp, fun n => by rw [← vw n, e0]; simp [val], w6 _ _ eh4, sH4.trans w6⟩
    · cases ws with
      | nil => exact absurd (decide_eq_true rfl) hz
      | cons x xs => exact (hM _ _).mpr ⟨W, x, xs, rfl, w5 _ _ eW, nWF, (s2.trans s23).free nW, by simp at lw3; omega, bw, vw, w5 _ _ eh4, sH4.trans w5⟩
  intro σ H5 hm
  obtain ⟨W, x, xs, rfl, eW, nWF, nW0, lx, bx, vx, eh5, s5⟩ := (hM _ _).mp hm
  clear hm hM M
  simp only [a_izip, a_drop_nx, a_raise, a_seq, a_next, a_drop, a_ret, a_retN, a_if, a_asg, a_gname, a_gsub, a_gtup, a_gnil, a_gcons, a_aug, a_augS, a_ipI, a_var, a_c, a_op, a_un, a_rI, a_rI0, a_rU, a_eqI, a_neI, a_eqB, a_neB, a_tB, a_test, a_and, a_or, a_not, a_andV, a_orV, a_notV, a_nil, a_cons, a_lst, a_tup, a_call, a_cb, a_bm0, a_bm, a_sl, a_nopart, a_part, a_tyI, a_for, a_comp, a_ilist, a_irng1, a_irng2, a_irng3, a_cxK, and_assoc, a_irev, a_ienum, a_cat, a_rep, a_pop, a_clear, a_rslL, a_ixL, a_ixT, a_setL, a_app,
    List.getElem?_cons_zero, List.getElem?_cons_succ, List.set_cons_zero, List.set_cons_succ, Option.some.injEq, V.int.injEq, V.bl.injEq, V.ref.injEq, V.ty.injEq, exists_eq_left', exists_eq_left, exists_and_left, decide_eq_true_eq, List.cons_append, List.nil_append, List.append_nil, List.cons.injEq, and_true, true_and, Bool.not_eq_true', decide_eq_false_iff_not, ite_true, ite_false, Bool.false_eq_true, if_true, if_false, List.length_cons, List.length_nil, L2.start, List.map_cons, List.map_nil, List.replicate_succ, List.replicate_zero]
  have a0 : atI ((x :: xs).map V.int) 0 = some (V.int x) := at_int (show 0 < (x :: xs).length by simp)
  refine ⟨_, SqL.of eW, _, a0, _, rfl, _, eW, 0, (show ixN ((x :: xs).map V.int).length ((0 : Nat) : Int) = some 0 from ixN_nat (by simp)), ?_⟩
  have eset : (List.map V.int (x :: xs)).set 0 (V.int (x + 1)) = ((x + 1) :: xs).map V.int := rfl
  rw [eset]
  have s6 : Same H (upd H5 W (.lst (((x + 1) :: xs).map V.int))) := s5.more nW0
  have eh6 : upd H5 W (.lst (((x + 1) :: xs).map V.int)) Fh = some (.lst (h.map V.int)) := by rw [upd_ne (Ne.symm nWF)]; exact eh5
  have eW6 : upd H5 W (.lst (((x + 1) :: xs).map V.int)) W = _ := upd_same
  generalize upd H5 W (.lst (((x + 1) :: xs).map V.int)) = H6 at s6 eh6 eW6 ⊢
  refine ⟨W, (x + 1) :: xs, rfl, SqL.of eW6, by simp; omega, fun Ft H7 s7 nFt et => ?_⟩
  have ht : Sml (trim ((x + 1) :: xs)) := ⟨trim_nml _, Nat.le_trans (trim_len _) (by simp; omega), trim_le fun z hz => by
    rcases List.mem_cons.mp hz with rfl | hz
    · have := bx x (by simp); omega
    · have := bx z (by simp [hz]); omega⟩
  have vt : ∀ n, val n (trim ((x + 1) :: xs)) = val n h * val n m + 1 := fun n => by
    rw [val_trim]
    have := vx n
    simp only [val] at this ⊢
    omega
  generalize trim ((x + 1) :: xs) = t at ht vt et
  have hh : Sml h := ⟨nh, by omega, fun z hz => by have := bh z hz; omega⟩
  have eh7 := s7 _ _ eh6
  have s07 := s6.trans s7
  refine ⟨by decide, fun D nD => ?_⟩
  have w8 := same_upd nD (.lst [V.ref Fh, V.ref Ft])
  have eD8 : upd H7 D (.lst [V.ref Fh, V.ref Ft]) D = some (.lst ([Fh, Ft].map V.ref)) := upd_same
  have lh8 : LH (upd H7 D (.lst [V.ref Fh, V.ref Ft])) [Fh, Ft] [h, t] := ((LH.nil _).snoc (w8 _ _ eh7)).snoc (w8 _ _ et)
  have nDH : H D = none := s07.free nD
  have nDb : D ∉ [Fh, Ft] := fun z => by
    simp at z
    rcases z with z | z
    · rw [z, eh7] at nD; cases nD
    · rw [z, et] at nD; cases nD
  have s8 := s07.trans w8
  generalize upd H7 D (.lst [V.ref Fh, V.ref Ft]) = H8 at eD8 lh8 s8 ⊢
  refine ⟨a, ns, 0, rfl, s8.seq hA, _, rfl, by decide, _, s8.seq hA, fun Pc nPc => ⟨⟨_, SqL.of upd_same⟩, ?_⟩⟩
  obtain ⟨k, hk, k3⟩ : ∃ k : Nat, (8 : Int) + cell ns 0 % 4 = ((8 + k : Nat) : Int) ∧ k ≤ 3 := ⟨(cell ns 0 % 4).toNat, by omega, by omega⟩
  rw [hk]
  have lcs : ((ns.drop (HT.sIx ns.length 0 (some ((8 : Nat) : Int)))).take (HT.sIx ns.length ns.length (some ((8 + k : Nat) : Int)) - HT.sIx ns.length 0 (some ((8 : Nat) : Int)))).length ≤ 3 := by
    rw [List.length_take, HT.sIx_nat, HT.sIx_nat]; omega
  rw [show (some 8 : Option Int) = some ((8 : Nat) : Int) from rfl, cutV_map]
  generalize ((ns.drop (HT.sIx ns.length 0 (some ((8 : Nat) : Int)))).take (HT.sIx ns.length ns.length (some ((8 + k : Nat) : Int)) - HT.sIx ns.length 0 (some ((8 : Nat) : Int)))) = cs at lcs ⊢
  have w9 := same_upd nPc (.lst (cs.map V.int))
  have eP9 : upd H8 Pc (.lst (cs.map V.int)) Pc = some (.lst (cs.map V.int)) := upd_same
  have nPD : Pc ≠ D := fun z => by rw [z, eD8] at nPc; cases nPc
  have eD9 := w9 _ _ eD8
  have lh9 := lh8.same w9
  have s9 := s8.trans w9
  generalize upd H8 Pc (.lst (cs.map V.int)) = H9 at eP9 eD9 lh9 s9 ⊢
  obtain ⟨Pv, hPv⟩ : ∃ Pv : Nat → L2.St → Hp → Prop, ∀ i σ H', Pv i σ H' ↔ ∃ (bs : List Addr) (rest : List (List Int)) (r4 : Option V), σ = [some (V.ref a), some (V.ref Fh), some (V.ref W), some (V.ref D), r4, none] ∧ H' D = some (.lst (bs.map V.ref)) ∧ LH H' bs (h :: t :: rest) ∧ rest.length = i ∧ (∀ r ∈ rest, Sml r ∧ r.length ≤ 2) ∧ D ∉ bs ∧ H' Pc = some (.lst (cs.map V.int)) ∧ Same H H' := ⟨_, fun _ _ _ => Iff.rfl⟩
  refine lp_list (xs := cs.map V.int) Pv ((hPv _ _ _).mpr ⟨[Fh, Ft], [], none, rfl, eD9, lh9, rfl, by simp, nDb, eP9, s9⟩) (fun i σ H' _ z => by obtain ⟨_, _, _, _, _, _, _, _, _, z, _⟩ := (hPv i σ H').mp z; exact SqL.of z) ?_ ?_
  · intro i v σ H' hv hp
    obtain ⟨bs, rest, r4, rfl, eD, lhb, lr, br, nb, eP, sP⟩ := (hPv _ _ _).mp hp
    rw [List.getElem?_map] at hv
    obtain ⟨c, hc, rfl⟩ := Option.map_eq_some_iff.mp hv
    have hi : i < cs.length := (List.getElem?_eq_some_iff.mp hc).1
    have lbb := lhb.len
    simp only [List.length_cons] at lbb
    simp only [a_izip, a_drop_nx, a_raise, a_seq, a_next, a_drop, a_ret, a_retN, a_if, a_asg, a_gname, a_gsub, a_gtup, a_gnil, a_gcons, a_aug, a_augS, a_ipI, a_var, a_c, a_op, a_un, a_rI, a_rI0, a_rU, a_eqI, a_neI, a_eqB, a_neB, a_tB, a_test, a_and, a_or, a_not, a_andV, a_orV, a_notV, a_nil, a_cons, a_lst, a_tup, a_call, a_cb, a_bm0, a_bm, a_sl, a_nopart, a_part, a_tyI, a_for, a_comp, a_ilist, a_irng1, a_irng2, a_irng3, a_cxK, and_assoc, a_irev, a_ienum, a_cat, a_rep, a_pop, a_clear, a_rslL, a_ixL, a_ixT, a_setL, a_app,
    List.getElem?_cons_zero, List.getElem?_cons_succ, List.set_cons_zero, List.set_cons_succ, Option.some.injEq, V.int.injEq, V.bl.injEq, V.ref.injEq, V.ty.injEq, exists_eq_left', exists_eq_left, exists_and_left, decide_eq_true_eq, List.cons_append, List.nil_append, List.append_nil, List.cons.injEq, and_true, true_and, Bool.not_eq_true', decide_eq_false_iff_not, ite_true, ite_false, Bool.false_eq_true, if_true, if_false, List.length_cons, List.length_nil, L2.start, List.map_cons, List.map_nil, List.replicate_succ, List.replicate_zero]
    refine ⟨a_tyL (SqL.of eD), by decide, ⟨by decide, by decide⟩, by decide, by decide, fun p1 np1 => ⟨p1, [c % 9 - 4, c / 9 % 9 - 4], rfl, SqL.of upd_same, by simp, fun F G s1 nF eF => ?_⟩⟩
    have u1 := (same_upd np1 (.lst [V.int (c % 9 - 4), V.int (c / 9 % 9 - 4)])).trans s1
    have nF' : H' F = none := (same_upd np1 (.lst [V.int (c % 9 - 4), V.int (c / 9 % 9 - 4)])).free nF
    have nFD : F ≠ D := fun z => by rw [z, eD] at nF'; cases nF'
    have m1 : D ∉ bs ++ [F] := fun z => by
      rcases List.mem_append.mp z with z | z
      · exact nb z
      · exact nFD (List.mem_singleton.mp z).symm
    refine ⟨_, u1 _ _ eD, by rw [List.length_map]; exact small1000 (by omega), (hPv _ _ _).mpr ⟨bs ++ [F], rest ++ [trim [c % 9 - 4, c / 9 % 9 - 4]], _, rfl, by rw [upd_same]; simp, ?_, by simp [lr], fun r hr' => ?_, m1, by rw [upd_ne nPD]; exact u1 _ _ eP, (sP.trans u1).more nDH⟩⟩
    · exact ((lhb.same u1).snoc eF).upd m1
    · rcases List.mem_append.mp hr' with z | z
      · exact br r z
      · rw [List.mem_singleton.mp z]
        have l2' := lt2 (c % 9 - 4) (c / 9 % 9 - 4)
        exact ⟨⟨trim_nml _, by omega, trim_le fun z hz => by have := b4 c (c / 9) z hz; omega⟩, l2'⟩
  · intro σ H' hp
    obtain ⟨bs, rest, r4, rfl, eD, lhb, lr, br, nb, eP, sP⟩ := (hPv _ _ _).mp hp
    rw [List.length_map] at lr
    have pt := parts_of hh lh ht vt br
    have lbb := lhb.len
    simp only [List.length_cons] at lbb
    simp only [a_izip, a_drop_nx, a_raise, a_seq, a_next, a_drop, a_ret, a_retN, a_if, a_asg, a_gname, a_gsub, a_gtup, a_gnil, a_gcons, a_aug, a_augS, a_ipI, a_var, a_c, a_op, a_un, a_rI, a_rI0, a_rU, a_eqI, a_neI, a_eqB, a_neB, a_tB, a_test, a_and, a_or, a_not, a_andV, a_orV, a_notV, a_nil, a_cons, a_lst, a_tup, a_call, a_cb, a_bm0, a_bm, a_sl, a_nopart, a_part, a_tyI, a_for, a_comp, a_ilist, a_irng1, a_irng2, a_irng3, a_cxK, and_assoc, a_irev, a_ienum, a_cat, a_rep, a_pop, a_clear, a_rslL, a_ixL, a_ixT, a_setL, a_app,
    List.getElem?_cons_zero, List.getElem?_cons_succ, List.set_cons_zero, List.set_cons_succ, Option.some.injEq, V.int.injEq, V.bl.injEq, V.ref.injEq, V.ty.injEq, exists_eq_left', exists_eq_left, exists_and_left, decide_eq_true_eq, List.cons_append, List.nil_append, List.append_nil, List.cons.injEq, and_true, true_and, Bool.not_eq_true', decide_eq_false_iff_not, ite_true, ite_false, Bool.false_eq_true, if_true, if_false, List.length_cons, List.length_nil, L2.start, List.map_cons, List.map_nil, List.replicate_succ, List.replicate_zero]
    refine ⟨a, ns, 0, rfl, sP.seq hA, _, rfl, ⟨by decide, by decide⟩, _, .inl (SqL.of eD), ?_⟩
    rw [List.length_map, lbb]
    obtain ⟨k, hk⟩ : ∃ k : Nat, cell ns 0 / 4 % ((rest.length + 1 + 1 : Nat) : Int) = (k : Int) := ⟨(cell ns 0 / 4 % ((rest.length + 1 + 1 : Nat) : Int)).toNat, by have := Int.emod_nonneg (cell ns 0 / 4) (show ((rest.length + 1 + 1 : Nat) : Int) ≠ 0 by omega); omega⟩
    rw [hk]
    refine ⟨by omega, _, SqL.of eD, fun p1 np1 => ?_⟩
    rw [cut_from]
    have v1 := same_upd np1 (.lst ((bs.drop k).map V.ref))
    have e1 : upd H' p1 (.lst ((bs.drop k).map V.ref)) p1 = _ := upd_same
    have eD1 := v1 _ _ eD
    generalize upd H' p1 (.lst ((bs.drop k).map V.ref)) = G1 at v1 e1 eD1 ⊢
    refine ⟨_, SqL.of eD1, fun p2 np2 => ?_⟩
    rw [cut_upto]
    have v2 := same_upd np2 (.lst ((bs.take k).map V.ref))
    have e2 : upd G1 p2 (.lst ((bs.take k).map V.ref)) p2 = _ := upd_same
    have e12 := v2 _ _ e1
    generalize upd G1 p2 (.lst ((bs.take k).map V.ref)) = G2 at v2 e2 e12 ⊢
    refine ⟨_, e12, _, e2, ?_, fun p3 np3 => ?_⟩
    · rw [List.length_map, List.length_map, List.length_drop, List.length_take]; exact Nat.le_of_lt (small1000 (by omega))
    · have v3 := same_upd np3 (.lst ((bs.drop k).map V.ref ++ (bs.take k).map V.ref))
      refine q _ (parts_rot k pt) (by simp; omega) p3 (bs.drop k ++ bs.take k) _ (sP.trans (v1.trans (v2.trans v3))) (by rw [upd_same, List.map_append]) ((lhb.rot k).same (v1.trans (v2.trans v3)))

/-! #### split -/
/-! #### law -/
def spLaw (K : PySem.W.Frag) : Sp := fun vs H Q _ => ∃ (a : Addr) (ns : List Int), vs = [.ref a] ∧ SqL K H a (ns.map V.int) ∧ ns.length ≤ 63 ∧ ∀ H', Q (.bl true) H'
theorem ok_law {P : Program} {w : World} {K : PySem.W.Frag} {mg : Str → Option Value} {base : Heap} (T : Tx K mg) : FnOk P w K mg base CX0 9 T.a_law T.fd_law ["_law_script"] (spLaw K) := by
  refine T.F_law.ok sc_law (fun vs H Q E h => ?_) (fun cdv A outer s H vs Q E hr h => ?_)
  · obtain ⟨a, ns, rfl, _⟩ := h
    rfl
  obtain ⟨a, ns, rfl, hA, hl, q⟩ := h
  refine ⟨_, ((pss_cons (ps_set (i := 1) sc_law.nd rfl (Or.inl rfl) (pe_call (FnOk.mono (ok__law_parts T) (by decide)) hr rfl T.m__law_parts T.F__law_parts.kp T.b__law_parts .nil pass0 (pa_cons (pv 0) pa_nil)))
    (pss_cons (ps_set (i := 2) sc_law.nd rfl (Or.inr rfl) (pe_call (FnOk.mono (ok__law_number T) (by decide)) hr rfl T.m__law_number T.F__law_number.kp T.b__law_number .nil pass0 (pa_cons (pe_call (FnOk.mono (ok__law_cell_at T) (by decide)) hr rfl T.m__law_cell_at T.F__law_cell_at.kp T.b__law_cell_at .nil pass0 (pa_cons (pv 0) (pa_cons pe_int pa_nil))) pa_nil)))
    (pss_cons (ps_asg (pe_call (FnOk.mono (ok__law_factor T) (by decide)) hr rfl T.m__law_factor T.F__law_factor.kp T.b__law_factor .nil pass0 (pa_cons (pe_call (FnOk.mono (ok__law_cell_at T) (by decide)) hr rfl T.m__law_cell_at T.F__law_cell_at.kp T.b__law_cell_at .nil pass0 (pa_cons (pv 0) (pa_cons pe_int pa_nil))) pa_nil)) (pg_tup rfl (pgs_cons (pg_name (i := 3) sc_law.nd rfl (Or.inr rfl)) (pgs_cons (pg_name (i := 4) sc_law.nd rfl (Or.inl rfl)) pgs_nil))))
    (pss_cons (ps_setC (i := 5) rfl (blkok rfl sub_nil fv_nil) (pi_list (pv 1)) (fun _ _ _ _ => (pe_callTy (call_list_ofK (K := K) rfl) rfl T.z_list bt_list (pa_cons (pv 0) pa_nil))) sc_law.nd rfl rfl)
    (pss_mid (ps_if (pt_not (pt_val (pv 4))) (pss_one (ps_setC (i := 5) rfl (blkok rfl (sub_cons rfl sub_nil) (fv_cons 3 "_law_factor_here" (by decide) rfl (Or.inl rfl) (Or.inl rfl) ⟨_, rfl⟩ fv_nil)) (pi_list (pv 1)) (fun _ _ _ _ => (pe_call (FnOk.mono (ok__law_product T) (by decide)) hr rfl T.m__law_product T.F__law_product.kp T.b__law_product .nil pass0 (pa_cons (pv 0) (pa_cons (pv 1) pa_nil)))) sc_law.nd rfl rfl)) pss_nil)
    (pss_mid (ps_set (i := 6) sc_law.nd rfl (Or.inr rfl) (pe_op op_sub pe_int (pe_op op_mul pe_int (pe_callTy call_int1 rfl T.z_int bt_int (pa_cons (pe_and (pe_cmpR (op_neD hr.units) (pe_ix ix_list (pv 5) (pe_un un_neg pe_int) (fun _ _ => rfl)) (pe_lst pa_nil) (nomark _)) (pe_one (pe_cmpR op_lt (pe_ix ix_list (pe_ix ix_list (pv 5) (pe_un un_neg pe_int) (fun _ _ => rfl)) (pe_un un_neg pe_int) (fun _ _ => rfl)) pe_int (nomark _)))) pa_nil)))))
    (pss_mid (ps_if (PW.pt (pw_and (pt_cmpR (op_eqD hr.units) (pe_ix ix_list (pv 5) (pe_un un_neg pe_int) (fun _ _ => rfl)) (pe_lst pa_nil) (nomark _)) (pw_and1 (pt_cmpR op_lt (pv 2) pe_int (nomark _))))) (pss_one (ps_set (i := 6) sc_law.nd rfl (Or.inr rfl) (pe_un un_neg pe_int))) pss_nil)
    (pss_cons (ps_setC (i := 5) rfl (blkok rfl (sub_cons rfl sub_nil) (fv_cons 6 "_law_sign" (by decide) rfl (Or.inl rfl) (Or.inl rfl) ⟨_, rfl⟩ fv_nil)) (pi_list (pv 5)) (fun _ _ _ _ => (pe_lcomp rfl (blkok rfl (sub_cons rfl sub_nil) (fv_cons 1 "_law_sign" (by decide) rfl (Or.inl rfl) (Or.inl rfl) ⟨_, rfl⟩ fv_nil)) (pi_listK (K := K) rfl (pv 0)) (fun _ _ _ _ => (pe_op op_mulZ (pv 1) (pv 0))))) sc_law.nd rfl rfl)
    (pss_cons (ps_setC (i := 7) rfl (blkok rfl (sub_cons rfl (sub_cons rfl sub_nil)) (fv_cons 3 "_law_factor_here" (by decide) rfl (Or.inl rfl) (Or.inl rfl) ⟨_, rfl⟩ (fv_cons 2 "_law_c" (by decide) rfl (Or.inl rfl) (Or.inl rfl) ⟨_, rfl⟩ fv_nil))) (pi_list (pv 1)) (fun _ _ _ _ => (pe_call (FnOk.mono (ok__law_product T) (by decide)) hr rfl T.m__law_product T.F__law_product.kp T.b__law_product .nil pass0 (pa_cons (pe_call (FnOk.mono (ok__law_product T) (by decide)) hr rfl T.m__law_product T.F__law_product.kp T.b__law_product .nil pass0 (pa_cons (pv 0) (pa_cons (pv 1) pa_nil))) (pa_cons (pe_lst (pa_cons (pv 2) pa_nil)) pa_nil)))) sc_law.nd rfl rfl)
    (pss_cons (ps_setC (i := 8) rfl (blkok rfl sub_nil fv_nil) (pi_list (pv 7)) (fun _ _ _ _ => (pe_callTy (call_list_ofK (K := K) rfl) rfl T.z_list bt_list (pa_cons (pv 0) pa_nil))) sc_law.nd rfl rfl)
    (pss_cons (ps_set (i := 9) sc_law.nd rfl (Or.inl rfl) (pe_call (FnOk.mono (ok_thinned T) (by decide)) hr rfl T.m_thinned T.F_thinned.kp T.b_thinned .nil pass0 (pa_cons (pv 8) pa_nil)))
    (pss_cons (ps_if (PW.pt (pw_or (pt_not (pt_val (pe_call (FnOk.mono (ok__law_is T) (by decide)) hr rfl T.m__law_is T.F__law_is.kp T.b__law_is .nil pass0 (pa_cons (pv 9) (pa_cons (pv 5) pa_nil))))) (pw_or1 (pt_cmpR (op_neD hr.units) (pv 8) (pv 7) (nomark _))))) (pss_one (ps_ret pe_bl)) pss_nil)
    (pss_cons (ps_for PassesOwn.never rfl (pi_list (pv 9)) (pg_name (i := 10) sc_law.nd rfl (Or.inl rfl)) (pss_one (ps_expr (pe_bm PySem.F.plainAttrs_list PySem.F.slot_list_append PySem.F.type_list_append mt_append (pv 10) (pa_cons pe_int pa_nil)))))
    (pss_one (ps_ret (pe_and (pe_call (FnOk.mono (ok__law_is T) (by decide)) hr rfl T.m__law_is T.F__law_is.kp T.b__law_is .nil pass0 (pa_cons (pe_call (FnOk.mono (ok_thinned T) (by decide)) hr rfl T.m_thinned T.F_thinned.kp T.b_thinned .nil pass0 (pa_cons (pv 8) pa_nil)) (pa_cons (pv 5) pa_nil))) (pe_one (pe_cmpR (op_eqD hr.units) (pv 8) (pv 7) (nomark _)))))))))))))))))))), ?_⟩
  simp only [a_izip, a_drop_nx, a_raise, a_seq, a_next, a_drop, a_ret, a_retN, a_if, a_asg, a_gname, a_gsub, a_gtup, a_gnil, a_gcons, a_aug, a_augS, a_ipI, a_var, a_c, a_op, a_un, a_rI, a_rI0, a_rU, a_eqI, a_neI, a_eqB, a_neB, a_tB, a_test, a_and, a_or, a_not, a_andV, a_orV, a_notV, a_nil, a_cons, a_lst, a_tup, a_call, a_cb, a_bm0, a_bm, a_sl, a_nopart, a_part, a_tyI, a_for, a_comp, a_ilist, a_irng1, a_irng2, a_irng3, a_cxK, and_assoc, a_irev, a_ienum, a_cat, a_rep, a_pop, a_clear, a_rslL, a_ixL, a_ixT, a_setL, a_app,
    List.getElem?_cons_zero, List.getElem?_cons_succ, List.set_cons_zero, List.set_cons_succ, Option.some.injEq, V.int.injEq, V.bl.injEq, V.ref.injEq, V.ty.injEq, exists_eq_left', exists_eq_left, exists_and_left, decide_eq_true_eq, List.cons_append, List.nil_append, List.append_nil, List.cons.injEq, and_true, true_and, Bool.not_eq_true', decide_eq_false_iff_not, ite_true, ite_false, Bool.false_eq_true, if_true, if_false, List.length_cons, List.length_nil, L2.start, List.map_cons, List.map_nil, List.replicate_succ, List.replicate_zero]
  refine ⟨a, ns, rfl, hA, hl, fun ps hP lp R as H1 s1 eR lh1 => ⟨a, ns, 6, rfl, s1.seq hA, _, rfl, fun c c0 cb H2 s2 => ?_⟩⟩
  have s12 := s1.trans s2
  refine ⟨a, ns, 5, rfl, s12.seq hA, _, rfl, fun f b Ff hb tp Fa H3 s3 etp eFa => ?_⟩
  have s13 := s12.trans s3
  have eR3 := (s2.trans s3) _ _ eR
  have lh3 := lh1.same (s2.trans s3)
  refine ⟨tp, rfl, _, SqT.of etp, rfl, _, _, rfl, _, _, rfl, rfl, R, rfl, ⟨_, SqL.of eR3⟩, fun D nD => ?_⟩
  have psne : ps ≠ [] := fun z => by obtain ⟨x, hx, _⟩ := hP.u; rw [z] at hx; simp at hx
  obtain ⟨l, hlast⟩ : ∃ l, ps.getLast? = some l := ⟨_, List.getLast?_eq_some_getLast psne⟩
  have nl : Nml l := (hP.s l (List.mem_of_getLast? hlast)).1
  refine cl_ll nD (SqL.of eR3) lh3.ll (ds := ps) rfl (by omega) (fun i b' p d Hx R' hp hd sx hB hR => ?_) fun D1 bs1 H4 s4 nD1 eD1 lhD1 _ _ _ => ?_
  · obtain rfl : p = d := by rw [hp] at hd; exact Option.some.inj hd
    simp only [a_izip, a_drop_nx, a_raise, a_seq, a_next, a_drop, a_ret, a_retN, a_if, a_asg, a_gname, a_gsub, a_gtup, a_gnil, a_gcons, a_aug, a_augS, a_ipI, a_var, a_c, a_op, a_un, a_rI, a_rI0, a_rU, a_eqI, a_neI, a_eqB, a_neB, a_tB, a_test, a_and, a_or, a_not, a_andV, a_orV, a_notV, a_nil, a_cons, a_lst, a_tup, a_call, a_cb, a_bm0, a_bm, a_sl, a_nopart, a_part, a_tyI, a_for, a_comp, a_ilist, a_irng1, a_irng2, a_irng3, a_cxK, and_assoc, a_irev, a_ienum, a_cat, a_rep, a_pop, a_clear, a_rslL, a_ixL, a_ixT, a_setL, a_app,
    List.getElem?_cons_zero, List.getElem?_cons_succ, List.set_cons_zero, List.set_cons_succ, Option.some.injEq, V.int.injEq, V.bl.injEq, V.ref.injEq, V.ty.injEq, exists_eq_left', exists_eq_left, exists_and_left, decide_eq_true_eq, List.cons_append, List.nil_append, List.append_nil, List.cons.injEq, and_true, true_and, Bool.not_eq_true', decide_eq_false_iff_not, ite_true, ite_false, Bool.false_eq_true, if_true, if_false, List.length_cons, List.length_nil, L2.start, List.map_cons, List.map_nil, List.replicate_succ, List.replicate_zero, bst]
    exact ⟨_, .inl hB, fun l nl => hR l _ (same_upd nl _) nl upd_same⟩
  have bp6 : ∀ p ∈ ps, ∀ x ∈ p, Bd 6 x := fun p hp x hx => Bd.of_lt (m := 34) (by have := (hP.s p hp).2.2 x hx; omega) (by decide)
  have bf6 : ∀ x ∈ f, Bd 6 x := fun x hx => Bd.of_lt (m := 51) (by have := Ff.b x hx; omega) (by decide)
  have eFa4 := s4 _ _ eFa
  have eR4 := s4 _ _ eR3
  have lh4 := lh3.same s4
  have s14 := s13.trans s4
  obtain ⟨ds0, hds0⟩ : ∃ ds0, ps.map (fun p => due0 f p b) = ds0 := ⟨_, rfl⟩
  obtain ⟨M, hM⟩ : ∃ M : L2.St → Hp → Prop, ∀ σ Hx, M σ Hx ↔ ∃ (Du : Addr) (cs : List Addr), σ = [some (V.ref a), some (V.ref R), some (V.int c), some (V.ref Fa), some (V.bl b), some (V.ref Du), none, none, none, none, none] ∧ Hx Du = some (.lst (cs.map V.ref)) ∧ LH Hx cs ds0 ∧ Same H4 Hx := ⟨_, fun _ _ => Iff.rfl⟩
  refine mid_of M ?_ ?_
  · simp only [a_izip, a_drop_nx, a_raise, a_seq, a_next, a_drop, a_ret, a_retN, a_if, a_asg, a_gname, a_gsub, a_gtup, a_gnil, a_gcons, a_aug, a_augS, a_ipI, a_var, a_c, a_op, a_un, a_rI, a_rI0, a_rU, a_eqI, a_neI, a_eqB, a_neB, a_tB, a_test, a_and, a_or, a_not, a_andV, a_orV, a_notV, a_nil, a_cons, a_lst, a_tup, a_call, a_cb, a_bm0, a_bm, a_sl, a_nopart, a_part, a_tyI, a_for, a_comp, a_ilist, a_irng1, a_irng2, a_irng3, a_cxK, and_assoc, a_irev, a_ienum, a_cat, a_rep, a_pop, a_clear, a_rslL, a_ixL, a_ixT, a_setL, a_app,
    List.getElem?_cons_zero, List.getElem?_cons_succ, List.set_cons_zero, List.set_cons_succ, Option.some.injEq, V.int.injEq, V.bl.injEq, V.ref.injEq, V.ty.injEq, exists_eq_left', exists_eq_left, exists_and_left, decide_eq_true_eq, List.cons_append, List.nil_append, List.append_nil, List.cons.injEq, and_true, true_and, Bool.not_eq_true', decide_eq_false_iff_not, ite_true, ite_false, Bool.false_eq_true, if_true, if_false, List.length_cons, List.length_nil, L2.start, List.map_cons, List.map_nil, List.replicate_succ, List.replicate_zero]
    refine ite2 (fun h => ?_) (fun h => ?_)
    · refine ⟨⟨_, SqL.of eR4⟩, fun D2 nD2 => cl_ll nD2 (SqL.of eR4) lh4.ll (ds := ds0) (by rw [← hds0, List.length_map]) (by omega) (fun i b' p d Hx R' hp hd sx hB hR => ?_) fun D3 bs H5 s5 nD3 eD3 lhD3 _ _ _ => (hM _ _).mpr ⟨D3, bs, rfl, eD3, lhD3, s5⟩⟩
      simp only [a_izip, a_drop_nx, a_raise, a_seq, a_next, a_drop, a_ret, a_retN, a_if, a_asg, a_gname, a_gsub, a_gtup, a_gnil, a_gcons, a_aug, a_augS, a_ipI, a_var, a_c, a_op, a_un, a_rI, a_rI0, a_rU, a_eqI, a_neI, a_eqB, a_neB, a_tB, a_test, a_and, a_or, a_not, a_andV, a_orV, a_notV, a_nil, a_cons, a_lst, a_tup, a_call, a_cb, a_bm0, a_bm, a_sl, a_nopart, a_part, a_tyI, a_for, a_comp, a_ilist, a_irng1, a_irng2, a_irng3, a_cxK, and_assoc, a_irev, a_ienum, a_cat, a_rep, a_pop, a_clear, a_rslL, a_ixL, a_ixT, a_setL, a_app,
    List.getElem?_cons_zero, List.getElem?_cons_succ, List.set_cons_zero, List.set_cons_succ, Option.some.injEq, V.int.injEq, V.bl.injEq, V.ref.injEq, V.ty.injEq, exists_eq_left', exists_eq_left, exists_and_left, decide_eq_true_eq, List.cons_append, List.nil_append, List.append_nil, List.cons.injEq, and_true, true_and, Bool.not_eq_true', decide_eq_false_iff_not, ite_true, ite_false, Bool.false_eq_true, if_true, if_false, List.length_cons, List.length_nil, L2.start, List.map_cons, List.map_nil, List.replicate_succ, List.replicate_zero, bst, Option.getD_some]
      have hpm := List.mem_of_getElem? hp
      have l3 := (hP.s p hpm).2.1
      have lf := Ff.l
      refine ⟨b', Fa, p, f, 6, 6, rfl, hB, SqL.of (sx _ _ eFa4), by omega, by omega, bp6 p hpm, bf6, by decide, fun ws nw lw cw => ?_⟩
      have e : ws = d := by
        rw [← hds0, List.getElem?_map, hp] at hd
        have hd' : due0 f p b = d := Option.some.inj hd
        rw [← hd', h, pd_ext nw cw]; rfl
      rw [e]; exact hR
    · have hb1 : b = true := by simpa using h
      refine (hM _ _).mpr ⟨D1, bs1, rfl, eD1, ?_, Same.refl _⟩
      have : ds0 = ps := by
        rw [← hds0]
        refine (List.map_congr_left fun p _ => ?_).trans (List.map_id _)
        rw [hb1]; rfl
      rw [this]; exact lhD1
  intro σ H5 hm
  obtain ⟨Du, cs, rfl, eDu, lhu, s45⟩ := (hM _ _).mp hm
  clear hm hM M
  have ld0 : ds0.length = ps.length := by rw [← hds0, List.length_map]
  have ds0ne : ds0 ≠ [] := fun z => psne (List.eq_nil_of_length_eq_zero (by rw [← ld0, z]; rfl))
  obtain ⟨ua, l0, at1, _, hl0, hul⟩ := (lhu.ll (K := K)).lastAt ds0ne
  have hl0' : l0 = due0 f l b := by
    rw [← hds0, List.getLast?_map, hlast] at hl0
    exact (Option.some.inj hl0).symm
  have nl0 : Nml l0 := by rw [hl0']; exact due0_nml nl
  have s5 := s14.trans s45
  obtain ⟨M, hM⟩ : ∃ M : L2.St → Hp → Prop, ∀ σ Hx, M σ Hx ↔ ∃ s0 : Int, σ = [some (V.ref a), some (V.ref R), some (V.int c), some (V.ref Fa), some (V.bl b), some (V.ref Du), some (V.int s0), none, none, none, none] ∧ (s0 = if l0 ≠ [] ∧ co l0 (l0.length - 1) < 0 then -1 else 1) ∧ Same H5 Hx := ⟨_, fun _ _ => Iff.rfl⟩
  refine mid_of M ?_ ?_
  · simp only [a_izip, a_drop_nx, a_raise, a_seq, a_next, a_drop, a_ret, a_retN, a_if, a_asg, a_gname, a_gsub, a_gtup, a_gnil, a_gcons, a_aug, a_augS, a_ipI, a_var, a_c, a_op, a_un, a_rI, a_rI0, a_rU, a_eqI, a_neI, a_eqB, a_neB, a_tB, a_test, a_and, a_or, a_not, a_andV, a_orV, a_notV, a_nil, a_cons, a_lst, a_tup, a_call, a_cb, a_bm0, a_bm, a_sl, a_nopart, a_part, a_tyI, a_for, a_comp, a_ilist, a_irng1, a_irng2, a_irng3, a_cxK, and_assoc, a_irev, a_ienum, a_cat, a_rep, a_pop, a_clear, a_rslL, a_ixL, a_ixT, a_setL, a_app,
    List.getElem?_cons_zero, List.getElem?_cons_succ, List.set_cons_zero, List.set_cons_succ, Option.some.injEq, V.int.injEq, V.bl.injEq, V.ref.injEq, V.ty.injEq, exists_eq_left', exists_eq_left, exists_and_left, decide_eq_true_eq, List.cons_append, List.nil_append, List.append_nil, List.cons.injEq, and_true, true_and, Bool.not_eq_true', decide_eq_false_iff_not, ite_true, ite_false, Bool.false_eq_true, if_true, if_false, List.length_cons, List.length_nil, L2.start, List.map_cons, List.map_nil, List.replicate_succ, List.replicate_zero]
    refine ⟨_, SqL.of eDu, _, at1, Nat.zero_le _, fun z1 nz1 => ?_⟩
    have w1 := same_upd nz1 (.lst [])
    refine ⟨_, DV.ints (w1.seq hul), _, DV.ints (ns := []) (SqL.of upd_same), lay_self _, lay_self _, dep_self _, ?_⟩
    rw [eqv_dec]
    refine ite2 (fun h => ?_) (fun h => ?_)
    · have l00 : l0 ≠ [] := fun z => by rw [z] at h; simp at h
      have ec : co l0 (l0.length - 1) = l0.getLast l00 := by have := List.length_pos_iff.mpr l00; rw [co_lt (by omega), List.getLast_eq_getElem]
      refine ⟨_, SqL.of (w1 _ _ eDu), _, at1, _, rfl, _, w1.seq hul, _, at_last l00, _, rfl, .inr ⟨.inl ⟨by decide, by decide⟩, (hM _ _).mpr ⟨_, rfl, ?_, w1⟩⟩⟩
      rw [ec]
      by_cases z : l0.getLast l00 < 0
      · simp [z, l00]
      · simp [z]
    · have l00 : l0 = [] := by simpa using h
      refine .inr ⟨.inl ⟨by decide, by decide⟩, (hM _ _).mpr ⟨_, rfl, ?_, w1⟩⟩
      rw [if_neg (fun z => z.1 l00)]; rfl
  intro σ H6 hm
  obtain ⟨s0, rfl, hs0, s56⟩ := (hM _ _).mp hm
  clear hm hM M
  have hul6 := s56.seq hul
  have eDu6 := s56 _ _ eDu
  obtain ⟨sg, hsg⟩ : ∃ sg, sgn l0 c = sg := ⟨_, rfl⟩
  obtain ⟨M, hM⟩ : ∃ M : L2.St → Hp → Prop, ∀ σ Hx, M σ Hx ↔ σ = [some (V.ref a), some (V.ref R), some (V.int c), some (V.ref Fa), some (V.bl b), some (V.ref Du), some (V.int sg), none, none, none, none] ∧ Same H6 Hx := ⟨_, fun _ _ => Iff.rfl⟩
  refine mid_of M ?_ ?_
  · simp only [a_izip, a_drop_nx, a_raise, a_seq, a_next, a_drop, a_ret, a_retN, a_if, a_asg, a_gname, a_gsub, a_gtup, a_gnil, a_gcons, a_aug, a_augS, a_ipI, a_var, a_c, a_op, a_un, a_rI, a_rI0, a_rU, a_eqI, a_neI, a_eqB, a_neB, a_tB, a_test, a_and, a_or, a_not, a_andV, a_orV, a_notV, a_nil, a_cons, a_lst, a_tup, a_call, a_cb, a_bm0, a_bm, a_sl, a_nopart, a_part, a_tyI, a_for, a_comp, a_ilist, a_irng1, a_irng2, a_irng3, a_cxK, and_assoc, a_irev, a_ienum, a_cat, a_rep, a_pop, a_clear, a_rslL, a_ixL, a_ixT, a_setL, a_app,
    List.getElem?_cons_zero, List.getElem?_cons_succ, List.set_cons_zero, List.set_cons_succ, Option.some.injEq, V.int.injEq, V.bl.injEq, V.ref.injEq, V.ty.injEq, exists_eq_left', exists_eq_left, exists_and_left, decide_eq_true_eq, List.cons_append, List.nil_append, List.append_nil, List.cons.injEq, and_true, true_and, Bool.not_eq_true', decide_eq_false_iff_not, ite_true, ite_false, Bool.false_eq_true, if_true, if_false, List.length_cons, List.length_nil, L2.start, List.map_cons, List.map_nil, List.replicate_succ, List.replicate_zero]
    refine ⟨_, SqL.of eDu6, _, at1, Nat.zero_le _, fun z1 nz1 => ?_⟩
    have w1 := same_upd nz1 (.lst [])
    refine ⟨_, DV.ints (w1.seq hul6), _, DV.ints (ns := []) (SqL.of upd_same), lay_self _, lay_self _, dep_self _, ?_⟩
    rw [eqv_dec]
    refine ite2 (fun h => ?_) (fun h => ?_)
    · have l00 : l0 = [] := by simpa using h
      rw [if_neg (fun z => z.1 l00)] at hs0
      refine ite2 (fun hc => (hM _ _).mpr ⟨?_, w1⟩) (fun hc => (hM _ _).mpr ⟨?_, w1⟩)
      · rw [← hsg]; unfold sgn; rw [if_neg (fun z => z l00), if_pos hc]
      · rw [← hsg, hs0]; unfold sgn; rw [if_neg (fun z => z l00), if_neg hc]
    · have l00 : l0 ≠ [] := fun z => h (by simp [z])
      refine (hM _ _).mpr ⟨?_, w1⟩
      have : sg = s0 := by
        rw [← hsg, hs0]; unfold sgn; rw [if_pos l00]
        by_cases z : co l0 (l0.length - 1) < 0
        · rw [if_pos z, if_pos ⟨l00, z⟩]
        · rw [if_neg z, if_neg (fun y => z y.2)]
      rw [this]
  intro σ H7 hm
  obtain ⟨rfl, s67⟩ := (hM _ _).mp hm
  clear hm hM M
  have s57 := s56.trans s67
  have sg1 : sg = 1 ∨ sg = -1 := by rw [← hsg]; unfold sgn; split <;> split <;> simp
  simp only [a_izip, a_drop_nx, a_raise, a_seq, a_next, a_drop, a_ret, a_retN, a_if, a_asg, a_gname, a_gsub, a_gtup, a_gnil, a_gcons, a_aug, a_augS, a_ipI, a_var, a_c, a_op, a_un, a_rI, a_rI0, a_rU, a_eqI, a_neI, a_eqB, a_neB, a_tB, a_test, a_and, a_or, a_not, a_andV, a_orV, a_notV, a_nil, a_cons, a_lst, a_tup, a_call, a_cb, a_bm0, a_bm, a_sl, a_nopart, a_part, a_tyI, a_for, a_comp, a_ilist, a_irng1, a_irng2, a_irng3, a_cxK, and_assoc, a_irev, a_ienum, a_cat, a_rep, a_pop, a_clear, a_rslL, a_ixL, a_ixT, a_setL, a_app,
    List.getElem?_cons_zero, List.getElem?_cons_succ, List.set_cons_zero, List.set_cons_succ, Option.some.injEq, V.int.injEq, V.bl.injEq, V.ref.injEq, V.ty.injEq, exists_eq_left', exists_eq_left, exists_and_left, decide_eq_true_eq, List.cons_append, List.nil_append, List.append_nil, List.cons.injEq, and_true, true_and, Bool.not_eq_true', decide_eq_false_iff_not, ite_true, ite_false, Bool.false_eq_true, if_true, if_false, List.length_cons, List.length_nil, L2.start, List.map_cons, List.map_nil, List.replicate_succ, List.replicate_zero]
  have eDu7 := s57 _ _ eDu
  have lhu7 := lhu.same s57
  obtain ⟨ds, hds⟩ : ∃ ds, ds0.map (scl sg) = ds := ⟨_, rfl⟩
  have lds : ds.length = ps.length := by rw [← hds, List.length_map, ld0]
  have b0 : ∀ d ∈ ds0, d.length ≤ 6 ∧ ∀ x ∈ d, Bd 13 x := fun d hd => by
    rw [← hds0] at hd
    obtain ⟨p, hp, rfl⟩ := List.mem_map.mp hd
    have l3 := (hP.s p hp).2.1
    have lf := Ff.l
    have lpd := pd_len (hP.s p hp).1 Ff.n
    unfold due0
    split
    · exact ⟨by omega, fun x hx => (bp6 p hp x hx).mono (by decide)⟩
    · refine ⟨by omega, fun x hx => ?_⟩
      have h1 := pd_le (hP.s p hp).2.2 Ff.b x hx
      have h2 : p.length * (33 * 50) ≤ 3 * (33 * 50) := Nat.mul_le_mul_right _ l3
      exact Bd.of_lt (m := 4951) (by omega) (by decide)
  have bds : ∀ d ∈ ds, d.length ≤ 900 := fun d hd => by
    rw [← hds] at hd
    obtain ⟨y, hy, rfl⟩ := List.mem_map.mp hd
    rw [scl_len]; have := (b0 y hy).1; omega
  have bsg : Bd 1 sg := by rcases sg1 with z | z <;> rw [z] <;> exact (by decide : (1 : Nat) < 2 ^ 1)
  refine ⟨⟨_, SqL.of eDu7⟩, fun D5 nD5 => cl_ll nD5 (SqL.of eDu7) lhu7.ll (ds := ds) (by omega) (by omega) (fun i b' p d Hx R' hp hd sx hB hR => ?_) fun Dd bd H8 s8 nDd eDd lhd _ _ _ => ?_⟩
  · have hpm := List.mem_of_getElem? hp
    have e : p.map (fun x => sg * x) = d := by
      rw [← hds, List.getElem?_map, hp] at hd
      exact Option.some.inj hd
    simp only [a_izip, a_drop_nx, a_raise, a_seq, a_next, a_drop, a_ret, a_retN, a_if, a_asg, a_gname, a_gsub, a_gtup, a_gnil, a_gcons, a_aug, a_augS, a_ipI, a_var, a_c, a_op, a_un, a_rI, a_rI0, a_rU, a_eqI, a_neI, a_eqB, a_neB, a_tB, a_test, a_and, a_or, a_not, a_andV, a_orV, a_notV, a_nil, a_cons, a_lst, a_tup, a_call, a_cb, a_bm0, a_bm, a_sl, a_nopart, a_part, a_tyI, a_for, a_comp, a_ilist, a_irng1, a_irng2, a_irng3, a_cxK, and_assoc, a_irev, a_ienum, a_cat, a_rep, a_pop, a_clear, a_rslL, a_ixL, a_ixT, a_setL, a_app,
    List.getElem?_cons_zero, List.getElem?_cons_succ, List.set_cons_zero, List.set_cons_succ, Option.some.injEq, V.int.injEq, V.bl.injEq, V.ref.injEq, V.ty.injEq, exists_eq_left', exists_eq_left, exists_and_left, decide_eq_true_eq, List.cons_append, List.nil_append, List.append_nil, List.cons.injEq, and_true, true_and, Bool.not_eq_true', decide_eq_false_iff_not, ite_true, ite_false, Bool.false_eq_true, if_true, if_false, List.length_cons, List.length_nil, L2.start, List.map_cons, List.map_nil, List.replicate_succ, List.replicate_zero, bst, Option.getD_some]
    refine ⟨⟨_, hB⟩, fun E5 nE5 => cl_ints (g := fun x => sg * x) nE5 hB (by have := (b0 p hpm).1; omega) (fun x hx Hy R2 sy hR2 => ?_) (by rw [e]; exact hR)⟩
    simp only [a_izip, a_drop_nx, a_raise, a_seq, a_next, a_drop, a_ret, a_retN, a_if, a_asg, a_gname, a_gsub, a_gtup, a_gnil, a_gcons, a_aug, a_augS, a_ipI, a_var, a_c, a_op, a_un, a_rI, a_rI0, a_rU, a_eqI, a_neI, a_eqB, a_neB, a_tB, a_test, a_and, a_or, a_not, a_andV, a_orV, a_notV, a_nil, a_cons, a_lst, a_tup, a_call, a_cb, a_bm0, a_bm, a_sl, a_nopart, a_part, a_tyI, a_for, a_comp, a_ilist, a_irng1, a_irng2, a_irng3, a_cxK, and_assoc, a_irev, a_ienum, a_cat, a_rep, a_pop, a_clear, a_rslL, a_ixL, a_ixT, a_setL, a_app,
    List.getElem?_cons_zero, List.getElem?_cons_succ, List.set_cons_zero, List.set_cons_succ, Option.some.injEq, V.int.injEq, V.bl.injEq, V.ref.injEq, V.ty.injEq, exists_eq_left', exists_eq_left, exists_and_left, decide_eq_true_eq, List.cons_append, List.nil_append, List.append_nil, List.cons.injEq, and_true, true_and, Bool.not_eq_true', decide_eq_false_iff_not, ite_true, ite_false, Bool.false_eq_true, if_true, if_false, List.length_cons, List.length_nil, L2.start, List.map_cons, List.map_nil, List.replicate_succ, List.replicate_zero, bst, Option.getD_some]
    exact ⟨bsg.fits ((b0 p hpm).2 x hx) (by decide), hR2⟩
  obtain ⟨rows, hrows⟩ : ∃ rows, ps.map (pdL (scl c f)) = rows := ⟨_, rfl⟩
  have lrows : rows.length = ps.length := by rw [← hrows, List.length_map]
  have s58 := s57.trans s8
  have s48 := s45.trans s58
  have eR8 := s48 _ _ eR4
  have lh8 := lh4.same s48
  have eFa8 := s48 _ _ eFa4
  have bc : Bd 67 c := Bd.of_lt (m := 10 ^ 20 + 1) (by omega) (by decide)
  have brow : ∀ r ∈ rows, Nml r ∧ r.length ≤ 12 ∧ ∀ x ∈ r, Bd 130 x := fun r hr' => by
    rw [← hrows] at hr'
    obtain ⟨p, hp, rfl⟩ := List.mem_map.mp hr'
    have l3 := (hP.s p hp).2.1
    have lf := Ff.l
    have ngf := scl_nml c0 Ff.n
    have lpd := pd_len ngf (hP.s p hp).1
    rw [scl_len] at lpd
    refine ⟨pd_nml _ _, by omega, in_co fun j => ?_⟩
    rw [pd_co]
    exact (pm_bd (k := 73) (l := 6) (c := 2) (fun x hx => by obtain ⟨y, hy, rfl⟩ := scl_mem hx; exact (bc.mul (bf6 y hy)).mono (by decide)) (bp6 p hp) (by rw [scl_len]; omega) j).mono (by decide)
  refine ⟨⟨_, SqL.of eR8⟩, fun D6 nD6 => cl_ll nD6 (SqL.of eR8) lh8.ll (ds := rows) lrows (by omega) (fun i b' p d Hx R' hp hd sx hB hR => ?_) fun Pl bl H9 s9 nPl ePl lhp _ _ _ => ?_⟩
  · have hpm := List.mem_of_getElem? hp
    have l3 := (hP.s p hpm).2.1
    have lf := Ff.l
    simp only [a_izip, a_drop_nx, a_raise, a_seq, a_next, a_drop, a_ret, a_retN, a_if, a_asg, a_gname, a_gsub, a_gtup, a_gnil, a_gcons, a_aug, a_augS, a_ipI, a_var, a_c, a_op, a_un, a_rI, a_rI0, a_rU, a_eqI, a_neI, a_eqB, a_neB, a_tB, a_test, a_and, a_or, a_not, a_andV, a_orV, a_notV, a_nil, a_cons, a_lst, a_tup, a_call, a_cb, a_bm0, a_bm, a_sl, a_nopart, a_part, a_tyI, a_for, a_comp, a_ilist, a_irng1, a_irng2, a_irng3, a_cxK, and_assoc, a_irev, a_ienum, a_cat, a_rep, a_pop, a_clear, a_rslL, a_ixL, a_ixT, a_setL, a_app,
    List.getElem?_cons_zero, List.getElem?_cons_succ, List.set_cons_zero, List.set_cons_succ, Option.some.injEq, V.int.injEq, V.bl.injEq, V.ref.injEq, V.ty.injEq, exists_eq_left', exists_eq_left, exists_and_left, decide_eq_true_eq, List.cons_append, List.nil_append, List.append_nil, List.cons.injEq, and_true, true_and, Bool.not_eq_true', decide_eq_false_iff_not, ite_true, ite_false, Bool.false_eq_true, if_true, if_false, List.length_cons, List.length_nil, L2.start, List.map_cons, List.map_nil, List.replicate_succ, List.replicate_zero, bst, Option.getD_some]
    refine ⟨b', Fa, p, f, 6, 6, rfl, hB, SqL.of (sx _ _ eFa8), by omega, by omega, bp6 p hpm, bf6, by decide, fun ws nw lw cw W G1 g1 nW eW => ⟨by decide, fun z1 nz1 => ?_⟩⟩
    have w1 := same_upd nz1 (.lst [V.int c])
    have lpd := pd_len (hP.s p hpm).1 Ff.n
    have ew := pd_ext nw cw
    refine ⟨W, z1, ws, [c], 14, 67, rfl, SqL.of (w1 _ _ eW), SqL.of upd_same, by omega, by simp, in_co fun j => ?_, fun y hy => by rw [List.mem_singleton.mp hy]; exact bc, by decide, fun ws2 nw2 lw2 cw2 => ?_⟩
    · rw [cw j]; exact (pm_bd (k := 6) (l := 6) (c := 2) (bp6 p hpm) bf6 (by omega) j).mono (by decide)
    · have e : ws2 = d := by
        rw [← hrows, List.getElem?_map, hp] at hd
        have hd' : pdL (scl c f) p = d := Option.some.inj hd
        rw [← hd', pd_ext nw2 cw2, ew]
        refine nml_val (pd_nml _ _) (pd_nml _ _) fun n => ?_
        rw [pd_val, pd_val, pd_val, scl_val]
        simp only [val]; grind
      rw [e]
      exact fun F G2 g2 nF eF => hR F G2 (g1.trans (w1.trans g2)) ((g1.trans w1).free nF) eF
  have eDd9 := s9 _ _ eDd
  have lhd9 := lhd.same s9
  refine ⟨Pl, rfl, ⟨_, SqL.of ePl⟩, fun D7 nD7 => cl_ll nD7 (SqL.of ePl) lhp.ll (ds := rows) rfl (by omega) (fun i b' p d Hx R' hp hd sx hB hR => ?_) fun Hd bh G s10 nHd eHd lhh _ _ _ => ?_⟩
  · obtain rfl : p = d := by rw [hp] at hd; exact Option.some.inj hd
    simp only [a_izip, a_drop_nx, a_raise, a_seq, a_next, a_drop, a_ret, a_retN, a_if, a_asg, a_gname, a_gsub, a_gtup, a_gnil, a_gcons, a_aug, a_augS, a_ipI, a_var, a_c, a_op, a_un, a_rI, a_rI0, a_rU, a_eqI, a_neI, a_eqB, a_neB, a_tB, a_test, a_and, a_or, a_not, a_andV, a_orV, a_notV, a_nil, a_cons, a_lst, a_tup, a_call, a_cb, a_bm0, a_bm, a_sl, a_nopart, a_part, a_tyI, a_for, a_comp, a_ilist, a_irng1, a_irng2, a_irng3, a_cxK, and_assoc, a_irev, a_ienum, a_cat, a_rep, a_pop, a_clear, a_rslL, a_ixL, a_ixT, a_setL, a_app,
    List.getElem?_cons_zero, List.getElem?_cons_succ, List.set_cons_zero, List.set_cons_succ, Option.some.injEq, V.int.injEq, V.bl.injEq, V.ref.injEq, V.ty.injEq, exists_eq_left', exists_eq_left, exists_and_left, decide_eq_true_eq, List.cons_append, List.nil_append, List.append_nil, List.cons.injEq, and_true, true_and, Bool.not_eq_true', decide_eq_false_iff_not, ite_true, ite_false, Bool.false_eq_true, if_true, if_false, List.length_cons, List.length_nil, L2.start, List.map_cons, List.map_nil, List.replicate_succ, List.replicate_zero, bst]
    exact ⟨_, .inl hB, fun l nl => hR l _ (same_upd nl _) nl upd_same⟩
  have ePlG := s10 _ _ ePl
  have lhpG := lhp.same s10
  have eDdG := s10 _ _ eDd9
  have lhdG := lhd9.same s10
  obtain ⟨fn, f0, fs, fe, fl⟩ := com35 Ff hP c0 cb
  rw [hrows] at fs
  have cn : (c.natAbs : Int) ≠ 0 := by omega
  have thin : ∀ (Hx : Hp) (Q' : VK), Same G Hx → newLL Hx Q' ds → spThin K [V.ref Hd] Hx Q' E0 := fun Hx Q' sx hq => by
    have lf := Ff.l
    refine ⟨Hd, bh, rows, ds, pdL (scl c f) l, scl c.natAbs f, fn, rfl, SqL.of (sx _ _ eHd), (lhh.same sx).ll, by rw [← hrows, List.getLast?_map, hlast]; rfl, by omega, brow, f0, fs, fl, by rw [lrows]; exact fe, scl_ne Ff.ne, scl_nml cn Ff.n, by rw [scl_len]; omega, fun x hx => ?_, by omega, fun i r d hr' hd => ?_, hq⟩
    · obtain ⟨y, hy, rfl⟩ := scl_mem hx
      exact (Bd.mul (k := 67) (by show (c.natAbs : Int).natAbs < 2 ^ 67; rw [Int.natAbs_natCast]; exact bc) (bf6 y hy)).mono (by decide)
    · rw [← hrows, List.getElem?_map] at hr'
      obtain ⟨p, hp, rfl⟩ := Option.map_eq_some_iff.mp hr'
      rw [← hds, ← hds0, List.getElem?_map, List.getElem?_map, hp] at hd
      have hd' : scl sg (due0 f p b) = d := Option.some.inj hd
      rw [← hd', ← hsg, hl0']
      exact thin35 Ff hb c0 nl (hP.s p (List.mem_of_getElem? hp)).1
  refine thin G _ (Same.refl _) fun Fd bf G1 g1 nFd eFd lhf frf nFb nd => ?_
  refine ⟨Fd, Dd, bf, bd, ds, rfl, eFd, lhf, SqL.of (g1 _ _ eDdG), (lhdG.same g1).ll, by omega, bds, fun G2 g2 => ⟨true, rfl, ?_⟩⟩
  rw [if_neg (by decide)]
  have g02 := g1.trans g2
  refine ⟨_, dv_ll (SqL.of (g02 _ _ eHd)) (lhh.same g02).ll, _, dv_ll (SqL.of (g02 _ _ ePlG)) (lhpG.same g02).ll, lay_ll _, lay_ll _, dep_ll _, ?_⟩
  rw [eqv_ll, if_neg (by decide)]
  have eFd2 := g2 _ _ eFd
  have lhf2 := lhf.same g2
  refine ⟨Fd, rfl, ⟨_, SqL.of eFd2⟩, ?_⟩
  obtain ⟨Pv, hPv⟩ : ∃ Pv : Nat → L2.St → Hp → Prop, ∀ i σ H', Pv i σ H' ↔ ∃ r10 : Option V, σ = [some (V.ref a), some (V.ref R), some (V.int c), some (V.ref Fa), some (V.bl b), some (V.ref Dd), some (V.int sg), some (V.ref Pl), some (V.ref Hd), some (V.ref Fd), r10] ∧ H' Fd = some (.lst (bf.map V.ref)) ∧ (∀ x ∈ bf, ∃ xs : List V, H' x = some (.lst xs) ∧ xs.length ≤ 900 + i) ∧ Same G H' := ⟨_, fun _ _ _ => Iff.rfl⟩
  refine lp_list (xs := bf.map V.ref) Pv ((hPv _ _ _).mpr ⟨none, rfl, eFd2, fun x hx => ?_, g02⟩) (fun i σ H' _ z => by obtain ⟨_, _, z, _⟩ := (hPv i σ H').mp z; exact SqL.of z) ?_ ?_
  · obtain ⟨i, hi, e⟩ := List.mem_iff_getElem.mp hx
    have hd : i < ds.length := by rw [← lhf.len]; exact hi
    refine ⟨_, lhf2.get i x ds[i] (by rw [← e]; exact List.getElem?_eq_getElem hi) (List.getElem?_eq_getElem hd), ?_⟩
    rw [List.length_map]; exact bds _ (List.getElem_mem hd)
  · intro i v σ H' hv hp
    obtain ⟨r10, rfl, eF, all, sP⟩ := (hPv _ _ _).mp hp
    rw [List.getElem?_map] at hv
    obtain ⟨x, hx, rfl⟩ := Option.map_eq_some_iff.mp hv
    have hxm := List.mem_of_getElem? hx
    have hi : i < bf.length := (List.getElem?_eq_some_iff.mp hx).1
    have lbf := lhf.len
    obtain ⟨xs, ex, lx⟩ := all x hxm
    have nxF : Fd ≠ x := fun z => nFb (z ▸ hxm)
    simp only [a_izip, a_drop_nx, a_raise, a_seq, a_next, a_drop, a_ret, a_retN, a_if, a_asg, a_gname, a_gsub, a_gtup, a_gnil, a_gcons, a_aug, a_augS, a_ipI, a_var, a_c, a_op, a_un, a_rI, a_rI0, a_rU, a_eqI, a_neI, a_eqB, a_neB, a_tB, a_test, a_and, a_or, a_not, a_andV, a_orV, a_notV, a_nil, a_cons, a_lst, a_tup, a_call, a_cb, a_bm0, a_bm, a_sl, a_nopart, a_part, a_tyI, a_for, a_comp, a_ilist, a_irng1, a_irng2, a_irng3, a_cxK, and_assoc, a_irev, a_ienum, a_cat, a_rep, a_pop, a_clear, a_rslL, a_ixL, a_ixT, a_setL, a_app,
    List.getElem?_cons_zero, List.getElem?_cons_succ, List.set_cons_zero, List.set_cons_succ, Option.some.injEq, V.int.injEq, V.bl.injEq, V.ref.injEq, V.ty.injEq, exists_eq_left', exists_eq_left, exists_and_left, decide_eq_true_eq, List.cons_append, List.nil_append, List.append_nil, List.cons.injEq, and_true, true_and, Bool.not_eq_true', decide_eq_false_iff_not, ite_true, ite_false, Bool.false_eq_true, if_true, if_false, List.length_cons, List.length_nil, L2.start, List.map_cons, List.map_nil, List.replicate_succ, List.replicate_zero]
    refine ⟨a_tyL (SqL.of ex), _, ex, small1000 (by omega), (hPv _ _ _).mpr ⟨_, rfl, by rw [upd_ne nxF]; exact eF, fun y hy => ?_, sP.more (frf x hxm)⟩⟩
    by_cases z : y = x
    · rw [z]; exact ⟨_, upd_same, by simp; omega⟩
    · obtain ⟨ys, ey, ly⟩ := all y hy
      exact ⟨ys, by rw [upd_ne z]; exact ey, by omega⟩
  · intro σ H' hp
    obtain ⟨r10, rfl, eF, all, sP⟩ := (hPv _ _ _).mp hp
    simp only [a_izip, a_drop_nx, a_raise, a_seq, a_next, a_drop, a_ret, a_retN, a_if, a_asg, a_gname, a_gsub, a_gtup, a_gnil, a_gcons, a_aug, a_augS, a_ipI, a_var, a_c, a_op, a_un, a_rI, a_rI0, a_rU, a_eqI, a_neI, a_eqB, a_neB, a_tB, a_test, a_and, a_or, a_not, a_andV, a_orV, a_notV, a_nil, a_cons, a_lst, a_tup, a_call, a_cb, a_bm0, a_bm, a_sl, a_nopart, a_part, a_tyI, a_for, a_comp, a_ilist, a_irng1, a_irng2, a_irng3, a_cxK, and_assoc, a_irev, a_ienum, a_cat, a_rep, a_pop, a_clear, a_rslL, a_ixL, a_ixT, a_setL, a_app,
    List.getElem?_cons_zero, List.getElem?_cons_succ, List.set_cons_zero, List.set_cons_succ, Option.some.injEq, V.int.injEq, V.bl.injEq, V.ref.injEq, V.ty.injEq, exists_eq_left', exists_eq_left, exists_and_left, decide_eq_true_eq, List.cons_append, List.nil_append, List.append_nil, List.cons.injEq, and_true, true_and, Bool.not_eq_true', decide_eq_false_iff_not, ite_true, ite_false, Bool.false_eq_true, if_true, if_false, List.length_cons, List.length_nil, L2.start, List.map_cons, List.map_nil, List.replicate_succ, List.replicate_zero]
    refine thin H' _ sP fun F2 b2 G3 g3 nF2 eF2 lh2 _ _ _ => ?_
    have gs := sP.trans g3
    refine ⟨F2, Dd, b2, bd, ds, rfl, eF2, lh2, SqL.of (gs _ _ eDdG), (lhdG.same gs).ll, by omega, bds, fun G4 g4 => ⟨true, rfl, ?_⟩⟩
    have gs4 := gs.trans g4
    rw [if_pos rfl]
    refine ⟨_, dv_ll (SqL.of (gs4 _ _ eHd)) (lhh.same gs4).ll, _, dv_ll (SqL.of (gs4 _ _ ePlG)) (lhpG.same gs4).ll, lay_ll _, lay_ll _, dep_ll _, ?_⟩
    rw [eqv_ll]
    exact q _

theorem all_mk {K : PySem.W.Frag} {h : Heap} {mg : Str → Option Value} {fa f0 f1 f2 f3 f4 f5 f6 f7 f8 f9 f10 f11 f12 f13 f14 f15 f16 f17 f18 f19 f20 f21 f22 : Addr} (X : K.In h) (G : h.Ns mainGlobals mg) (hfa : mg "law" = some (.ref fa))
    {od0 an0 : Option Addr} {sl0 : Array (Option Value)} {oc0 kV0 dc0 pm0 cd0 ct0 : Value}
    (a0 : PySem.W.nsIn K mainGlobals "trimmed" = some (some (.ref f0))) (l0 : K.lookup f0 = some ⟨oc0, od0, .func (PySem.W.fnOf "trimmed" "trimmed" (defArgs s_trimmed) (defBody s_trimmed) (defScope s_trimmed) .none kV0 dc0 pm0 an0 cd0 ct0), sl0⟩) (c0 : PySem.W.codeIn K cd0 "trimmed" = true) (k0 : PySem.W.keepIn K (.ref f0) = true)
    {od1 an1 : Option Addr} {sl1 : Array (Option Value)} {oc1 kV1 dc1 pm1 cd1 ct1 : Value}
    (a1 : PySem.W.nsIn K mainGlobals "shifted" = some (some (.ref f1))) (l1 : K.lookup f1 = some ⟨oc1, od1, .func (PySem.W.fnOf "shifted" "shifted" (defArgs s_shifted) (defBody s_shifted) (defScope s_shifted) .none kV1 dc1 pm1 an1 cd1 ct1), sl1⟩) (c1 : PySem.W.codeIn K cd1 "shifted" = true) (k1 : PySem.W.keepIn K (.ref f1) = true)
    {od2 an2 : Option Addr} {sl2 : Array (Option Value)} {oc2 kV2 dc2 pm2 cd2 ct2 : Value}
    (a2 : PySem.W.nsIn K mainGlobals "poly_value" = some (some (.ref f2))) (l2 : K.lookup f2 = some ⟨oc2, od2, .func (PySem.W.fnOf "poly_value" "poly_value" (defArgs s_poly_value) (defBody s_poly_value) (defScope s_poly_value) .none kV2 dc2 pm2 an2 cd2 ct2), sl2⟩) (c2 : PySem.W.codeIn K cd2 "poly_value" = true) (k2 : PySem.W.keepIn K (.ref f2) = true)
    {od3 an3 : Option Addr} {sl3 : Array (Option Value)} {oc3 kV3 dc3 pm3 cd3 ct3 : Value}
    (a3 : PySem.W.nsIn K mainGlobals "quotient" = some (some (.ref f3))) (l3 : K.lookup f3 = some ⟨oc3, od3, .func (PySem.W.fnOf "quotient" "quotient" (defArgs s_quotient) (defBody s_quotient) (defScope s_quotient) .none kV3 dc3 pm3 an3 cd3 ct3), sl3⟩) (c3 : PySem.W.codeIn K cd3 "quotient" = true) (k3 : PySem.W.keepIn K (.ref f3) = true)
    {od4 an4 : Option Addr} {sl4 : Array (Option Value)} {oc4 kV4 dc4 pm4 cd4 ct4 : Value}
    (a4 : PySem.W.nsIn K mainGlobals "divisor" = some (some (.ref f4))) (l4 : K.lookup f4 = some ⟨oc4, od4, .func (PySem.W.fnOf "divisor" "divisor" (defArgs s_divisor) (defBody s_divisor) (defScope s_divisor) .none kV4 dc4 pm4 an4 cd4 ct4), sl4⟩) (c4 : PySem.W.codeIn K cd4 "divisor" = true) (k4 : PySem.W.keepIn K (.ref f4) = true)
    {od5 an5 : Option Addr} {sl5 : Array (Option Value)} {oc5 kV5 dc5 pm5 cd5 ct5 : Value}
    (a5 : PySem.W.nsIn K mainGlobals "content" = some (some (.ref f5))) (l5 : K.lookup f5 = some ⟨oc5, od5, .func (PySem.W.fnOf "content" "content" (defArgs s_content) (defBody s_content) (defScope s_content) .none kV5 dc5 pm5 an5 cd5 ct5), sl5⟩) (c5 : PySem.W.codeIn K cd5 "content" = true) (k5 : PySem.W.keepIn K (.ref f5) = true)
    {od6 an6 : Option Addr} {sl6 : Array (Option Value)} {oc6 kV6 dc6 pm6 cd6 ct6 : Value}
    (a6 : PySem.W.nsIn K mainGlobals "over" = some (some (.ref f6))) (l6 : K.lookup f6 = some ⟨oc6, od6, .func (PySem.W.fnOf "over" "over" (defArgs s_over) (defBody s_over) (defScope s_over) .none kV6 dc6 pm6 an6 cd6 ct6), sl6⟩) (c6 : PySem.W.codeIn K cd6 "over" = true) (k6 : PySem.W.keepIn K (.ref f6) = true)
    {od7 an7 : Option Addr} {sl7 : Array (Option Value)} {oc7 kV7 dc7 pm7 cd7 ct7 : Value}
    (a7 : PySem.W.nsIn K mainGlobals "upright" = some (some (.ref f7))) (l7 : K.lookup f7 = some ⟨oc7, od7, .func (PySem.W.fnOf "upright" "upright" (defArgs s_upright) (defBody s_upright) (defScope s_upright) .none kV7 dc7 pm7 an7 cd7 ct7), sl7⟩) (c7 : PySem.W.codeIn K cd7 "upright" = true) (k7 : PySem.W.keepIn K (.ref f7) = true)
    {od8 an8 : Option Addr} {sl8 : Array (Option Value)} {oc8 kV8 dc8 pm8 cd8 ct8 : Value}
    (a8 : PySem.W.nsIn K mainGlobals "spread" = some (some (.ref f8))) (l8 : K.lookup f8 = some ⟨oc8, od8, .func (PySem.W.fnOf "spread" "spread" (defArgs s_spread) (defBody s_spread) (defScope s_spread) .none kV8 dc8 pm8 an8 cd8 ct8), sl8⟩) (c8 : PySem.W.codeIn K cd8 "spread" = true) (k8 : PySem.W.keepIn K (.ref f8) = true)
    {od9 an9 : Option Addr} {sl9 : Array (Option Value)} {oc9 kV9 dc9 pm9 cd9 ct9 : Value}
    (a9 : PySem.W.nsIn K mainGlobals "greatest_size" = some (some (.ref f9))) (l9 : K.lookup f9 = some ⟨oc9, od9, .func (PySem.W.fnOf "greatest_size" "greatest_size" (defArgs s_greatest_size) (defBody s_greatest_size) (defScope s_greatest_size) .none kV9 dc9 pm9 an9 cd9 ct9), sl9⟩) (c9 : PySem.W.codeIn K cd9 "greatest_size" = true) (k9 : PySem.W.keepIn K (.ref f9) = true)
    {od10 an10 : Option Addr} {sl10 : Array (Option Value)} {oc10 kV10 dc10 pm10 cd10 ct10 : Value}
    (a10 : PySem.W.nsIn K mainGlobals "bare_common" = some (some (.ref f10))) (l10 : K.lookup f10 = some ⟨oc10, od10, .func (PySem.W.fnOf "bare_common" "bare_common" (defArgs s_bare_common) (defBody s_bare_common) (defScope s_bare_common) .none kV10 dc10 pm10 an10 cd10 ct10), sl10⟩) (c10 : PySem.W.codeIn K cd10 "bare_common" = true) (k10 : PySem.W.keepIn K (.ref f10) = true)
    {od11 an11 : Option Addr} {sl11 : Array (Option Value)} {oc11 kV11 dc11 pm11 cd11 ct11 : Value}
    (a11 : PySem.W.nsIn K mainGlobals "common" = some (some (.ref f11))) (l11 : K.lookup f11 = some ⟨oc11, od11, .func (PySem.W.fnOf "common" "common" (defArgs s_common) (defBody s_common) (defScope s_common) .none kV11 dc11 pm11 an11 cd11 ct11), sl11⟩) (c11 : PySem.W.codeIn K cd11 "common" = true) (k11 : PySem.W.keepIn K (.ref f11) = true)
    {od12 an12 : Option Addr} {sl12 : Array (Option Value)} {oc12 kV12 dc12 pm12 cd12 ct12 : Value}
    (a12 : PySem.W.nsIn K mainGlobals "common_of" = some (some (.ref f12))) (l12 : K.lookup f12 = some ⟨oc12, od12, .func (PySem.W.fnOf "common_of" "common_of" (defArgs s_common_of) (defBody s_common_of) (defScope s_common_of) .none kV12 dc12 pm12 an12 cd12 ct12), sl12⟩) (c12 : PySem.W.codeIn K cd12 "common_of" = true) (k12 : PySem.W.keepIn K (.ref f12) = true)
    {od13 an13 : Option Addr} {sl13 : Array (Option Value)} {oc13 kV13 dc13 pm13 cd13 ct13 : Value}
    (a13 : PySem.W.nsIn K mainGlobals "clear" = some (some (.ref f13))) (l13 : K.lookup f13 = some ⟨oc13, od13, .func (PySem.W.fnOf "clear" "clear" (defArgs s_clear) (defBody s_clear) (defScope s_clear) .none kV13 dc13 pm13 an13 cd13 ct13), sl13⟩) (c13 : PySem.W.codeIn K cd13 "clear" = true) (k13 : PySem.W.keepIn K (.ref f13) = true)
    {od14 an14 : Option Addr} {sl14 : Array (Option Value)} {oc14 kV14 dc14 pm14 cd14 ct14 : Value}
    (a14 : PySem.W.nsIn K mainGlobals "thinned" = some (some (.ref f14))) (l14 : K.lookup f14 = some ⟨oc14, od14, .func (PySem.W.fnOf "thinned" "thinned" (defArgs s_thinned) (defBody s_thinned) (defScope s_thinned) .none kV14 dc14 pm14 an14 cd14 ct14), sl14⟩) (c14 : PySem.W.codeIn K cd14 "thinned" = true) (k14 : PySem.W.keepIn K (.ref f14) = true)
    {od15 an15 : Option Addr} {sl15 : Array (Option Value)} {oc15 kV15 dc15 pm15 cd15 ct15 : Value}
    (a15 : PySem.W.nsIn K mainGlobals "_law_cell_at" = some (some (.ref f15))) (l15 : K.lookup f15 = some ⟨oc15, od15, .func (PySem.W.fnOf "_law_cell_at" "_law_cell_at" (defArgs s__law_cell_at) (defBody s__law_cell_at) (defScope s__law_cell_at) .none kV15 dc15 pm15 an15 cd15 ct15), sl15⟩) (c15 : PySem.W.codeIn K cd15 "_law_cell_at" = true) (k15 : PySem.W.keepIn K (.ref f15) = true)
    {od16 an16 : Option Addr} {sl16 : Array (Option Value)} {oc16 kV16 dc16 pm16 cd16 ct16 : Value}
    (a16 : PySem.W.nsIn K mainGlobals "_law_cut" = some (some (.ref f16))) (l16 : K.lookup f16 = some ⟨oc16, od16, .func (PySem.W.fnOf "_law_cut" "_law_cut" (defArgs s__law_cut) (defBody s__law_cut) (defScope s__law_cut) .none kV16 dc16 pm16 an16 cd16 ct16), sl16⟩) (c16 : PySem.W.codeIn K cd16 "_law_cut" = true) (k16 : PySem.W.keepIn K (.ref f16) = true)
    {od17 an17 : Option Addr} {sl17 : Array (Option Value)} {oc17 kV17 dc17 pm17 cd17 ct17 : Value}
    (a17 : PySem.W.nsIn K mainGlobals "_law_product" = some (some (.ref f17))) (l17 : K.lookup f17 = some ⟨oc17, od17, .func (PySem.W.fnOf "_law_product" "_law_product" (defArgs s__law_product) (defBody s__law_product) (defScope s__law_product) .none kV17 dc17 pm17 an17 cd17 ct17), sl17⟩) (c17 : PySem.W.codeIn K cd17 "_law_product" = true) (k17 : PySem.W.keepIn K (.ref f17) = true)
    {od18 an18 : Option Addr} {sl18 : Array (Option Value)} {oc18 kV18 dc18 pm18 cd18 ct18 : Value}
    (a18 : PySem.W.nsIn K mainGlobals "_law_factor" = some (some (.ref f18))) (l18 : K.lookup f18 = some ⟨oc18, od18, .func (PySem.W.fnOf "_law_factor" "_law_factor" (defArgs s__law_factor) (defBody s__law_factor) (defScope s__law_factor) .none kV18 dc18 pm18 an18 cd18 ct18), sl18⟩) (c18 : PySem.W.codeIn K cd18 "_law_factor" = true) (k18 : PySem.W.keepIn K (.ref f18) = true)
    {od19 an19 : Option Addr} {sl19 : Array (Option Value)} {oc19 kV19 dc19 pm19 cd19 ct19 : Value}
    (a19 : PySem.W.nsIn K mainGlobals "_law_parts" = some (some (.ref f19))) (l19 : K.lookup f19 = some ⟨oc19, od19, .func (PySem.W.fnOf "_law_parts" "_law_parts" (defArgs s__law_parts) (defBody s__law_parts) (defScope s__law_parts) .none kV19 dc19 pm19 an19 cd19 ct19), sl19⟩) (c19 : PySem.W.codeIn K cd19 "_law_parts" = true) (k19 : PySem.W.keepIn K (.ref f19) = true)
    {od20 an20 : Option Addr} {sl20 : Array (Option Value)} {oc20 kV20 dc20 pm20 cd20 ct20 : Value}
    (a20 : PySem.W.nsIn K mainGlobals "_law_number" = some (some (.ref f20))) (l20 : K.lookup f20 = some ⟨oc20, od20, .func (PySem.W.fnOf "_law_number" "_law_number" (defArgs s__law_number) (defBody s__law_number) (defScope s__law_number) .none kV20 dc20 pm20 an20 cd20 ct20), sl20⟩) (c20 : PySem.W.codeIn K cd20 "_law_number" = true) (k20 : PySem.W.keepIn K (.ref f20) = true)
    {od21 an21 : Option Addr} {sl21 : Array (Option Value)} {oc21 kV21 dc21 pm21 cd21 ct21 : Value}
    (a21 : PySem.W.nsIn K mainGlobals "_law_is" = some (some (.ref f21))) (l21 : K.lookup f21 = some ⟨oc21, od21, .func (PySem.W.fnOf "_law_is" "_law_is" (defArgs s__law_is) (defBody s__law_is) (defScope s__law_is) .none kV21 dc21 pm21 an21 cd21 ct21), sl21⟩) (c21 : PySem.W.codeIn K cd21 "_law_is" = true) (k21 : PySem.W.keepIn K (.ref f21) = true)
    {od22 an22 : Option Addr} {sl22 : Array (Option Value)} {oc22 kV22 dc22 pm22 cd22 ct22 : Value}
    (a22 : PySem.W.nsIn K mainGlobals "law" = some (some (.ref f22))) (l22 : K.lookup f22 = some ⟨oc22, od22, .func (PySem.W.fnOf "law" "law" (defArgs s_law) (defBody s_law) (defScope s_law) .none kV22 dc22 pm22 an22 cd22 ct22), sl22⟩) (c22 : PySem.W.codeIn K cd22 "law" = true) (k22 : PySem.W.keepIn K (.ref f22) = true)
    {e_NoNumber : Addr} (xa_NoNumber : PySem.W.nsIn K mainGlobals "NoNumber" = some (some (.ref e_NoNumber))) (xx_NoNumber : PySem.W.excIn K e_NoNumber bmV "ValueError.__new__" = true)
    (z0 : PySem.W.nsIn K mainGlobals "len" = some none)
    (z1 : PySem.W.nsIn K mainGlobals "list" = some none)
    (z2 : PySem.W.nsIn K mainGlobals "range" = some none)
    (z3 : PySem.W.nsIn K mainGlobals "reversed" = some none)
    (z4 : PySem.W.nsIn K mainGlobals "max" = some none)
    (z5 : PySem.W.nsIn K mainGlobals "enumerate" = some none)
    (z6 : PySem.W.nsIn K mainGlobals "abs" = some none)
    (z7 : PySem.W.nsIn K mainGlobals "min" = some none)
    (z8 : PySem.W.nsIn K mainGlobals "zip" = some none)
    (z9 : PySem.W.nsIn K mainGlobals "isinstance" = some none)
    (z10 : PySem.W.nsIn K mainGlobals "bool" = some none)
    (z11 : PySem.W.nsIn K mainGlobals "int" = some none)
    {t0 : Tok} (g0 : PySem.W.nsIn K mainGlobals "LONG" = some (some (.int 4000 t0)))
    : ∃ T : Tx K mg, T.a_law = fa ∧ ∀ (s : Shared) (v : Value), BindsTo s T.fd_law ⟨[v], []⟩ [("_law_script", v)] := by
  have e := hfa.symm.trans (PySem.W.mg_of X G a22)
  cases e
  have F0 := fun_mk (st := s_trimmed) l0 c0 k0
  have b0 := F0.binds (ps := ["numbers"]) fun _ _ _ _ _ _ us hl => match us, hl with | [_], _ => rfl
  have F1 := fun_mk (st := s_shifted) l1 c1 k1
  have b1 := F1.binds (ps := ["poly", "by"]) fun _ _ _ _ _ _ us hl => match us, hl with | [_, _], _ => rfl
  have F2 := fun_mk (st := s_poly_value) l2 c2 k2
  have b2 := F2.binds (ps := ["poly", "n"]) fun _ _ _ _ _ _ us hl => match us, hl with | [_, _], _ => rfl
  have F3 := fun_mk (st := s_quotient) l3 c3 k3
  have b3 := F3.binds (ps := ["one", "other"]) fun _ _ _ _ _ _ us hl => match us, hl with | [_, _], _ => rfl
  have F4 := fun_mk (st := s_divisor) l4 c4 k4
  have b4 := F4.binds (ps := ["one", "other"]) fun _ _ _ _ _ _ us hl => match us, hl with | [_, _], _ => rfl
  have F5 := fun_mk (st := s_content) l5 c5 k5
  have b5 := F5.binds (ps := ["poly"]) fun _ _ _ _ _ _ us hl => match us, hl with | [_], _ => rfl
  have F6 := fun_mk (st := s_over) l6 c6 k6
  have b6 := F6.binds (ps := ["poly", "number"]) fun _ _ _ _ _ _ us hl => match us, hl with | [_, _], _ => rfl
  have F7 := fun_mk (st := s_upright) l7 c7 k7
  have b7 := F7.binds (ps := ["poly"]) fun _ _ _ _ _ _ us hl => match us, hl with | [_], _ => rfl
  have F8 := fun_mk (st := s_spread) l8 c8 k8
  have b8 := F8.binds (ps := ["number", "base"]) fun _ _ _ _ _ _ us hl => match us, hl with | [_, _], _ => rfl
  have F9 := fun_mk (st := s_greatest_size) l9 c9 k9
  have b9 := F9.binds (ps := ["poly"]) fun _ _ _ _ _ _ us hl => match us, hl with | [_], _ => rfl
  have F10 := fun_mk (st := s_bare_common) l10 c10 k10
  have b10 := F10.binds (ps := ["one", "other"]) fun _ _ _ _ _ _ us hl => match us, hl with | [_, _], _ => rfl
  have F11 := fun_mk (st := s_common) l11 c11 k11
  have b11 := F11.binds (ps := ["one", "other"]) fun _ _ _ _ _ _ us hl => match us, hl with | [_, _], _ => rfl
  have F12 := fun_mk (st := s_common_of) l12 c12 k12
  have b12 := F12.binds (ps := ["polys"]) fun _ _ _ _ _ _ us hl => match us, hl with | [_], _ => rfl
  have F13 := fun_mk (st := s_clear) l13 c13 k13
  have b13 := F13.binds (ps := ["poly", "m"]) fun _ _ _ _ _ _ us hl => match us, hl with | [_, _], _ => rfl
  have F14 := fun_mk (st := s_thinned) l14 c14 k14
  have b14 := F14.binds (ps := ["polys"]) fun _ _ _ _ _ _ us hl => match us, hl with | [_], _ => rfl
  have F15 := fun_mk (st := s__law_cell_at) l15 c15 k15
  have b15 := F15.binds (ps := ["_law_script", "_law_k"]) fun _ _ _ _ _ _ us hl => match us, hl with | [_, _], _ => rfl
  have F16 := fun_mk (st := s__law_cut) l16 c16 k16
  have b16 := F16.binds (ps := ["_law_numbers"]) fun _ _ _ _ _ _ us hl => match us, hl with | [_], _ => rfl
  have F17 := fun_mk (st := s__law_product) l17 c17 k17
  have b17 := F17.binds (ps := ["_law_one", "_law_other"]) fun _ _ _ _ _ _ us hl => match us, hl with | [_, _], _ => rfl
  have F18 := fun_mk (st := s__law_factor) l18 c18 k18
  have b18 := F18.binds (ps := ["_law_cell"]) fun _ _ _ _ _ _ us hl => match us, hl with | [_], _ => rfl
  have F19 := fun_mk (st := s__law_parts) l19 c19 k19
  have b19 := F19.binds (ps := ["_law_script"]) fun _ _ _ _ _ _ us hl => match us, hl with | [_], _ => rfl
  have F20 := fun_mk (st := s__law_number) l20 c20 k20
  have b20 := F20.binds (ps := ["_law_cell"]) fun _ _ _ _ _ _ us hl => match us, hl with | [_], _ => rfl
  have F21 := fun_mk (st := s__law_is) l21 c21 k21
  have b21 := F21.binds (ps := ["_law_found", "_law_due"]) fun _ _ _ _ _ _ us hl => match us, hl with | [_, _], _ => rfl
  have F22 := fun_mk (st := s_law) l22 c22 k22
  have b22 := F22.binds (ps := ["_law_script"]) fun _ _ _ _ _ _ us hl => match us, hl with | [_], _ => rfl
  exact ⟨⟨_, _, F0, PySem.W.mg_of X G a0, b0, _, _, F1, PySem.W.mg_of X G a1, b1, _, _, F2, PySem.W.mg_of X G a2, b2, _, _, F3, PySem.W.mg_of X G a3, b3, _, _, F4, PySem.W.mg_of X G a4, b4, _, _, F5, PySem.W.mg_of X G a5, b5, _, _, F6, PySem.W.mg_of X G a6, b6, _, _, F7, PySem.W.mg_of X G a7, b7, _, _, F8, PySem.W.mg_of X G a8, b8, _, _, F9, PySem.W.mg_of X G a9, b9, _, _, F10, PySem.W.mg_of X G a10, b10, _, _, F11, PySem.W.mg_of X G a11, b11, _, _, F12, PySem.W.mg_of X G a12, b12, _, _, F13, PySem.W.mg_of X G a13, b13, _, _, F14, PySem.W.mg_of X G a14, b14, _, _, F15, PySem.W.mg_of X G a15, b15, _, _, F16, PySem.W.mg_of X G a16, b16, _, _, F17, PySem.W.mg_of X G a17, b17, _, _, F18, PySem.W.mg_of X G a18, b18, _, _, F19, PySem.W.mg_of X G a19, b19, _, _, F20, PySem.W.mg_of X G a20, b20, _, _, F21, PySem.W.mg_of X G a21, b21, _, _, F22, PySem.W.mg_of X G a22, b22, _, PySem.W.mg_of X G xa_NoNumber, xx_NoNumber, PySem.W.mg_none_of X G z0, PySem.W.mg_none_of X G z1, PySem.W.mg_none_of X G z2, PySem.W.mg_none_of X G z3, PySem.W.mg_none_of X G z4, PySem.W.mg_none_of X G z5, PySem.W.mg_none_of X G z6, PySem.W.mg_none_of X G z7, PySem.W.mg_none_of X G z8, PySem.W.mg_none_of X G z9, PySem.W.mg_none_of X G z10, PySem.W.mg_none_of X G z11, ⟨_, PySem.W.mg_of X G g0⟩⟩, rfl, fun s v => .of_eq rfl⟩
theorem walk {l : PySem.W.OpenLaw} {q : Program} {loose : List Str} {XP : (Str → Option Value) → Heap → Prop} {YP : World → Heap → Prop} {d : DefRec} {K : Params → PySem.W.Frag} (hn : l.most = some 63) (hdf : d.params.defaults = [])
    (hY : ∀ (w : World) (h : Heap), YP w h → (K w.params).In h)
    (F : ∀ (w : World) (mg : Str → Option Value) (fa : Addr) (h : Heap), (K w.params).In h → h.Ns mainGlobals mg → mg d.name = some (.ref fa) →
      ∃ T : Tx (K w.params) mg, T.a_law = fa ∧ ∀ (s : Shared) (v : Value), BindsTo s T.fd_law ⟨[v], []⟩ [("_law_script", v)]) :
    PySem.W.WalkO q loose XP YP l.row.toRowW d [] (fun f vs => PySem.call f vs) :=
  L2.walk_of (n := 63) (k := 20) (x := "_law_script") (CX := fun _ => CX0) (sp := fun w => spLaw (K w.params)) hn (by decide) hdf ⟨rfl, by decide, by decide⟩ hY
    (fun w mg fa h KX G hmg => by
      obtain ⟨T, e, hb⟩ := F w mg fa h KX G hmg
      subst e
      exact ⟨T.fd_law, hb, fun base _ _ => FnOk.mono (ok_law T) (by decide)⟩)
    (fun _ H a ns hl _ hS => ⟨a, ns, rfl, hS, hl, fun _ => rfl⟩) fun _ _ _ _ _ z => z
end My
open PySem PySem.W PyProof.Rows
set_option maxRecDepth 100000 in
set_option maxHeartbeats 0 in
theorem PySem.Challenge.cw_sumcraft_k35_thinned_holds : PySem.Challenge.rw_sumcraft_k35_thinned.Holds := by
  w_on; o_law; k_head; (case hw => w_witness2)
  k_fill
  refine My.walk (l := PySem.Challenge.rw_sumcraft_k35_thinned) rfl rfl (fun w h Y => PySem.W.kIn_of Y) ?F
  case F =>
    intro w mg fa h KX G hmg
    refine' My.all_mk KX G hmg ?a0 ?l0 ?c0 ?k0 ?a1 ?l1 ?c1 ?k1 ?a2 ?l2 ?c2 ?k2 ?a3 ?l3 ?c3 ?k3 ?a4 ?l4 ?c4 ?k4 ?a5 ?l5 ?c5 ?k5 ?a6 ?l6 ?c6 ?k6 ?a7 ?l7 ?c7 ?k7 ?a8 ?l8 ?c8 ?k8 ?a9 ?l9 ?c9 ?k9 ?a10 ?l10 ?c10 ?k10 ?a11 ?l11 ?c11 ?k11 ?a12 ?l12 ?c12 ?k12 ?a13 ?l13 ?c13 ?k13 ?a14 ?l14 ?c14 ?k14 ?a15 ?l15 ?c15 ?k15 ?a16 ?l16 ?c16 ?k16 ?a17 ?l17 ?c17 ?k17 ?a18 ?l18 ?c18 ?k18 ?a19 ?l19 ?c19 ?k19 ?a20 ?l20 ?c20 ?k20 ?a21 ?l21 ?c21 ?k21 ?a22 ?l22 ?c22 ?k22 ?xa_NoNumber ?xx_NoNumber ?z0 ?z1 ?z2 ?z3 ?z4 ?z5 ?z6 ?z7 ?z8 ?z9 ?z10 ?z11 ?gg0
    (case a0 => k_is)
    (case l0 => k_is)
    (case c0 => k_is)
    (case k0 => k_is)
    (case a1 => k_is)
    (case l1 => k_is)
    (case c1 => k_is)
    (case k1 => k_is)
    (case a2 => k_is)
    (case l2 => k_is)
    (case c2 => k_is)
    (case k2 => k_is)
    (case a3 => k_is)
    (case l3 => k_is)
    (case c3 => k_is)
    (case k3 => k_is)
    (case a4 => k_is)
    (case l4 => k_is)
    (case c4 => k_is)
    (case k4 => k_is)
    (case a5 => k_is)
    (case l5 => k_is)
    (case c5 => k_is)
    (case k5 => k_is)
    (case a6 => k_is)
    (case l6 => k_is)
    (case c6 => k_is)
    (case k6 => k_is)
    (case a7 => k_is)
    (case l7 => k_is)
    (case c7 => k_is)
    (case k7 => k_is)
    (case a8 => k_is)
    (case l8 => k_is)
    (case c8 => k_is)
    (case k8 => k_is)
    (case a9 => k_is)
    (case l9 => k_is)
    (case c9 => k_is)
    (case k9 => k_is)
    (case a10 => k_is)
    (case l10 => k_is)
    (case c10 => k_is)
    (case k10 => k_is)
    (case a11 => k_is)
    (case l11 => k_is)
    (case c11 => k_is)
    (case k11 => k_is)
    (case a12 => k_is)
    (case l12 => k_is)
    (case c12 => k_is)
    (case k12 => k_is)
    (case a13 => k_is)
    (case l13 => k_is)
    (case c13 => k_is)
    (case k13 => k_is)
    (case a14 => k_is)
    (case l14 => k_is)
    (case c14 => k_is)
    (case k14 => k_is)
    (case a15 => k_is)
    (case l15 => k_is)
    (case c15 => k_is)
    (case k15 => k_is)
    (case a16 => k_is)
    (case l16 => k_is)
    (case c16 => k_is)
    (case k16 => k_is)
    (case a17 => k_is)
    (case l17 => k_is)
    (case c17 => k_is)
    (case k17 => k_is)
    (case a18 => k_is)
    (case l18 => k_is)
    (case c18 => k_is)
    (case k18 => k_is)
    (case a19 => k_is)
    (case l19 => k_is)
    (case c19 => k_is)
    (case k19 => k_is)
    (case a20 => k_is)
    (case l20 => k_is)
    (case c20 => k_is)
    (case k20 => k_is)
    (case a21 => k_is)
    (case l21 => k_is)
    (case c21 => k_is)
    (case k21 => k_is)
    (case a22 => k_is)
    (case l22 => k_is)
    (case c22 => k_is)
    (case k22 => k_is)
    (case xa_NoNumber => k_is)
    (case xx_NoNumber => k_exc)
    (case z0 => k_is)
    (case z1 => k_is)
    (case z2 => k_is)
    (case z3 => k_is)
    (case z4 => k_is)
    (case z5 => k_is)
    (case z6 => k_is)
    (case z7 => k_is)
    (case z8 => k_is)
    (case z9 => k_is)
    (case z10 => k_is)
    (case z11 => k_is)
    (case gg0 => k_is)
