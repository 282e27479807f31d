import PyProof.Rows.All
import Wide.All
import OpenK.AllK
import Wide.FinOn
import Lean
import PyProof.EqAt
import PyProof.EqKinds
import PyProof.TupleCall
import PySem.Challenge.RW_sumcraft_k12_values_that_keep_a_rule
set_option Elab.async false
set_option linter.all false
set_option maxRecDepth 100000
set_option maxHeartbeats 4000000
/-! THE HAND LAYER, for ints, bools, texts, own classes, LISTS and tuples (index, slices, in, append, pop ..), calls, loops. Paste it whole ahead of your own text; what your proof does not reach may be deleted. -/
namespace L2
open PySem PySem.Spec PyProof.Rows

/-- a key: an int or a str -/
abbrev Key := Sum Int Str
def keyIs : Key → Value → Bool
  | .inl k, v => Value.isInt k v
  | .inr x, v => Value.isStrOf x v
def keyH (w : World) : Key → Int
  | .inl k => hashInt k
  | .inr x => hashStr w x
theorem keyIs_shape : ∀ {k : Key} {v : Value}, keyIs k v = true → (∃ i t, k = Sum.inl i ∧ v = Value.int i t) ∨ (∃ x t, k = Sum.inr x ∧ v = Value.str x t)
  | .inl i, v, h => by
    obtain ⟨t, e⟩ := Value.isInt_shape (k := i) (v := v) h
    exact .inl ⟨i, t, rfl, e⟩
  | .inr x, v, h => by
    obtain ⟨t, e⟩ := Value.isStrOf_shape (x := x) (v := v) h
    exact .inr ⟨x, t, rfl, e⟩
theorem key_ll (a b : Int) : decide ((Sum.inl a : Key) = Sum.inl b) = (a == b) := by
  by_cases e : a = b
  · subst e; simp
  · have h : ¬ (Sum.inl a : Key) = Sum.inl b := fun q => e (Sum.inl.inj q)
    rw [decide_eq_false h]
    exact (beq_eq_false_iff_ne.mpr e).symm
theorem key_rr (a b : Str) : decide ((Sum.inr a : Key) = Sum.inr b) = decide (a = b) := by
  by_cases e : a = b
  · subst e; simp
  · have h : ¬ (Sum.inr a : Key) = Sum.inr b := fun q => e (Sum.inr.inj q)
    rw [decide_eq_false h, decide_eq_false e]
theorem key_lr (a : Int) (b : Str) : decide ((Sum.inl a : Key) = Sum.inr b) = false := decide_eq_false (fun q => nomatch q)
theorem key_rl (a : Str) (b : Int) : decide ((Sum.inr a : Key) = Sum.inl b) = false := decide_eq_false (fun q => nomatch q)

def mixKind (prog : Program) (w : World) : PySem.KeyKind prog w Key where
  is := keyIs
  hash := keyH w
  inj := fun v a b ha hb => by
    rcases keyIs_shape ha with ⟨i, t, rfl, rfl⟩ | ⟨x, t, rfl, rfl⟩
    · rcases keyIs_shape hb with ⟨j, u, rfl, e⟩ | ⟨y, u, rfl, e⟩
      · injection e with e1 _; rw [e1]
      · exact nomatch e
    · rcases keyIs_shape hb with ⟨j, u, rfl, e⟩ | ⟨y, u, rfl, e⟩
      · exact nomatch e
      · injection e with e1 _; rw [e1]
  byValue := fun k v h => by
    rcases keyIs_shape h with ⟨i, t, rfl, rfl⟩ | ⟨x, t, rfl, rfl⟩ <;> rfl
  pyHash := fun hv h => by
    rcases keyIs_shape hv with ⟨i, t, rfl, rfl⟩ | ⟨x, t, rfl, rfl⟩
    · exact wpAny_pyHash_int h
    · exact wpAny_pyHash_str h
  eqBool := fun hu hv h => by
    rcases keyIs_shape hu with ⟨i, t, rfl, rfl⟩ | ⟨x, t, rfl, rfl⟩
    · rcases keyIs_shape hv with ⟨j, u, rfl, rfl⟩ | ⟨y, u, rfl, rfl⟩
      · rw [key_ll] at h; exact wpAny_eqBool_int h
      · rw [key_lr] at h; exact SeqAt.EqAt.int_str i t y u _ _ _ _ h
    · rcases keyIs_shape hv with ⟨j, u, rfl, rfl⟩ | ⟨y, u, rfl, rfl⟩
      · rw [key_rl] at h; exact SeqAt.EqAt.str_int x t j u _ _ _ _ h
      · rw [key_rr] at h; exact wpAny_eqBool_str h
  «strs» := fun k x t v h => by
    rcases keyIs_shape h with ⟨i, u, rfl, e⟩ | ⟨y, u, rfl, e⟩
    · exact nomatch e
    · injection e with e1 _
      subst e1
      cases v <;> rfl

end L2

namespace L2
open PySem PySem.Spec PyProof.Rows

/-- a value, without the heap -/
inductive V where
  | non | bl (b : Bool) | int (i : Int) | str (x : Str) | byt (b : Array UInt8) | flt (b : UInt64) | ref (a : Addr) | ty (n : String)
  deriving DecidableEq

def RelV : V → Value → Prop
  | .non, u => u = Value.none
  | .bl b, u => u = Value.bool b
  | .int i, u => ∃ t, u = Value.int i t
  | .str x, u => ∃ t, u = Value.str x t
  | .byt b, u => ∃ t, u = Value.bytes b t
  | .flt b, u => ∃ t, u = Value.float b t
  | .ref a, u => u = Value.ref a
  | .ty n, u => u = Value.type n

abbrev Vals : List V → List Value → Prop := Paired RelV
theorem Vals.length {xs : List V} {us : List Value} (r : Vals xs us) : xs.length = us.length := Paired.length r
theorem Vals.get : ∀ {xs : List V} {us : List Value} {i : Nat} {x : V}, Vals xs us → xs[i]? = some x → ∃ u, us[i]? = some u ∧ RelV x u
  | _, _, _, _, .nil, e => by simp at e
  | _, _, 0, _, .cons r _, e => by simp at e; subst e; exact ⟨_, rfl, r⟩
  | _, _, i + 1, x, .cons _ t, e => by
    obtain ⟨u, h1, h2⟩ := Vals.get (i := i) (x := x) t (by simpa using e)
    exact ⟨u, by simpa using h1, h2⟩
theorem Vals.set {x : V} {u : Value} (r : RelV x u) : ∀ {xs : List V} {us : List Value} (i : Nat), Vals xs us → Vals (xs.set i x) (us.set i u)
  | _, _, _, .nil => .nil
  | _, _, 0, .cons _ t => .cons r t
  | _, _, i + 1, .cons q t => .cons q (Vals.set r i t)
theorem Vals.append : ∀ {xs ys : List V} {us ws : List Value}, Vals xs us → Vals ys ws → Vals (xs ++ ys) (us ++ ws)
  | _, _, _, _, .nil, s => s
  | _, _, _, _, .cons r t, s => .cons r (Vals.append t s)
theorem Vals.take : ∀ {xs : List V} {us : List Value} (n : Nat), Vals xs us → Vals (xs.take n) (us.take n)
  | _, _, 0, _ => .nil
  | _, _, _ + 1, .nil => .nil
  | _, _, n + 1, .cons r t => .cons r (Vals.take n t)
theorem Vals.drop : ∀ {xs : List V} {us : List Value} (n : Nat), Vals xs us → Vals (xs.drop n) (us.drop n)
  | _, _, 0, r => r
  | _, _, _ + 1, .nil => .nil
  | _, _, n + 1, .cons _ t => Vals.drop n t
def RelO : Option V → Option Value → Prop
  | some v, some u => RelV v u
  | none, none => True
  | _, _ => False
def KV {κ : Type} : List (κ × V) → List (κ × Value) → Prop := Paired fun (p : κ × V) (q : κ × Value) => p.1 = q.1 ∧ RelV p.2 q.2

/-- a key of a dict (00_mix): an int or a text -/
def kV : Key → V
  | .inl i => .int i
  | .inr x => .str x

/-- what stands at a tracked address -/
inductive HO where
  /-- a list -/
  | lst (xs : List V)
  /-- a tuple (never changes) -/
  | tup (xs : List V)
  /-- a dict whose keys are ints and texts; one whose keys are tuples of ints and texts (the empty one is both) -/
  | dK (kvs : List (Key × V)) | dT (kvs : List (List Key × V))
  /-- a set of ints: its members, its size -/
  | set (S : Int → Bool) (n : Nat)
  /-- an instance of the class at C, its dict at dx, its attributes -/
  | ins (C dx : Addr) (fs : List (Str × V))
  /-- the dict of the instance at x -/
  | own (x : Addr)
  /-- the dict of an exception -/
  | xd (fs : List (Str × V))
  /-- a bound method, f of x -/
  | met (f x : Addr)
  /-- a range object lo, lo + 1, .. below hi -/
  | rng (lo hi : Int)
  /-- a thing that is known to the object (the script; a dict while a loop walks it): read, never written while it is so -/
  | frz (o : Obj) (u : HO)
  /-- a code object's table -/
  | tbl (ps : Array Value)
  /-- any other thing, by what is true of its one object (a def of one's own: SetO a S n := HO.ext fun h => ..) -/
  | ext (φ : Heap → Prop)

abbrev Hp := Addr → Option HO
def upd (H : Hp) (a : Addr) (o : HO) : Hp := fun b => if b = a then some o else H b
theorem upd_same {H : Hp} {a : Addr} {o : HO} : upd H a o a = some o := by unfold upd; rw [if_pos rfl]
theorem upd_ne {H : Hp} {a b : Addr} {o : HO} (h : b ≠ a) : upd H a o b = H b := by unfold upd; rw [if_neg h]
theorem upd_upd {H : Hp} {a : Addr} {o u : HO} : upd (upd H a o) a u = upd H a u := by
  funext b; unfold upd; split <;> rfl
theorem ne_of_none {H : Hp} {a b : Addr} {o : HO} (h : H a = some o) (h' : H b = none) : a ≠ b := by
  intro e; subst e; rw [h] at h'; cases h'

section
variable (P : Program) (w : World)
def ObjOk (H : Hp) (h : Heap) (a : Addr) : HO → Prop
  | .lst xs => xs.length ≤ sizeLine ∧ ∃ (its : List Value) (n : Nat), Vals xs its ∧ h.get? a = some { cls := .type "list", data := .seq its.toArray n }
  | .tup xs => xs.length ≤ sizeLine ∧ ∃ its : List Value, Vals xs its ∧ IsTup h a its.toArray
  | .dK kvs => kvs.length ≤ sizeLine ∧ (a == sysModules) = false ∧ ∃ vs, KV kvs vs ∧ h.DictOf (mixKind P w) a vs
  | .dT kvs => kvs.length ≤ sizeLine ∧ (a == sysModules) = false ∧ ∃ xs : List (List Key × Addr × Value),
      Paired (fun (p : List Key × V) (q : List Key × Addr × Value) => p.1 = q.1 ∧ H q.2.1 = some (.tup (p.1.map kV)) ∧ RelV p.2 q.2.2) kvs xs ∧
      ∃ o es ep, h.get? a = some o ∧ o.ExactDict ∧ o.data = .dict es ep ∧ es.toList = xs.map (entryOfKey (tupleKind (mixKind P w))) ∧ (xs.map (·.1)).Nodup
  | .set S n => h.SetOf (intKind P w) a S n
  | .ins C dx fs => H dx = some (.own a) ∧ fs.length ≤ 1000 ∧ dx ≠ a ∧ h.get? a = some (PySem.W.instObj C dx) ∧
      ∃ mA, h.Ns1 dx mA ∧ (∀ f, RelO (fs.lookup f) (mA f)) ∧ PySem.Within mA (fs.map (·.1))
  | .own _ => ∃ o, h.get? a = some o
  | .xd fs => ∃ mA, h.Ns1 a mA ∧ ∀ f, RelO (fs.lookup f) (mA f)
  | .rng lo hi => ∃ t u v, h.get? a = some { cls := .type "range", data := .fields #[.int lo t, .int hi u, .int 1 v] }
  | .frz o u => h.get? a = some o ∧ ObjOk H h a u
  | .tbl ps => h.get? a = some { cls := .none, data := .fields ps }
  | .met f x => h.get? a = some (PySem.W.methodObj (.ref f) (.ref x))
  | .ext φ => φ h ∧ (∃ o, h.get? a = some o) ∧ ∀ h1 h2 : Heap, φ h1 → (∀ o, h1.get? a = some o → h2.get? a = some o) → φ h2
/-- the abstract heap is held -/
def HOk (H : Hp) (h : Heap) : Prop := ∀ a o, H a = some o → ObjOk P w H h a o
end

section
variable {P : Program} {w : World} {H H' : Hp} {h h' : Heap} {a : Addr} {o : HO}
theorem ObjOk.lt (x : ObjOk P w H h a o) : a < h.objs.size := by
  cases o with
  | lst xs => obtain ⟨_, _, _, _, e⟩ := x; exact Heap.lt_size e
  | tup xs => obtain ⟨_, _, _, p⟩ := x; exact p.lt
  | dK kvs => obtain ⟨_, _, _, _, o, _, _, e, _⟩ := x; exact Heap.lt_size e
  | dT kvs => obtain ⟨_, _, _, _, o, _, _, e, _⟩ := x; exact Heap.lt_size e
  | set S n => obtain ⟨o, _, _, _, e, _⟩ := x; exact Heap.lt_size e
  | ins C dx fs => obtain ⟨_, _, _, e, _⟩ := x; exact Heap.lt_size e
  | own y => obtain ⟨_, e⟩ := x; exact Heap.lt_size e
  | xd fs => obtain ⟨_, ⟨_, _, _, e, _⟩, _⟩ := x; exact Heap.lt_size e
  | rng lo hi => obtain ⟨_, _, _, e⟩ := x; exact Heap.lt_size e
  | frz ob u => obtain ⟨e, _⟩ := x; exact Heap.lt_size e
  | tbl ps => exact Heap.lt_size (show h.get? a = some _ from x)
  | met f y => exact Heap.lt_size (show h.get? a = some _ from x)
  | ext φ => obtain ⟨_, ⟨_, e⟩, _⟩ := x; exact Heap.lt_size e
theorem Paired.mapP {α β : Type} {F G : α → β → Prop} : ∀ {l₁ : List α} {l₂ : List β}, Paired F l₁ l₂ → (∀ a b, F a b → G a b) → Paired G l₁ l₂
  | _, _, .nil, _ => .nil
  | _, _, .cons r t, f => .cons (f _ _ r) (Paired.mapP t f)
/-- what an object's description leans on: its own object, its own dict, the tuples -/
theorem ObjOk.stay (x : ObjOk P w H h a o) (k : ∀ b u, (b = a ∨ H b = some (.own a)) → h.get? b = some u → h'.get? b = some u)
    (ho : ∀ b, H b = some (.own a) → H' b = some (.own a)) (ht : ∀ b xs, H b = some (.tup xs) → H' b = some (.tup xs)) : ObjOk P w H' h' a o := by
  induction o with
  | lst xs => obtain ⟨z, its, n, r, e⟩ := x; exact ⟨z, its, n, r, k _ _ (.inl rfl) e⟩
  | tup xs => obtain ⟨z, its, r, ob, e, c⟩ := x; exact ⟨z, its, r, ob, k _ _ (.inl rfl) e, c⟩
  | dK kvs => obtain ⟨z, y, vs, r, ob, es, ep, e, c⟩ := x; exact ⟨z, y, vs, r, ob, es, ep, k _ _ (.inl rfl) e, c⟩
  | dT kvs =>
    obtain ⟨z, y, xs, r, ob, es, ep, e, c⟩ := x
    exact ⟨z, y, xs, Paired.mapP r fun p q z => ⟨z.1, ht _ _ z.2.1, z.2.2⟩, ob, es, ep, k _ _ (.inl rfl) e, c⟩
  | set S n => obtain ⟨ob, es, ep, t, e, c⟩ := x; exact ⟨ob, es, ep, t, k _ _ (.inl rfl) e, c⟩
  | ins C dx fs =>
    obtain ⟨d, z, ne, e, mA, ⟨od, es, ep, e2, c⟩, r⟩ := x
    exact ⟨ho _ d, z, ne, k _ _ (.inl rfl) e, mA, ⟨od, es, ep, k _ _ (.inr d) e2, c⟩, r⟩
  | own y => obtain ⟨ob, e⟩ := x; exact ⟨ob, k _ _ (.inl rfl) e⟩
  | xd fs => obtain ⟨mA, ⟨od, es, ep, e, c⟩, r⟩ := x; exact ⟨mA, ⟨od, es, ep, k _ _ (.inl rfl) e, c⟩, r⟩
  | rng lo hi => obtain ⟨t, u, v, e⟩ := x; exact ⟨t, u, v, k _ _ (.inl rfl) e⟩
  | frz ob u ih => obtain ⟨e, q⟩ := x; exact ⟨k _ _ (.inl rfl) e, ih q⟩
  | tbl ps =>
    have e : h.get? a = some { cls := .none, data := .fields ps } := x
    show h'.get? a = some { cls := .none, data := .fields ps }
    exact k a _ (.inl rfl) e
  | met f y =>
    have e : h.get? a = some (PySem.W.methodObj (.ref f) (.ref y)) := x
    show h'.get? a = some (PySem.W.methodObj (.ref f) (.ref y))
    exact k a _ (.inl rfl) e
  | ext φ => obtain ⟨p, ⟨o, e⟩, st⟩ := x; exact ⟨st _ _ p fun o q => k _ _ (.inl rfl) q, ⟨o, k _ _ (.inl rfl) e⟩, st⟩
theorem HOk.lt (x : HOk P w H h) (e : H a = some o) : a < h.objs.size := (x a o e).lt
theorem HOk.fresh (x : HOk P w H h) (e : h.objs.size ≤ a) : H a = none := by
  cases q : H a with
  | none => rfl
  | some u => exact absurd (Nat.lt_of_lt_of_le (x.lt q) e) (Nat.lt_irrefl _)
/-- every object of the heap is kept -/
theorem HOk.kept (x : HOk P w H h) (k : ∀ b u, h.get? b = some u → h'.get? b = some u) : HOk P w H h' := fun a o e =>
  (x a o e).stay (fun b u _ q => k b u q) (fun _ q => q) fun _ _ q => q
/-- a new object is laid and tracked -/
theorem HOk.laid (x : HOk P w H h) (k : ∀ b u, h.get? b = some u → h'.get? b = some u) (hp : h.objs.size ≤ a) (new : ObjOk P w (upd H a o) h' a o) : HOk P w (upd H a o) h' := fun b u e => by
  have hn := x.fresh hp
  by_cases hb : b = a
  · subst hb; rw [upd_same] at e; cases e; exact new
  · rw [upd_ne hb] at e
    exact (x b u e).stay (fun c v _ q => k c v q) (fun c q => by rw [upd_ne (ne_of_none q hn)]; exact q) fun c xs q => by rw [upd_ne (ne_of_none q hn)]; exact q
end

/-- what may be read as u: it is u, or a known u -/
def Rd (H : Hp) (a : Addr) (u : HO) : Prop := H a = some u ∨ ∃ o, H a = some (.frz o u)
theorem Rd.ok {P : Program} {w : World} {H : Hp} {h : Heap} {a : Addr} {u : HO} (r : Rd H a u) (x : HOk P w H h) : ObjOk P w H h a u := by
  rcases r with r | ⟨o, r⟩
  · exact x a u r
  · obtain ⟨_, q⟩ := x a _ r
    exact q
/-- what may be written -/
def Mut : Option HO → Prop
  | some (.lst _) => True
  | some (.dK _) => True
  | some (.dT _) => True
  | some (.set _ _) => True
  | some (.ins _ _ _) => True
  | some (.ext _) => True
  | _ => False
section
variable {P : Program} {w : World} {H : Hp} {h h' : Heap} {x e : Addr} {o' : HO}
/-- the object at e is changed: x itself, or the dict of the instance x -/
theorem HOk.write (ok : HOk P w H h) (mu : Mut (H x)) (he : e = x ∨ H e = some (.own x)) (k : ∀ b u, b ≠ e → h.get? b = some u → h'.get? b = some u) (heo : ∃ u, h'.get? e = some u)
    (new : ObjOk P w (upd H x o') h' x o') : HOk P w (upd H x o') h' := fun b u q => by
  have nown : ∀ c y, H c = some (.own y) → c ≠ x := fun c y r z => by subst z; rw [r] at mu; exact mu
  have ntup : ∀ c xs, H c = some (.tup xs) → c ≠ x := fun c xs r z => by subst z; rw [r] at mu; exact mu
  by_cases hb : b = x
  · subst hb; rw [upd_same] at q; cases q; exact new
  · rw [upd_ne hb] at q
    by_cases hbe : b = e
    · have q' : H b = some (.own x) := by
        rcases he with z | z
        · exact absurd (hbe.trans z) hb
        · rw [hbe]; exact z
      rw [q] at q'; cases q'
      obtain ⟨v, hv⟩ := heo
      exact ⟨v, by rw [hbe]; exact hv⟩
    · refine (ok b u q).stay (fun c v hc r => k c v ?_ r) (fun c r => by rw [upd_ne (nown c b r)]; exact r) fun c xs r => by rw [upd_ne (ntup c xs r)]; exact r
      rcases hc with rfl | hc
      · exact hbe
      · rintro rfl
        rcases he with z | z
        · exact nown c b hc z
        · rw [hc] at z; cases z; exact hb rfl
end

/-! ### kept unless tracked; of the frames at fs (the callers') the slots may change (an exception that passes writes there); of the records at ex (iterators) nothing is said -/
structure Un (fs ex : List Addr) (H H' : Hp) (h h' : Heap) : Prop where
  keep : ∀ b o, h.get? b = some o → H b = none → b ∉ fs → b ∉ ex → h'.get? b = some o
  slot : ∀ b o, h.get? b = some o → H b = none → b ∈ fs → b ∉ ex → ∃ sl, h'.get? b = some { o with slots := sl }
  free : ∀ b o, h.get? b = some o → H b = none → b ∉ ex → H' b = none
  there : ∀ b o, h.get? b = some o → b ∉ ex → ∃ o', h'.get? b = some o'
  tups : ∀ b xs, H b = some (.tup xs) → H' b = some (.tup xs)
  frzs : ∀ b o u, H b = some (.frz o u) → H' b = some (.frz o u)
  tbls : ∀ b ps, H b = some (.tbl ps) → ∃ more, H' b = some (.tbl (ps ++ more))
section
variable {fs fs' ex ex' : List Addr} {H H1 H2 : Hp} {h h1 h2 h' : Heap} {a x e : Addr} {o : HO}
theorem Un.any (u : Un fs ex H H1 h h1) {b : Addr} {ob : Obj} (q : h.get? b = some ob) (n : H b = none) (hx : b ∉ ex) : ∃ sl, h1.get? b = some { ob with slots := sl } := by
  by_cases hb : b ∈ fs
  · exact u.slot b ob q n hb hx
  · exact ⟨ob.slots, u.keep b ob q n hb hx⟩
theorem Un.trans (a : Un fs ex H H1 h h1) (b : Un fs ex H1 H2 h1 h2) : Un fs ex H H2 h h2 where
  keep := fun c ob q n hc hx => b.keep c ob (a.keep c ob q n hc hx) (a.free c ob q n hx) hc hx
  slot := fun c ob q n hc hx => by
    obtain ⟨sl, e1⟩ := a.slot c ob q n hc hx
    obtain ⟨sl', e2⟩ := b.slot c _ e1 (a.free c ob q n hx) hc hx
    exact ⟨sl', e2⟩
  free := fun c ob q n hx => by
    obtain ⟨o', e1⟩ := a.there c ob q hx
    exact b.free c o' e1 (a.free c ob q n hx) hx
  there := fun c ob q hx => by
    obtain ⟨o', e1⟩ := a.there c ob q hx
    exact b.there c o' e1 hx
  tups := fun c xs q => b.tups c xs (a.tups c xs q)
  frzs := fun c ob xs q => b.frzs c ob xs (a.frzs c ob xs q)
  tbls := fun c ps q => by
    obtain ⟨m1, e1⟩ := a.tbls c ps q
    obtain ⟨m2, e2⟩ := b.tbls c _ e1
    exact ⟨m1 ++ m2, by rw [e2, Array.append_assoc]⟩
theorem Un.kept (k : ∀ b u, h.get? b = some u → h'.get? b = some u) : Un fs ex H H h h' :=
  ⟨fun b ob q _ _ _ => k b ob q, fun b ob q _ _ _ => ⟨ob.slots, k b ob q⟩, fun _ _ _ n _ => n, fun b ob q _ => ⟨ob, k b ob q⟩, fun _ _ q => q, fun _ _ _ q => q, fun _ ps q => ⟨#[], by rw [q]; simp⟩⟩
theorem Un.refl : Un fs ex H H h h := Un.kept fun _ _ q => q
theorem Un.laid (k : ∀ b u, h.get? b = some u → h'.get? b = some u) (hp : h.objs.size ≤ a) (hn : H a = none) : Un fs ex H (upd H a o) h h' where
  keep := fun b u q _ _ _ => k b u q
  slot := fun b u q _ _ _ => ⟨u.slots, k b u q⟩
  free := fun b u q n _ => by rw [upd_ne (Nat.ne_of_lt (Nat.lt_of_lt_of_le (Heap.lt_size q) hp))]; exact n
  there := fun b u q _ => ⟨u, k b u q⟩
  tups := fun b xs q => by rw [upd_ne (ne_of_none q hn)]; exact q
  frzs := fun b u xs q => by rw [upd_ne (ne_of_none q hn)]; exact q
  tbls := fun b ps q => ⟨#[], by rw [upd_ne (ne_of_none q hn), q]; simp⟩
theorem Un.write (mu : Mut (H x)) (he : e = x ∨ H e = some (.own x)) (k : ∀ b u, b ≠ e → h.get? b = some u → h'.get? b = some u) (heo : ∃ u, h'.get? e = some u) : Un fs ex H (upd H x o) h h' := by
  have hx : ∀ b, H b = none → b ≠ x := fun b n z => by subst z; rw [n] at mu; exact mu
  have hb : ∀ b, H b = none → b ≠ e := fun b n z => by
    subst z
    rcases he with r | r
    · exact hx b n r
    · rw [n] at r; cases r
  have hm : ∀ b u, H b = some u → ¬ Mut (some u) → b ≠ x := fun b u q nm z => by subst z; rw [q] at mu; exact nm mu
  refine ⟨fun b u q n _ _ => k b u (hb b n) q, fun b u q n _ _ => ⟨u.slots, k b u (hb b n) q⟩, fun b u q n _ => by rw [upd_ne (hx b n)]; exact n, fun b u q _ => ?_,
    fun b xs q => by rw [upd_ne (hm b _ q fun z => z)]; exact q, fun b u xs q => by rw [upd_ne (hm b _ q fun z => z)]; exact q, fun b ps q => ⟨#[], by rw [upd_ne (hm b _ q fun z => z), q]; simp⟩⟩
  by_cases hbe : b = e
  · subst hbe; exact heo
  · exact ⟨u, k b u hbe q⟩
end

/-! ### the heap without what is tracked -/
def trk (h : Heap) (H : Hp) : List Addr := (List.range h.objs.size).filter fun a => (H a).isSome
def hidT (h : Heap) (H : Hp) : Heap := PySem.W.hideAll h (trk h H)
theorem hidT_size (h : Heap) (H : Hp) : (hidT h H).objs.size = h.objs.size := PySem.W.hideAll_size _ _
theorem hidT_get {h : Heap} {H : Hp} {b : Addr} {o : Obj} (e : h.get? b = some o) (n : H b = none) : (hidT h H).get? b = some o :=
  PySem.W.hideAll_get _ e fun hm => by
    have q : (H b).isSome = true := (List.mem_filter.mp hm).2
    rw [n] at q; simp at q
theorem of_hidT {h : Heap} {H : Hp} {b : Addr} {o : Obj} (e : (hidT h H).get? b = some o) : h.get? b = some o ∧ H b = none := by
  have e' : h.get? b = some o := PySem.W.of_hideAll (trk h H) e
  refine ⟨e', ?_⟩
  cases q : H b with
  | none => rfl
  | some x =>
    have hm : b ∈ trk h H := List.mem_filter.mpr ⟨List.mem_range.mpr (Heap.lt_size e'), by simp [q]⟩
    have z : (hidT h H).get? b = none := PySem.W.hideAll_none (trk h H) hm
    rw [z] at e; cases e

/-! ### OpenK's ledger, filled with every new object but one -/
def allNews (g h : Heap) (L : Addr) : List (Addr × Obj) := (List.range h.objs.size).filterMap fun a => if a = L ∨ (g.get? a).isSome = true then none else (h.get? a).map fun o => (a, o)
def rest (g h : Heap) (L d : Addr) : List (Addr × Obj) := (allNews g h L).filter fun p => decide (p.1 ≠ d)
end L2

namespace L2
open PySem PySem.Spec PyProof.Rows

/-- the module's facts, over the base: the heap at the law's entry without what is tracked there -/
structure Mod (K : PySem.W.Frag) (mg : Str → Option Value) (base : Heap) : Prop where
  kin : K.In base
  glob : base.Ns mainGlobals mg
  blt : ∃ mb, base.Ns builtinsNs mb ∧ ∀ x : Str, x ≠ "__name__" → mb x = bootBuiltins x
  nolimit : base.NoLimit

/-- the context: a def's body (or a comprehension's block) running. base: fixed through the whole law; s₀, H₀: the entry; outer: the frames whose slots others may change (a def's callers); stack: all frames that run;
   ex: iterators that were made ahead of the entry and are walked here (a comprehension's); fn: the names whose cells were made at the entry (a def: all; a comprehension's block: its own); calm: not within an except suite; pn: pins that every state bears; xe: what is wanted of an exception that leaves the code -/
structure Cx where
  prog : Program
  w : World
  K : PySem.W.Frag
  mg : Str → Option Value
  base : Heap
  A : Around
  N : List Str
  s₀ : Shared
  H₀ : Hp
  env : Env
  outer : List Env
  stack : List Env
  ex : List Addr
  fn : Str → Bool
  calm : Bool
  pn : List (Addr × Obj)
  xe : Value → Shared → Prop
/-- the callers' frames -/
def frs (l : List Env) : List Addr := l.filterMap (·.frame)
abbrev Cx.fs (X : Cx) : List Addr := frs X.outer

def Vis (sc : Scope) (x : Str) : Prop := sc.names.lookup x = some .local ∨ sc.names.lookup x = some .cell ∨ sc.names.lookup x = some .free
def Loc (sc : Scope) (x : Str) : Prop := sc.names.lookup x = some .local ∨ sc.names.lookup x = some .cell
def Look (env : Env) (h : Heap) (m : Str → Option Value) (x : Str) (u : Value) : Prop :=
  (env.kindOf x = some .local ∧ m x = some u) ∨ ((env.kindOf x = some .cell ∨ env.kindOf x = some .free) ∧ ∃ c, env.cells.lookup x = some c ∧ h.IsCell c (some u))

structure Cx.Ok (X : Cx) : Prop where
  mod : Mod X.K X.mg X.base
  kind : X.env.scope.kind = .function
  glob : X.env.globals = mainGlobals
  blt : X.env.builtins = builtinsNs
  above : X.s₀.heap.objs.size ≤ X.env.locals
  inj : ∀ x y c, X.env.cells.lookup x = some c → X.env.cells.lookup y = some c → x = y
  has : ∀ x, (X.env.kindOf x = some .cell ∨ X.env.kindOf x = some .free) → ∃ c, X.env.cells.lookup x = some c
  cab : ∀ x c, X.fn x = true → X.env.cells.lookup x = some c → X.s₀.heap.objs.size ≤ c
  hd : X.calm = true → X.A.handled = none
  frames : X.A.frames = some X.stack
  stk : X.stack = X.outer ∨ (X.stack = X.env :: X.outer ∧ X.env.frame = some X.env.locals)
  exf : ∀ b ∈ X.ex, b ≠ X.env.locals ∧ ∀ x c, X.env.cells.lookup x = some c → c ≠ b
  bs : ∀ b o, X.base.get? b = some o → X.s₀.heap.get? b = some o ∧ X.H₀ b = none
  bsz : X.base.objs.size ≤ X.s₀.heap.objs.size
  noex : ∀ b o, X.base.get? b = some o → b ∉ X.ex
  exfs : ∀ b ∈ X.ex, b ∉ X.fs
  funs : X.s₀.heap.FunFrames X.base X.outer
  frf : ∀ b ∈ X.fs, X.H₀ b = none

structure Inv (X : Cx) (pins : List (Addr × Obj)) (σ : List (Option V)) (H : Hp) (s : Shared) : Prop where
  ok : X.Ok
  os : s.os = X.s₀.os
  bare : AllBare s.gens
  base : Un X.fs X.ex X.H₀ H X.s₀.heap s.heap
  loc : ∃ m, s.heap.Ns X.env.locals m ∧ ∀ (i : Nat) (x : Str) (v : V), X.N[i]? = some x → σ[i]? = some (some v) → Vis X.env.scope x → ∃ u, RelV v u ∧ Look X.env s.heap m x u
  cell : ∀ x c, X.env.cells.lookup x = some c → ∃ v, s.heap.IsCell c v
  free : H X.env.locals = none
  freeC : ∀ x c, X.env.cells.lookup x = some c → H c = none
  pin : ∀ p ∈ X.pn ++ pins, s.heap.get? p.1 = some p.2 ∧ H p.1 = none ∧ p.1 ≠ X.env.locals ∧ p.1 ∉ X.fs ∧ ∀ v, p.2.data ≠ .cell v
  hok : HOk X.prog X.w H s.heap
  len : σ.length = X.N.length

section
variable {X : Cx} {pins : List (Addr × Obj)} {σ : List (Option V)} {H H' : Hp} {s : Shared} {h' : Heap}

theorem Cx.Ok.nofr (ok : X.Ok) {b : Addr} {o : Obj} (e : X.base.get? b = some o) : b ∉ X.fs := fun hb => by
  have := (ok.funs.mem hb).1
  rw [e] at this; cases this
theorem Inv.bs (I : Inv X pins σ H s) : ∀ b o, X.base.get? b = some o → s.heap.get? b = some o ∧ H b = none := fun b o e =>
  ⟨I.base.keep b o (I.ok.bs b o e).1 (I.ok.bs b o e).2 (I.ok.nofr e) (I.ok.noex b o e), I.base.free b o (I.ok.bs b o e).1 (I.ok.bs b o e).2 (I.ok.noex b o e)⟩
theorem Inv.bk (I : Inv X pins σ H s) : ∀ b o, X.base.get? b = some o → s.heap.get? b = some o := fun b o e => (I.bs b o e).1
theorem Inv.mod (I : Inv X pins σ H s) : Mod X.K X.mg X.base := I.ok.mod
theorem Inv.kIn (I : Inv X pins σ H s) : X.K.In s.heap := I.ok.mod.kin.keeps I.bk
theorem Inv.lt (I : Inv X pins σ H s) : X.env.locals < s.heap.objs.size := let ⟨_, hn, _⟩ := I.loc; hn.lt
theorem Inv.sz (I : Inv X pins σ H s) : X.s₀.heap.objs.size ≤ s.heap.objs.size := Nat.le_trans I.ok.above (Nat.le_of_lt I.lt)
theorem Inv.nofs (I : Inv X pins σ H s) {a : Addr} (h : s.heap.objs.size ≤ a) : a ∉ X.fs := fun hb => by
  obtain ⟨_, o, ho, _⟩ := I.ok.funs.mem hb
  exact absurd (Nat.lt_of_lt_of_le (Heap.lt_size ho) (Nat.le_trans I.sz h)) (Nat.lt_irrefl _)
theorem Inv.cne (I : Inv X pins σ H s) : ∀ x c, X.env.cells.lookup x = some c → c ≠ X.env.locals := fun x c e z => by
  obtain ⟨v, o, ho, hd⟩ := I.cell x c e
  obtain ⟨m, ⟨o', es, ep, ho', hd', _⟩, _⟩ := I.loc
  rw [z, ho'] at ho; cases ho; rw [hd'] at hd; cases hd
theorem Inv.funs (I : Inv X pins σ H s) : s.heap.FunFrames X.base X.outer := by
  have all : ∀ (l : List Env), (∀ b ∈ frs l, b ∈ X.fs) → X.s₀.heap.FunFrames X.base l → s.heap.FunFrames X.base l := by
    intro l
    induction l with
    | nil => intro _ _; trivial
    | cons env r ih =>
      intro hs hl
      obtain ⟨hk, ⟨L, o, hf, hn, ho, hd⟩, hr⟩ := hl
      have hL : L ∈ X.fs := hs L (by unfold frs; rw [List.filterMap_cons, hf]; exact List.mem_cons_self)
      obtain ⟨sl, e⟩ := I.base.slot L o ho (I.ok.frf L hL) hL fun z => I.ok.exfs L z hL
      exact ⟨hk, ⟨L, _, hf, hn, e, hd⟩, ih (fun b hb => hs b (by unfold frs; rw [List.filterMap_cons, hf]; exact List.mem_cons_of_mem _ hb)) hr⟩
  exact all X.outer (fun _ hb => hb) I.ok.funs

/-- the frames that run, for a call -/
theorem Inv.stack (I : Inv X pins σ H s) : s.heap.FunFrames X.base X.stack := by
  rcases I.ok.stk with e | ⟨e, hf⟩
  · rw [e]; exact I.funs
  · rw [e]
    obtain ⟨m, hn, _⟩ := I.loc
    refine .cons (by rw [I.ok.kind]; decide) hf hn ?_ I.funs
    exact Heap.get?_none_of_le (Nat.le_trans I.ok.bsz I.ok.above)
theorem Inv.stkSub (I : Inv X pins σ H s) : ∀ b ∈ frs X.stack, b ∈ X.env.locals :: X.fs := fun b hb => by
  rcases I.ok.stk with e | ⟨e, hf⟩
  · rw [e] at hb; exact List.mem_cons_of_mem _ hb
  · rw [e] at hb
    unfold frs at hb
    rw [List.filterMap_cons, hf] at hb
    exact hb
theorem Inv.stkFree (I : Inv X pins σ H s) : ∀ b ∈ frs X.stack, H b = none := fun b hb => by
  rcases List.mem_cons.mp (I.stkSub b hb) with e | hb
  · rw [e]; exact I.free
  · obtain ⟨_, o, ho, _⟩ := I.ok.funs.mem hb
    exact I.base.free b o ho (I.ok.frf b hb) fun z => I.ok.exfs b z hb

/-- THE STEP: the untracked objects but the frame and the records at ch are kept (the callers' frames up to slots), the frame's map is kept, the new abstract heap is held -/
theorem Inv.step {g' : Array GenState} {t' : Nat} {d' : Drawn} {ch : List Addr} (I : Inv X pins σ H s)
    (hch : ∀ b ∈ ch, (b ∈ X.ex ∨ X.s₀.heap.objs.size ≤ b) ∧ b ≠ X.env.locals ∧ (∀ x c, X.env.cells.lookup x = some c → c ≠ b) ∧ ∀ p ∈ X.pn ++ pins, p.1 ≠ b)
    (keep : ∀ b o, b ≠ X.env.locals → b ∉ X.fs → b ∉ ch → s.heap.get? b = some o → H b = none → h'.get? b = some o)
    (slot : ∀ b o, b ≠ X.env.locals → b ∈ X.fs → b ∉ ch → s.heap.get? b = some o → H b = none → ∃ sl, h'.get? b = some { o with slots := sl }) (free : ∀ b o, b ∉ ch → s.heap.get? b = some o → H b = none → H' b = none)
    (there : ∀ b o, b ∉ ch → s.heap.get? b = some o → ∃ o', h'.get? b = some o')
    (tups : ∀ b xs, H b = some (.tup xs) → H' b = some (.tup xs)) (frzs : ∀ b o u, H b = some (.frz o u) → H' b = some (.frz o u)) (tbls : ∀ b ps, H b = some (.tbl ps) → ∃ more, H' b = some (.tbl (ps ++ more)))
    (ns : ∀ m, s.heap.Ns X.env.locals m → h'.Ns X.env.locals m) (hok : HOk X.prog X.w H' h') (hg : AllBare g') :
    Inv X pins σ H' { s with heap := h', gens := g', drawn := d', toks := t' } := by
  have neL : ∀ b o, X.s₀.heap.get? b = some o → b ≠ X.env.locals := fun b o e => Nat.ne_of_lt (Nat.lt_of_lt_of_le (Heap.lt_size e) I.ok.above)
  have neC : ∀ b o, X.s₀.heap.get? b = some o → b ∉ X.ex → b ∉ ch := fun b o e hx hb => by
    rcases (hch b hb).1 with z | z
    · exact hx z
    · exact absurd (Nat.lt_of_lt_of_le (Heap.lt_size e) z) (Nat.lt_irrefl _)
  have cellK : ∀ x c, X.env.cells.lookup x = some c → ∀ v, s.heap.IsCell c v → h'.IsCell c v := fun x c e v ⟨o, ho, hd⟩ => by
    have nch : c ∉ ch := fun z => (hch c z).2.2.1 x c e rfl
    by_cases hc : c ∈ X.fs
    · obtain ⟨sl, q⟩ := slot c o (I.cne x c e) hc nch ho (I.freeC x c e)
      exact ⟨_, q, hd⟩
    · exact ⟨o, keep c o (I.cne x c e) hc nch ho (I.freeC x c e), hd⟩
  refine ⟨I.ok, I.os, hg, ⟨fun b o e n hb hx => ?_, fun b o e n hb hx => ?_, fun b o e n hx => ?_, fun b o e hx => ?_, fun b xs e => tups b xs (I.base.tups b xs e), fun b o xs e => frzs b o xs (I.base.frzs b o xs e), fun b ps e => ?_⟩, ?_, fun x c e => ?_, ?_, fun x c e => ?_, fun p hp => ?_, hok, I.len⟩
  · exact keep b o (neL b o e) hb (neC b o e hx) (I.base.keep b o e n hb hx) (I.base.free b o e n hx)
  · obtain ⟨sl, e1⟩ := I.base.slot b o e n hb hx
    obtain ⟨sl', e2⟩ := slot b _ (neL b o e) hb (neC b o e hx) e1 (I.base.free b o e n hx)
    exact ⟨sl', e2⟩
  · obtain ⟨o', e1⟩ := I.base.there b o e hx
    exact free b o' (neC b o e hx) e1 (I.base.free b o e n hx)
  · obtain ⟨o', e1⟩ := I.base.there b o e hx
    exact there b o' (neC b o e hx) e1
  · obtain ⟨m1, e1⟩ := I.base.tbls b ps e
    obtain ⟨m2, e2⟩ := tbls b _ e1
    exact ⟨m1 ++ m2, by rw [e2, Array.append_assoc]⟩
  · obtain ⟨m, hn, hl⟩ := I.loc
    refine ⟨m, ns m hn, fun i x v e1 e2 e3 => ?_⟩
    obtain ⟨u, r, l⟩ := hl i x v e1 e2 e3
    refine ⟨u, r, ?_⟩
    rcases l with l | ⟨k, c, e, z⟩
    · exact .inl l
    · exact .inr ⟨k, c, e, cellK x c e _ z⟩
  · obtain ⟨v, z⟩ := I.cell x c e
    exact ⟨v, cellK x c e v z⟩
  · obtain ⟨m, ⟨o, _, _, ho, _⟩, _⟩ := I.loc
    exact free _ o (fun z => (hch _ z).2.1 rfl) ho I.free
  · obtain ⟨v, o, ho, hd⟩ := I.cell x c e
    exact free c o (fun z => (hch c z).2.2.1 x c e rfl) ho (I.freeC x c e)
  · obtain ⟨e, n, ne, nf, d⟩ := I.pin p hp
    have nch : p.1 ∉ ch := fun z => (hch p.1 z).2.2.2 p hp rfl
    exact ⟨keep p.1 p.2 ne nf nch e n, free p.1 p.2 nch e n, ne, nf, d⟩
/-- .. where the frame's own object is kept too -/
theorem Inv.un {t' : Nat} (I : Inv X pins σ H s) (u : Un X.fs [] H H' s.heap h') (hok : HOk X.prog X.w H' h') : Inv X pins σ H' { s with heap := h', toks := t' } := by
  obtain ⟨m, ⟨o, es, ep, ho, r⟩, _⟩ := id I.loc
  obtain ⟨sl, hL⟩ := u.any ho I.free (by simp)
  exact I.step (g' := s.gens) (d' := s.drawn) (ch := []) (fun _ z => nomatch z) (fun b o _ hb _ e n => u.keep b o e n hb (by simp)) (fun b o _ hb _ e n => u.slot b o e n hb (by simp)) (fun b o _ e n => u.free b o e n (by simp)) (fun b o _ e => u.there b o e (by simp)) u.tups u.frzs u.tbls (fun m' hm => by
    obtain ⟨o', es', ep', ho', r'⟩ := hm
    rw [ho] at ho'; cases ho'
    exact ⟨_, es', ep', hL, r'⟩) hok I.bare
/-- behind a call (or a comprehension's block): the slots of this frame may have changed too, the records at ch may have turned -/
theorem Inv.call {g' : Array GenState} {t' : Nat} {d' : Drawn} {ch : List Addr} (I : Inv X pins σ H s) (u : Un (frs X.stack) ch H H' s.heap h') (hok : HOk X.prog X.w H' h') (hg : AllBare g')
    (hch : ∀ b ∈ ch, (b ∈ X.ex ∨ X.s₀.heap.objs.size ≤ b) ∧ b ≠ X.env.locals ∧ (∀ x c, X.env.cells.lookup x = some c → c ≠ b) ∧ ∀ p ∈ X.pn ++ pins, p.1 ≠ b) :
    Inv X pins σ H' { s with heap := h', gens := g', drawn := d', toks := t' } := by
  obtain ⟨m, ⟨o, es, ep, ho, r⟩, _⟩ := id I.loc
  obtain ⟨sl, hL⟩ := u.any ho I.free fun z => (hch _ z).2.1 rfl
  exact I.step (ch := ch) hch (fun b o hL hb hc e n => u.keep b o e n (fun z => (List.mem_cons.mp (I.stkSub b z)).elim hL hb) hc) (fun b o _ _ hc e n => u.any e n hc) (fun b o hc e n => u.free b o e n hc) (fun b o hc e => u.there b o e hc) u.tups u.frzs u.tbls (fun m' hm => by
    obtain ⟨o', es', ep', ho', r'⟩ := hm
    rw [ho] at ho'; cases ho'
    exact ⟨_, es', ep', hL, r'⟩) hok hg
/-- an untracked record of ours (an iterator) has turned -/
theorem Inv.turned {t' : Nat} {it : Addr} (I : Inv X pins σ H s) (k : ∀ b o, b ≠ it → s.heap.get? b = some o → h'.get? b = some o) (hn : H it = none) (hL : it ≠ X.env.locals)
    (h1 : it ∈ X.ex ∨ X.s₀.heap.objs.size ≤ it) (h2 : ∀ x c, X.env.cells.lookup x = some c → c ≠ it) (h3 : ∀ p ∈ X.pn ++ pins, p.1 ≠ it) : Inv X pins σ H { s with heap := h', toks := t' } := by
  have nit : ∀ b u, H b = some u → b ≠ it := fun b u e z => by rw [z, hn] at e; cases e
  refine I.step (g' := s.gens) (d' := s.drawn) (ch := [it]) (fun b hb => ?_) (fun b o _ _ hc e _ => k b o (fun z => hc (by simp [z])) e) (fun b o _ _ hc e _ => ⟨o.slots, k b o (fun z => hc (by simp [z])) e⟩) (fun _ _ _ _ n => n)
    (fun b o hc e => ⟨o, k b o (fun z => hc (by simp [z])) e⟩) (fun _ _ e => e) (fun _ _ _ e => e) (fun b ps e => ⟨#[], by rw [e]; simp⟩) (fun m hm => ?_) (fun b u e => ?_) I.bare
  · have e : b = it := by simpa using hb
    subst e
    exact ⟨h1, hL, h2, h3⟩
  · obtain ⟨o, es, ep, ho, r⟩ := hm
    exact ⟨o, es, ep, k _ o (Ne.symm hL) ho, r⟩
  · refine (I.hok b u e).stay (fun c v hc q => k c v ?_ q) (fun _ q => q) fun _ _ q => q
    rcases hc with z | z
    · rw [z]; exact nit b u e
    · exact nit c _ z
theorem Inv.tok (I : Inv X pins σ H s) (t : Nat) : Inv X pins σ H { s with toks := t } := I.un (h' := s.heap) (t' := t) Un.refl I.hok
/-- all objects kept -/
theorem Inv.kept {t' : Nat} (I : Inv X pins σ H s) (k : ∀ b u, s.heap.get? b = some u → h'.get? b = some u) : Inv X pins σ H { s with heap := h', toks := t' } := I.un (Un.kept k) (I.hok.kept k)
/-- a new object laid and tracked -/
theorem Inv.laid {a : Addr} {o : HO} {t' : Nat} (I : Inv X pins σ H s) (k : ∀ b u, s.heap.get? b = some u → h'.get? b = some u) (hp : s.heap.objs.size ≤ a) (new : ObjOk X.prog X.w (upd H a o) h' a o) :
    Inv X pins σ (upd H a o) { s with heap := h', toks := t' } := I.un (Un.laid k hp (I.hok.fresh hp)) (I.hok.laid k hp new)
/-- an object written -/
theorem Inv.write {x e : Addr} {o : HO} {t' : Nat} (I : Inv X pins σ H s) (mu : Mut (H x)) (he : e = x ∨ H e = some (.own x)) (k : ∀ b u, b ≠ e → s.heap.get? b = some u → h'.get? b = some u) (heo : ∃ u, h'.get? e = some u)
    (new : ObjOk X.prog X.w (upd H x o) h' x o) : Inv X pins σ (upd H x o) { s with heap := h', toks := t' } := I.un (Un.write mu he k heo) (I.hok.write mu he k heo new)
theorem Inv.pins_of {pins' : List (Addr × Obj)} (I : Inv X pins σ H s) (h : ∀ p ∈ pins', s.heap.get? p.1 = some p.2 ∧ H p.1 = none ∧ p.1 ≠ X.env.locals ∧ p.1 ∉ X.fs ∧ ∀ v, p.2.data ≠ .cell v) : Inv X pins' σ H s :=
  ⟨I.ok, I.os, I.bare, I.base, I.loc, I.cell, I.free, I.freeC, fun p hp => (List.mem_append.mp hp).elim (fun z => I.pin p (List.mem_append_left _ z)) (h p), I.hok, I.len⟩

theorem nodup_ix {N : List Str} (hN : N.Nodup) {i j : Nat} {x : Str} (a : N[i]? = some x) (b : N[j]? = some x) : i = j := by
  obtain ⟨h1, e1⟩ := List.getElem?_eq_some_iff.mp a
  obtain ⟨h2, e2⟩ := List.getElem?_eq_some_iff.mp b
  exact (List.getElem_inj hN).mp (e1.trans e2.symm)

/-- a name is stored; what changed -/
theorem store_ok2 {M : Model} {A : Around} {E : Value → Shared → Prop} {i : Nat} {x : Str} {v : V} {u : Value} {Q : Unit → Shared → Prop} (I : Inv X pins σ H s) (hN : X.N.Nodup) (hi : X.N[i]? = some x) (hx : Loc X.env.scope x) (r : RelV v u)
    (h : ∀ s', Inv X pins (σ.set i (some v)) H s' → (∃ a, Heap.SameBut a s.heap s'.heap ∧ (a = X.env.locals ∨ X.env.cells.lookup x = some a)) → Q () s') (hf : X.fn x = true ∨ X.env.scope.names.lookup x = some .local := by first | exact .inl rfl | exact .inr rfl | assumption) : wpAny M A (storeName X.env x u) Q E s := by
  obtain ⟨m, hn, hl⟩ := id I.loc
  have hcls : (X.env.scope.kind == .class || (X.env.scope.kind == .module && X.env.locals != X.env.globals)) = false := by rw [I.ok.kind]; rfl
  have hiσ : i < σ.length := by rw [I.len]; exact (List.getElem?_eq_some_iff.mp hi).1
  have cne := I.cne
  have tracked : ∀ {a : Addr} {h' : Heap}, (∃ o, s.heap.get? a = some o ∧ H a = none) → Heap.SameBut a s.heap h' → HOk X.prog X.w H h' := fun {a h'} ha hs b ob e => by
    obtain ⟨_, _, hfree⟩ := ha
    refine (I.hok b ob e).stay (fun c w' hc q => (hs.2 c ?_).trans q) (fun _ q => q) fun _ _ q => q
    rintro rfl
    rcases hc with rfl | hc
    · rw [hfree] at e; cases e
    · rw [hfree] at hc; cases hc
  rcases hx with hk | hk
  · refine wpAny_storeName_local hk hn (fun h' hn' hs => ?_) hcls
    obtain ⟨oL, _, _, hoL, _⟩ := id hn
    refine h _ ⟨I.ok, I.os, I.bare, ⟨fun b o e n hb hx => ?_, fun b o e n hb hx => ?_, I.base.free, fun b o e hx => ?_, I.base.tups, I.base.frzs, I.base.tbls⟩, ⟨_, hn', fun j y v' e1 e2 e3 => ?_⟩, fun y c e => ?_, I.free, I.freeC, fun p hp => ?_, tracked ⟨oL, hoL, I.free⟩ hs, by simpa using I.len⟩ ⟨_, hs, .inl rfl⟩
    · exact (hs.2 b (Nat.ne_of_lt (Nat.lt_of_lt_of_le (Heap.lt_size e) I.ok.above))).trans (I.base.keep b o e n hb hx)
    · obtain ⟨sl, e1⟩ := I.base.slot b o e n hb hx
      exact ⟨sl, (hs.2 b (Nat.ne_of_lt (Nat.lt_of_lt_of_le (Heap.lt_size e) I.ok.above))).trans e1⟩
    · obtain ⟨o', e1⟩ := I.base.there b o e hx
      exact ⟨o', (hs.2 b (Nat.ne_of_lt (Nat.lt_of_lt_of_le (Heap.lt_size e) I.ok.above))).trans e1⟩
    · by_cases hj : j = i
      · subst hj
        rw [hi] at e1; cases e1
        rw [List.getElem?_set_self hiσ] at e2
        cases e2
        exact ⟨u, r, .inl ⟨hk, by simp⟩⟩
      · rw [List.getElem?_set_ne (Ne.symm hj)] at e2
        obtain ⟨u', r', q⟩ := hl j y v' e1 e2 e3
        refine ⟨u', r', ?_⟩
        rcases q with ⟨k, e⟩ | ⟨k, c, e, z⟩
        · refine .inl ⟨k, ?_⟩
          have : y ≠ x := fun e => hj (nodup_ix hN e1 (e ▸ hi))
          simp [this, e]
        · exact .inr ⟨k, c, e, z.sameBut hs (cne y c e)⟩
    · obtain ⟨w', z⟩ := I.cell y c e
      exact ⟨w', z.sameBut hs (cne y c e)⟩
    · obtain ⟨e, n, ne, nf, d⟩ := I.pin p hp
      exact ⟨(hs.2 p.1 ne).trans e, n, ne, nf, d⟩
  · have hfn : X.fn x = true := by
      rcases hf with z | z
      · exact z
      · rw [z] at hk; cases hk
    obtain ⟨c, hc⟩ := I.ok.has x (.inl hk)
    obtain ⟨w', z⟩ := I.cell x c hc
    refine wpAny_storeName_cell I.ok.kind hk hc z (fun h' hc' hs => ?_)
    obtain ⟨oc, hoc, hocd⟩ := id z
    refine h { s with heap := h' } ⟨I.ok, I.os, I.bare, ⟨fun b o e n hb hx => ?_, fun b o e n hb hx => ?_, I.base.free, fun b o e hx => ?_, I.base.tups, I.base.frzs, I.base.tbls⟩, ⟨m, hn.sameBut hs (Ne.symm (cne x c hc)), fun j y v' e1 e2 e3 => ?_⟩, fun y c' e => ?_, I.free, I.freeC, fun p hp => ?_, tracked ⟨oc, hoc, I.freeC x c hc⟩ hs, by simpa using I.len⟩ ⟨c, hs, .inr hc⟩
    · exact (hs.2 b (Nat.ne_of_lt (Nat.lt_of_lt_of_le (Heap.lt_size e) (I.ok.cab x c hfn hc)))).trans (I.base.keep b o e n hb hx)
    · obtain ⟨sl, e1⟩ := I.base.slot b o e n hb hx
      exact ⟨sl, (hs.2 b (Nat.ne_of_lt (Nat.lt_of_lt_of_le (Heap.lt_size e) (I.ok.cab x c hfn hc)))).trans e1⟩
    · obtain ⟨o', e1⟩ := I.base.there b o e hx
      exact ⟨o', (hs.2 b (Nat.ne_of_lt (Nat.lt_of_lt_of_le (Heap.lt_size e) (I.ok.cab x c hfn hc)))).trans e1⟩
    · by_cases hj : j = i
      · subst hj
        rw [hi] at e1; cases e1
        rw [List.getElem?_set_self hiσ] at e2
        cases e2
        exact ⟨u, r, .inr ⟨.inl hk, c, hc, hc'⟩⟩
      · rw [List.getElem?_set_ne (Ne.symm hj)] at e2
        obtain ⟨u', r', q⟩ := hl j y v' e1 e2 e3
        refine ⟨u', r', ?_⟩
        rcases q with q | ⟨k, c', e, z'⟩
        · exact .inl q
        · refine .inr ⟨k, c', e, z'.sameBut hs ?_⟩
          rintro rfl
          exact hj (nodup_ix hN e1 (I.ok.inj _ _ _ e hc ▸ hi))
    · by_cases hcc : c' = c
      · subst hcc; exact ⟨_, hc'⟩
      · obtain ⟨w2, z2⟩ := I.cell y c' e
        exact ⟨w2, z2.sameBut hs hcc⟩
    · obtain ⟨e, n, ne, nf, d⟩ := I.pin p hp
      refine ⟨(hs.2 p.1 ?_).trans e, n, ne, nf, d⟩
      intro q
      rw [q, hoc] at e
      have q' : oc = p.2 := Option.some.inj e
      exact d w' (by rw [← q']; exact hocd)
theorem store_ok {M : Model} {A : Around} {E : Value → Shared → Prop} {i : Nat} {x : Str} {v : V} {u : Value} {Q : Unit → Shared → Prop} (I : Inv X pins σ H s) (hN : X.N.Nodup) (hi : X.N[i]? = some x) (hx : Loc X.env.scope x) (r : RelV v u)
    (h : ∀ s', Inv X pins (σ.set i (some v)) H s' → Q () s') (hf : X.fn x = true ∨ X.env.scope.names.lookup x = some .local := by first | exact .inl rfl | exact .inr rfl | assumption) : wpAny M A (storeName X.env x u) Q E s :=
  store_ok2 I hN hi hx r (fun s' I' _ => h s' I') hf
/-- behind a call or a block, the state as it is -/
theorem Inv.call' {s' : Shared} {ch : List Addr} (I : Inv X pins σ H s) (ho : s'.os = s.os) (u : Un (frs X.stack) ch H H' s.heap s'.heap) (hok : HOk X.prog X.w H' s'.heap) (hg : AllBare s'.gens)
    (hch : ∀ b ∈ ch, (b ∈ X.ex ∨ X.s₀.heap.objs.size ≤ b) ∧ b ≠ X.env.locals ∧ (∀ x c, X.env.cells.lookup x = some c → c ≠ b) ∧ ∀ p ∈ X.pn ++ pins, p.1 ≠ b) : Inv X pins σ H' s' := by
  obtain ⟨h', g', d', t', o'⟩ := s'
  have e : o' = s.os := ho
  subst e
  exact I.call (g' := g') (t' := t') (d' := d') u hok hg hch
end

/-! ### the judgements -/
/-- an exception: its class, its own dict's address (where it has one), the abstract heap behind it -/
abbrev XK := Value → Option Addr → Hp → Prop
abbrev St := List (Option V)
abbrev VK := V → Hp → Prop
/-- an expression's reading; a test's; an argument list's -/
abbrev TE := St → Hp → VK → Prop
abbrev TT := St → Hp → (Bool → Hp → Prop) → Prop
abbrev TA := St → Hp → (List V → Hp → Prop) → Prop
/-- what is wanted behind a statement -/
structure Ends where
  nx : St → Hp → Prop
  rt : VK
  bk : St → Hp → Prop := fun _ _ => False
  ct : St → Hp → Prop := fun _ _ => False
abbrev TS := Ends → St → Hp → Prop

def EP (X : Cx) (pins : List (Addr × Obj)) (σ : St) (Q : VK) (u : Value) (s' : Shared) : Prop := ∃ v H', Inv X pins σ H' s' ∧ RelV v u ∧ Q v H'
def TP (X : Cx) (pins : List (Addr × Obj)) (σ : St) (Q : Bool → Hp → Prop) (b : Bool) (s' : Shared) : Prop := ∃ H', Inv X pins σ H' s' ∧ Q b H'
def AP (X : Cx) (pins : List (Addr × Obj)) (σ : St) (Q : List V → Hp → Prop) (us : List Value) (s' : Shared) : Prop := ∃ vs H', Inv X pins σ H' s' ∧ Vals vs us ∧ Q vs H'
def SP (X : Cx) (pins : List (Addr × Obj)) (D : Ends) (f : Flow) (s' : Shared) : Prop :=
  match f with
  | .next => ∃ σ' H', Inv X pins σ' H' s' ∧ D.nx σ' H'
  | .brk => ∃ σ' H', Inv X pins σ' H' s' ∧ D.bk σ' H'
  | .cont => ∃ σ' H', Inv X pins σ' H' s' ∧ D.ct σ' H'
  | .ret u => ∃ v σ' H', Inv X pins σ' H' s' ∧ RelV v u ∧ D.rt v H'

def PE (X : Cx) (e : Expr) (t : TE) : Prop :=
  ∀ (pins : List (Addr × Obj)) (s : Shared) (σ : St) (H : Hp) (Q : VK), Inv X pins σ H s → t σ H Q → wpAny (model X.prog X.w) X.A (eval e X.env) (EP X pins σ Q) X.xe s
def PT (X : Cx) (e : Expr) (t : TT) : Prop :=
  ∀ (pins : List (Addr × Obj)) (s : Shared) (σ : St) (H : Hp) (Q : Bool → Hp → Prop), Inv X pins σ H s → t σ H Q → wpAny (model X.prog X.w) X.A (isTrue e X.env (eval e X.env)) (TP X pins σ Q) X.xe s
/-- a test whatever its 'whole' is (and, or) -/
def PW (X : Cx) (e : Expr) (t : TT) : Prop :=
  ∀ (whole : Sem Value) (pins : List (Addr × Obj)) (s : Shared) (σ : St) (H : Hp) (Q : Bool → Hp → Prop), Inv X pins σ H s → t σ H Q → wpAny (model X.prog X.w) X.A (isTrue e X.env whole) (TP X pins σ Q) X.xe s
theorem PW.pt {X : Cx} {e : Expr} {t : TT} (h : PW X e t) : PT X e t := h _
/-- an argument list (no star), from the left -/
def PA (X : Cx) (es : List Expr) (t : TA) : Prop :=
  ∀ (pos : Pos) (pins : List (Addr × Obj)) (s : Shared) (σ : St) (H : Hp) (Q : List V → Hp → Prop), Inv X pins σ H s → t σ H Q → wpAny (model X.prog X.w) X.A (spliced (backTo pos (starEach es X.env))) (AP X pins σ Q) X.xe s
def PS (X : Cx) (st : Stmt) (t : TS) : Prop :=
  ∀ (pins : List (Addr × Obj)) (s : Shared) (σ : St) (H : Hp) (D : Ends), Inv X pins σ H s → t D σ H → wpAny (model X.prog X.w) X.A (exec st X.env) (SP X pins D) X.xe s
def PSs (X : Cx) (st : List Stmt) (t : TS) : Prop :=
  ∀ (pins : List (Addr × Obj)) (s : Shared) (σ : St) (H : Hp) (D : Ends), Inv X pins σ H s → t D σ H → wpAny (model X.prog X.w) X.A (execs st X.env) (SP X pins D) X.xe s
/-- weaken the end -/
theorem thn {α : Type} {t : Sem α} {Q Q' : α → Shared → Prop} {M : Model} {A : Around} {E : Value → Shared → Prop} {s : Shared} (h : wpAny M A t Q E s) (hQ : ∀ a s, Q a s → Q' a s) : wpAny M A t Q' E s := wpAny_mono h hQ fun _ _ x => x
end L2

namespace L2
open PySem PySem.Spec PyProof.Rows
section
variable {X : Cx}

/-- two expressions in a row -/
theorem bin {a b : Expr} {ta tb : TE} (ha : PE X a ta) (hb : PE X b tb) {pins : List (Addr × Obj)} {s : Shared} {σ : St} {H : Hp} {R : V → V → Hp → Prop} (I : Inv X pins σ H s) (h : ta σ H fun x H1 => tb σ H1 fun y H2 => R x y H2)
    {α : Type} {Q : α → Shared → Prop} {f : Value → Value → Sem α}
    (hf : ∀ v u s2 x y H2, Inv X pins σ H2 s2 → RelV x v → RelV y u → R x y H2 → wpAny (model X.prog X.w) X.A (f v u) Q X.xe s2) :
    wpAny (model X.prog X.w) X.A (eval a X.env) (fun v s₁ => wpAny (model X.prog X.w) X.A (eval b X.env) (fun u s₂ => wpAny (model X.prog X.w) X.A (f v u) Q X.xe s₂) X.xe s₁) X.xe s := by
  refine thn (ha pins s σ H _ I h) fun v s1 ⟨x, H1, I1, r1, q1⟩ => ?_
  refine thn (hb pins s1 σ H1 _ I1 q1) fun u s2 ⟨y, H2, I2, r2, q2⟩ => ?_
  exact hf v u s2 x y H2 I2 r1 r2 q2

/-! ### names and constants -/
def tVar (i : Nat) : TE := fun σ H Q => ∃ v, σ[i]? = some (some v) ∧ Q v H
def tC (v : V) : TE := fun _ H Q => Q v H
theorem pe_var {i : Nat} {x : Str} {pos : Pos} (hN : X.N[i]? = some x) (hv : Vis X.env.scope x) (hd : (x == ("__debug__" : Str)) = false := by decide) (hcd : (x == ("__classdict__" : Str)) = false := by decide) : PE X (.Name x pos) (tVar i) := by
  intro pins s σ H Q I h
  obtain ⟨v, e, h⟩ := h
  obtain ⟨m, hn, hl⟩ := I.loc
  obtain ⟨u, r, l⟩ := hl i x v hN e hv
  have fin : EP X pins σ Q u s := ⟨v, H, I, r, h⟩
  rcases l with ⟨hk, hm⟩ | ⟨hk, c, hc, hcell⟩
  · exact wpAny_Name (wpAny_loadName_local I.ok.kind hk hn hm fin) hd
  · rcases hk with hk | hk
    · exact wpAny_Name (wpAny_loadName_cell I.ok.kind hk hc hcell fin) hd
    · exact wpAny_Name (wpAny_loadName_free I.ok.kind hk hc hcell fin hcd) hd
theorem pe_int {i j pos} : PE X (.Constant (.int i) j pos) (tC (.int i)) := fun _ _ _ H _ I h => wpAny_Constant_int ⟨.int i, H, I.tok _, ⟨_, rfl⟩, h⟩
theorem pe_bl {b j pos} : PE X (.Constant (.bool b) j pos) (tC (.bl b)) := fun _ _ _ H _ I h => Constant_bool ⟨.bl b, H, I, rfl, h⟩
theorem pe_non {j pos} : PE X (.Constant .none j pos) (tC .non) := fun _ _ _ H _ I h => Constant_none ⟨.non, H, I, rfl, h⟩
theorem pe_str {x j pos} : PE X (.Constant (.str x) j pos) (tC (.str x)) := fun _ _ _ H _ I h => Calls.Constant_str ⟨.str x, H, I.tok _, ⟨_, rfl⟩, h⟩

/-- a global name of the def -/
def Gl (X : Cx) (x : Str) : Prop := X.env.kindOf x = some .globalImplicit
theorem ld_glob {E : Value → Shared → Prop} {pins : List (Addr × Obj)} {s : Shared} {σ : St} {H : Hp} {x : Str} {u : Value} {pos : Pos} {Q : Value → Shared → Prop} (I : Inv X pins σ H s) (hg : Gl X x) (hm : X.mg x = some u) (h : Q u s)
    (hd : (x == ("__debug__" : Str)) = false := by decide) : wpAny (model X.prog X.w) X.A (eval (.Name x pos) X.env) Q E s :=
  Calls.Name_function_global I.ok.kind hg (Calls.loadGlobal_global (by rw [I.ok.glob]; exact I.mod.glob.keeps I.bk) hm h) hd
theorem ld_blt {E : Value → Shared → Prop} {pins : List (Addr × Obj)} {s : Shared} {σ : St} {H : Hp} {x : Str} {u : Value} {pos : Pos} {Q : Value → Shared → Prop} (I : Inv X pins σ H s) (hg : Gl X x) (hm : X.mg x = none) (hv : bootBuiltins x = some u) (h : Q u s)
    (hn : x ≠ "__name__" := by decide) (hd : (x == ("__debug__" : Str)) = false := by decide) : wpAny (model X.prog X.w) X.A (eval (.Name x pos) X.env) Q E s := by
  obtain ⟨mb, h1, h2⟩ := I.mod.blt
  exact Calls.Name_function_global I.ok.kind hg (Calls.loadGlobal_builtin (by rw [I.ok.glob]; exact I.mod.glob.keeps I.bk) hm (by rw [I.ok.blt]; exact h1.keeps I.bk) ((h2 x hn).trans hv) h) hd
/-- a module's constant, a class, a function, as a value -/
theorem pe_glob {x : Str} {v : V} {u : Value} {pos : Pos} (hg : Gl X x) (hm : X.mg x = some u) (r : RelV v u) (hd : (x == ("__debug__" : Str)) = false := by decide) : PE X (.Name x pos) (tC v) :=
  fun _ _ _ H _ I h => ld_glob I hg hm ⟨v, H, I, r, h⟩ hd
theorem pe_bltn {x : Str} {v : V} {u : Value} {pos : Pos} (hg : Gl X x) (hm : X.mg x = none) (hv : bootBuiltins x = some u) (r : RelV v u) (hn : x ≠ "__name__" := by decide) (hd : (x == ("__debug__" : Str)) = false := by decide) : PE X (.Name x pos) (tC v) :=
  fun _ _ _ H _ I h => ld_blt I hg hm hv ⟨v, H, I, r, h⟩ hn hd

/-! ### arithmetic -/
variable {a b : Expr} {ta tb : TE} {pos : Pos}
/-! ### comparisons -/
def PC (X : Cx) (op : CmpOp) (a b : Expr) (t : TE) : Prop :=
  ∀ (pins : List (Addr × Obj)) (s : Shared) (σ : St) (H : Hp) (Q : VK), Inv X pins σ H s → t σ H Q →
    wpAny (model X.prog X.w) X.A (eval a X.env) (fun v s₁ => wpAny (model X.prog X.w) X.A (eval b X.env) (fun u s₂ => wpAny (model X.prog X.w) X.A (compareOp op v u) (EP X pins σ Q) X.xe s₂) X.xe s₁) X.xe s
theorem nobehind (b : Expr) {op : CmpOp} (h : op ≠ .In) (h2 : op ≠ .NotIn) : behindInMarks op b = false := by
  have e1 : (op == CmpOp.In) = false := by cases op <;> first | rfl | exact absurd rfl h
  have e2 : (op == CmpOp.NotIn) = false := by cases op <;> first | rfl | exact absurd rfl h2
  cases b <;> simp [behindInMarks, e1, e2]
/-- a comparison as a value, as a test -/
def tB (t : TE) : TT := fun σ H Q => t σ H fun x H1 => ∃ c, x = .bl c ∧ Q c H1
theorem pt_cmp {op : CmpOp} {t : TE} (h : PC X op a b t) (h1 : behindInMarks op b = false := by first | exact nobehind _ (by decide) (by decide) | rfl) : PT X (.Compare a [op] [b] pos) (tB t) := by
  intro pins s σ H Q I hw
  refine wpAny_isTrue_Compare1 (thn (h pins s σ H _ I hw) fun v s1 h1 => thn h1 fun u s2 h2 => thn h2 fun c s3 ⟨x, H1, I1, r1, q1⟩ => ?_) h1
  obtain ⟨d, rfl, q⟩ := q1
  cases r1
  exact wpAny_truthy_bool ⟨H1, I1, q⟩
/-- an expression whose value is a bool, as a test -/
theorem pt_val {e : Expr} {t : TE} (h : PE X e t) (he : ∀ whole, isTrue e X.env whole = (do let v ← whole; standAt e.pos; holding [v] (truthy v)) := by intro _; rfl) : PT X e (tB t) := by
  intro pins s σ H Q I hw
  refine isTrue_plain (thn (h pins s σ H _ I hw) fun v s1 ⟨x, H1, I1, r1, q1⟩ => ?_) (he _)
  obtain ⟨d, rfl, q⟩ := q1
  cases r1
  exact wpAny_truthy_bool ⟨H1, I1, q⟩

/-! ### and, or, not -/
variable {tA tB' : TT} {rest : List Expr}
def tAnd (t u : TT) : TT := fun σ H Q => t σ H fun c H1 => if c = true then u σ H1 Q else Q false H1
def tOr (t u : TT) : TT := fun σ H Q => t σ H fun c H1 => if c = true then Q true H1 else u σ H1 Q
def tNot (t : TT) : TT := fun σ H Q => t σ H fun c H1 => Q (!c) H1
theorem pw_and1 (ha : PT X a tA) : PW X (.BoolOp .And [a] pos) tA := by
  intro wh pins s σ H Q I h
  refine isTrue_and (thn (ha pins s σ H Q I h) fun c s1 e => ?_)
  cases c with
  | true => exact isTrue_and_nil e
  | false => exact e
theorem pw_or1 (ha : PT X a tA) : PW X (.BoolOp .Or [a] pos) tA := by
  intro wh pins s σ H Q I h
  refine isTrue_or (thn (ha pins s σ H Q I h) fun c s1 e => ?_)
  cases c with
  | false => exact isTrue_or_nil e
  | true => exact e
theorem pw_and (ha : PT X a tA) (hb : PW X (.BoolOp .And (b :: rest) pos) tB') : PW X (.BoolOp .And (a :: b :: rest) pos) (tAnd tA tB') := by
  intro wh pins s σ H Q I h
  refine isTrue_and (thn (ha pins s σ H _ I h) fun c s1 ⟨H1, I1, q1⟩ => ?_)
  cases c with
  | true => exact hb wh pins s1 σ H1 Q I1 q1
  | false => exact ⟨H1, I1, q1⟩
theorem pw_or (ha : PT X a tA) (hb : PW X (.BoolOp .Or (b :: rest) pos) tB') : PW X (.BoolOp .Or (a :: b :: rest) pos) (tOr tA tB') := by
  intro wh pins s σ H Q I h
  refine isTrue_or (thn (ha pins s σ H _ I h) fun c s1 ⟨H1, I1, q1⟩ => ?_)
  cases c with
  | true => exact ⟨H1, I1, q1⟩
  | false => exact hb wh pins s1 σ H1 Q I1 q1
theorem pt_not (ha : PT X a tA) : PT X (.UnaryOp .Not a pos) (tNot tA) := by
  intro pins s σ H Q I h
  exact isTrue_not (ha pins s σ H (fun c H1 => Q (!c) H1) I h)
/-- .. as values (bools) -/
def tAndV (ta tb : TE) : TE := fun σ H Q => ta σ H fun x H1 => ∃ c, x = .bl c ∧ if c = true then tb σ H1 Q else Q (.bl false) H1
def tOrV (ta tb : TE) : TE := fun σ H Q => ta σ H fun x H1 => ∃ c, x = .bl c ∧ if c = true then Q (.bl true) H1 else tb σ H1 Q
def tNotV (ta : TE) : TE := fun σ H Q => ta σ H fun x H1 => ∃ c, x = .bl c ∧ Q (.bl (!c)) H1
theorem pe_one {op} {t : TE} (h : PE X a t) : PE X (.BoolOp op [a] pos) t := fun pins s σ H Q I hw => BoolOp_one (h pins s σ H Q I hw)
theorem pe_and (ha : PE X a ta) (hb : PE X (.BoolOp .And (b :: rest) pos) tb) : PE X (.BoolOp .And (a :: b :: rest) pos) (tAndV ta tb) := by
  intro pins s σ H Q I h
  refine BoolOp_and (thn (ha pins s σ H _ I h) fun v s1 ⟨x, H1, I1, r1, q1⟩ => ?_)
  obtain ⟨c, rfl, q1⟩ := q1
  cases r1
  refine wpAny_truthy_bool ?_
  cases c with
  | true => exact hb pins s1 σ H1 Q I1 q1
  | false => exact ⟨.bl false, H1, I1, rfl, q1⟩
theorem pe_or (ha : PE X a ta) (hb : PE X (.BoolOp .Or (b :: rest) pos) tb) : PE X (.BoolOp .Or (a :: b :: rest) pos) (tOrV ta tb) := by
  intro pins s σ H Q I h
  refine BoolOp_or (thn (ha pins s σ H _ I h) fun v s1 ⟨x, H1, I1, r1, q1⟩ => ?_)
  obtain ⟨c, rfl, q1⟩ := q1
  cases r1
  refine wpAny_truthy_bool ?_
  cases c with
  | false => exact hb pins s1 σ H1 Q I1 q1
  | true => exact ⟨.bl true, H1, I1, rfl, q1⟩
/-- a if t else b -/
def tIf (t : TT) (ta tb : TE) : TE := fun σ H Q => t σ H fun c H1 => if c = true then ta σ H1 Q else tb σ H1 Q
end
end L2

namespace L2
open PySem PySem.Spec PyProof.Rows

/-! ### a list, a tuple that is read: tracked, frozen, or an object of the module -/
def SqL (K : PySem.W.Frag) (H : Hp) (a : Addr) (xs : List V) : Prop :=
  Rd H a (.lst xs) ∨
    ∃ (o : Obj) (its : Array Value) (n : Nat), K.lookup a = some o ∧ o.cls = .type "list" ∧ o.dict = none ∧ o.data = .seq its n ∧ its.size ≤ sizeLine ∧ Vals xs its.toList
def SqT (K : PySem.W.Frag) (H : Hp) (a : Addr) (xs : List V) : Prop :=
  Rd H a (.tup xs) ∨
    ∃ (o : Obj) (its : Array Value) (n : Nat), K.lookup a = some o ∧ o.cls = .type "tuple" ∧ o.data = .seq its n ∧ its.size ≤ sizeLine ∧ Vals xs its.toList
def absV : Value → Option V
  | .none => some .non
  | .bool b => some (.bl b)
  | .int i _ => some (.int i)
  | .str x _ => some (.str x)
  | .bytes b _ => some (.byt b)
  | .float b _ => some (.flt b)
  | .ref a => some (.ref a)
  | .type n => some (.ty n)
  | _ => none
theorem RelV.abs {x : V} {u : Value} (r : RelV x u) : absV u = some x := by
  cases x with
  | non => cases r; rfl
  | bl _ => cases r; rfl
  | int _ => obtain ⟨t, rfl⟩ := r; rfl
  | str _ => obtain ⟨t, rfl⟩ := r; rfl
  | byt _ => obtain ⟨t, rfl⟩ := r; rfl
  | flt _ => obtain ⟨t, rfl⟩ := r; rfl
  | ref _ => cases r; rfl
  | ty _ => cases r; rfl
theorem RelV.inj {x y : V} {u : Value} (r : RelV x u) (q : RelV y u) : x = y := Option.some.inj (r.abs.symm.trans q.abs)
theorem Vals.inj : ∀ {xs ys : List V} {us : List Value}, Vals xs us → Vals ys us → xs = ys
  | _, _, _, .nil, .nil => rfl
  | _, _, _, .cons r t, .cons r' t' => by rw [r.inj r', Vals.inj t t']
section
variable {X : Cx} {pins : List (Addr × Obj)} {σ : St} {H : Hp} {s : Shared} {a : Addr} {xs ys : List V}
theorem SqL.of {K : PySem.W.Frag} (h : H a = some (.lst xs)) : SqL K H a xs := .inl (.inl h)
theorem SqT.of {K : PySem.W.Frag} (h : H a = some (.tup xs)) : SqT K H a xs := .inl (.inl h)
theorem Inv.list (I : Inv X pins σ H s) (h : SqL X.K H a xs) : ∃ its : List Value, Vals xs its ∧ PlainL s.heap a its.toArray ∧ xs.length ≤ sizeLine := by
  rcases h with h | ⟨o, its, n, hk, hc, hd, hs, hz, r⟩
  · obtain ⟨z, its, n, r, e⟩ := h.ok I.hok
    exact ⟨its, r, ⟨_, n, e, rfl, rfl, rfl⟩, z⟩
  · refine ⟨its.toList, r, ⟨o, n, I.kIn a o hk, hc, hd, by simpa using hs⟩, ?_⟩
    have e := r.length
    simp only [Array.length_toList] at e
    omega
theorem Inv.tuple (I : Inv X pins σ H s) (h : SqT X.K H a xs) : ∃ its : List Value, Vals xs its ∧ IsTup s.heap a its.toArray ∧ xs.length ≤ sizeLine := by
  rcases h with h | ⟨o, its, n, hk, hc, hs, hz, r⟩
  · obtain ⟨z, its, r, p⟩ := h.ok I.hok
    exact ⟨its, r, p, z⟩
  · refine ⟨its.toList, r, ⟨o, I.kIn a o hk, hc, n, by simpa using hs⟩, ?_⟩
    have e := r.length
    simp only [Array.length_toList] at e
    omega
theorem Inv.list_inj (I : Inv X pins σ H s) (h : SqL X.K H a xs) (h' : SqL X.K H a ys) : xs = ys := by
  obtain ⟨its, r, ⟨o, n, e, _, _, d⟩, _⟩ := I.list h
  obtain ⟨its', r', ⟨o', n', e', _, _, d'⟩, _⟩ := I.list h'
  rw [e] at e'; cases e'
  rw [d] at d'
  injection d' with d1 _
  have : its = its' := by simpa using congrArg Array.toList d1
  subst this
  exact r.inj r'
end

/-! ### another wish about exceptions -/
abbrev Cx.wish (X : Cx) (E : Value → Shared → Prop) : Cx := { X with xe := E }
/-- no exception leaves -/
abbrev Cx.nox (X : Cx) : Cx := X.wish fun _ _ => False
theorem Cx.Ok.wish {X : Cx} (ok : X.Ok) (E : Value → Shared → Prop) : (X.wish E).Ok :=
  ⟨ok.mod, ok.kind, ok.glob, ok.blt, ok.above, ok.inj, ok.has, ok.cab, ok.hd, ok.frames, ok.stk, ok.exf, ok.bs, ok.bsz, ok.noex, ok.exfs, ok.funs, ok.frf⟩
theorem Cx.Ok.unwish {X : Cx} {E : Value → Shared → Prop} (ok : (X.wish E).Ok) : X.Ok :=
  ⟨ok.mod, ok.kind, ok.glob, ok.blt, ok.above, ok.inj, ok.has, ok.cab, ok.hd, ok.frames, ok.stk, ok.exf, ok.bs, ok.bsz, ok.noex, ok.exfs, ok.funs, ok.frf⟩
section
variable {X : Cx} {pins : List (Addr × Obj)} {σ : St} {H : Hp} {s : Shared} {E : Value → Shared → Prop}
theorem Inv.wish (I : Inv X pins σ H s) (E : Value → Shared → Prop) : Inv (X.wish E) pins σ H s := ⟨I.ok.wish E, I.os, I.bare, I.base, I.loc, I.cell, I.free, I.freeC, I.pin, I.hok, I.len⟩
theorem Inv.unwish (I : Inv (X.wish E) pins σ H s) : Inv X pins σ H s := ⟨I.ok.unwish, I.os, I.bare, I.base, I.loc, I.cell, I.free, I.freeC, I.pin, I.hok, I.len⟩
theorem SP.unwish {D : Ends} {f : Flow} {s' : Shared} (h : SP (X.wish E) pins D f s') : SP X pins D f s' := by
  cases f with
  | next => obtain ⟨σ', H', I, q⟩ := h; exact ⟨σ', H', I.unwish, q⟩
  | brk => obtain ⟨σ', H', I, q⟩ := h; exact ⟨σ', H', I.unwish, q⟩
  | cont => obtain ⟨σ', H', I, q⟩ := h; exact ⟨σ', H', I.unwish, q⟩
  | ret u => obtain ⟨v, σ', H', I, r, q⟩ := h; exact ⟨v, σ', H', I.unwish, r, q⟩
theorem PT.nox {e : Expr} {t : TT} (h : PT X.nox e t) : PT X e t := fun pins s σ H Q I hw =>
  wpAny_mono (h pins s σ H Q (I.wish _) hw) (fun _ _ ⟨H', I', q⟩ => ⟨H', I'.unwish, q⟩) fun _ _ z => False.elim z
theorem PSs.nox {st : List Stmt} {t : TS} (h : PSs X.nox st t) : PSs X st t := fun pins s σ H D I hw =>
  wpAny_mono (h pins s σ H D (I.wish _) hw) (fun _ _ q => q.unwish) fun _ _ z => False.elim z
end

/-! ### blocks and small statements -/
section
variable {X : Cx} {st : Stmt} {rest : List Stmt} {t u : TS} {e : Expr} {te : TE} {pos : Pos}
def tNext : TS := fun D σ H => D.nx σ H
def tSeq (t u : TS) : TS := fun D σ H => t { D with nx := u D } σ H
theorem pss_nil : PSs X [] tNext := fun _ _ σ H _ I h => wpAny_execs_nil ⟨σ, H, I, h⟩
theorem pss_cons (h1 : PS X st t) (h2 : PSs X rest u) : PSs X (st :: rest) (tSeq t u) := by
  intro pins s σ H D I h
  refine wpAny_execs_cons (thn (h1 pins s σ H { D with nx := u D } I h) fun f s1 q => ?_)
  cases f with
  | next =>
    obtain ⟨σ', H', I', q⟩ := q
    exact h2 pins s1 σ' H' D I' q
  | ret v => exact q
  | brk => exact q
  | cont => exact q
theorem pss_one (h1 : PS X st t) : PSs X [st] t := by
  intro pins s σ H D I h
  refine wpAny_execs_cons (thn (h1 pins s σ H D I h) fun f s1 q => ?_)
  cases f with
  | next => exact wpAny_execs_nil q
  | ret v => exact q
  | brk => exact q
  | cont => exact q
def tBreak : TS := fun D σ H => D.bk σ H
def tCont : TS := fun D σ H => D.ct σ H
/-- in a def's body nothing is shown -/
theorem Inv.quiet {pins : List (Addr × Obj)} {σ : St} {H : Hp} {s : Shared} (I : Inv X pins σ H s) : interactive X.env = false := by simp [interactive, I.ok.kind]
/-- an expression whose value is dropped -/
def tDrop (te : TE) : TS := fun D σ H => te σ H fun _ H1 => D.nx σ H1
theorem ps_expr (he : PE X e te) (hs : swapsWith e none pos.line X.env = pure false := by rfl) : PS X (.Expr e pos) (tDrop te) := by
  intro pins s σ H D I h
  exact wpAny_Expr_any (thn (he pins s σ H _ I h) fun v s1 ⟨x, H1, I1, r1, q1⟩ => ⟨σ, H1, I1, q1⟩) I.quiet hs
def tRet (te : TE) : TS := fun D σ H => te σ H D.rt
theorem ps_ret (he : PE X e te) : PS X (.Return (some e) pos) (tRet te) := by
  intro pins s σ H D I h
  exact wpAny_Return_some (thn (he pins s σ H _ I h) fun v s1 ⟨x, H1, I1, r1, q1⟩ => ⟨x, σ, H1, I1, r1, q1⟩)
def tRetN : TS := fun D _ H => D.rt .non H
def tIfS (c : TT) (t u : TS) : TS := fun D σ H => c σ H fun b H1 => if b = true then t D σ H1 else u D σ H1
theorem ps_if {c : Expr} {a b : List Stmt} {tc : TT} (hc : PT X c tc) (ha : PSs X a t) (hb : PSs X b u) : PS X (.If c a b pos) (tIfS tc t u) := by
  intro pins s σ H D I h
  refine wpAny_If (thn (hc pins s σ H _ I h) fun d s1 ⟨H1, I1, q1⟩ => ?_)
  cases d with
  | true => exact ha pins s1 σ H1 D I1 q1
  | false => exact hb pins s1 σ H1 D I1 q1
/-- code that the proof never comes to -/
def tNever : TS := fun _ _ _ => False
theorem pss_never {sts : List Stmt} : PSs X sts tNever := fun _ _ _ _ _ _ h => h.elim
end

/-! ### targets -/
abbrev TG := V → St → Hp → (St → Hp → Prop) → Prop
abbrev TGs := List V → St → Hp → (St → Hp → Prop) → Prop
def PG (X : Cx) (target : Expr) (t : TG) : Prop :=
  ∀ (pins : List (Addr × Obj)) (s : Shared) (σ : St) (H : Hp) (v : V) (u : Value) (Q : St → Hp → Prop), Inv X pins σ H s → RelV v u → t v σ H Q →
    wpAny (model X.prog X.w) X.A (assign target X.env u) (fun _ s' => ∃ σ' H', Inv X pins σ' H' s' ∧ Q σ' H') X.xe s
/-- several targets, one after another -/
def PGs (X : Cx) (ts : List Expr) (t : TGs) : Prop :=
  ∀ (pins : List (Addr × Obj)) (s : Shared) (σ : St) (H : Hp) (vs : List V) (us : List Value) (Q : St → Hp → Prop), Inv X pins σ H s → Vals vs us → t vs σ H Q →
    wpAny (model X.prog X.w) X.A (assignInOrder ((assignEach ts X.env).map (·.2)) us) (fun _ s' => ∃ σ' H', Inv X pins σ' H' s' ∧ Q σ' H') X.xe s
/-- o[i] = v, by values -/
abbrev TSet := V → V → V → Hp → (Hp → Prop) → Prop
def PSet (X : Cx) (t : TSet) : Prop :=
  ∀ (pins : List (Addr × Obj)) (s : Shared) (σ : St) (H : Hp) (o i v : V) (ov iv u : Value) (Q : Hp → Prop), Inv X pins σ H s → RelV o ov → RelV i iv → RelV v u → t o i v H Q →
    wpAny (model X.prog X.w) X.A (setItem ov iv u) (fun _ s' => ∃ H', Inv X pins σ H' s' ∧ Q H') X.xe s
/-- a op= b, by values -/
abbrev TIp := V → V → Hp → VK → Prop
def PIp (X : Cx) (op : Operator) (t : TIp) : Prop :=
  ∀ (pins : List (Addr × Obj)) (s : Shared) (σ : St) (H : Hp) (x y : V) (v u : Value) (Q : VK), Inv X pins σ H s → RelV x v → RelV y u → t x y H Q →
    wpAny (model X.prog X.w) X.A (inplaceOp op v u) (EP X pins σ Q) X.xe s
section
variable {X : Cx} {pos : Pos}
def gName (i : Nat) : TG := fun v σ H Q => Q (σ.set i (some v)) H
theorem pg_name {i : Nat} {x : Str} (hN : X.N.Nodup) (hi : X.N[i]? = some x) (hx : Loc X.env.scope x) (hf : X.fn x = true ∨ X.env.scope.names.lookup x = some .local := by first | exact .inl rfl | exact .inr rfl | assumption) : PG X (.Name x pos) (gName i) := by
  intro pins s σ H v u Q I r h
  exact wpAny_assign_Name (store_ok I hN hi hx r (fun s' I' => ⟨_, H, I', h⟩) hf)
def gNil : TGs := fun vs σ H Q => vs = [] ∧ Q σ H
def gCons (t : TG) (u : TGs) : TGs := fun vs σ H Q => ∃ v r, vs = v :: r ∧ t v σ H fun σ' H' => u r σ' H' Q
theorem pgs_nil : PGs X [] gNil := by
  intro pins s σ H vs us Q I r h
  obtain ⟨e, h⟩ := h
  subst e
  cases r
  exact assignInOrder_nil ⟨σ, H, I, h⟩
theorem pgs_cons {e : Expr} {es : List Expr} {t : TG} {u : TGs} (h1 : PG X e t) (h2 : PGs X es u)
    (hs : (assignEach (e :: es) X.env).map (·.2) = assign e X.env :: (assignEach es X.env).map (·.2) := by rfl) : PGs X (e :: es) (gCons t u) := by
  intro pins s σ H vs us Q I r h
  obtain ⟨v, vr, e1, h⟩ := h
  subst e1
  cases r with
  | cons r rr =>
    rw [hs]
    refine assignInOrder_cons (thn (h1 pins s σ H _ _ _ I r h) fun _ s1 ⟨σ1, H1, I1, q1⟩ => ?_)
    exact h2 pins s1 σ1 H1 _ _ Q I1 rr q1
/-- (a, b, ..) = a tuple of that length -/
def gTup (K : PySem.W.Frag) (n : Nat) (t : TGs) : TG := fun v σ H Q => ∃ a xs, v = .ref a ∧ SqT K H a xs ∧ xs.length = n ∧ t xs σ H Q
theorem pg_tup {es : List Expr} {k : Nat} {t : TGs} {n : Nat} (hc : X.calm = true) (h : PGs X es t)
    (hn : (assignEach es X.env).length = n := by rfl) (hst : (assignEach es X.env).findIdx? (·.1) = none := by rfl) : PG X (.Tuple es k pos) (gTup X.K n t) := by
  intro pins s σ H v u Q I r hw
  obtain ⟨a, xs, e1, hq, hl, hw⟩ := hw
  subst e1
  cases r
  obtain ⟨its, rv, ht, hz⟩ := I.tuple hq
  refine assign_Tuple_tuple (I.ok.hd hc) ht (by simp [hn, ← hl, rv.length]) hst fun h' hx => ?_
  have I1 : Inv X pins σ H { s with heap := h' } := I.kept (t' := s.toks) fun b o e => hx b o (Nat.ne_of_lt (Heap.lt_size e)) e
  exact h pins _ σ H xs _ Q I1 (by simpa using rv) hw
/-- o[i] = .. -/
def gSub (to ti : TE) (t : TSet) : TG := fun v σ H Q => to σ H fun o H1 => ti σ H1 fun i H2 => t o i v H2 fun H3 => Q σ H3
theorem pg_sub {o i : Expr} {to ti : TE} {t : TSet} (ho : PE X o to) (hi : PE X i ti) (hs : PSet X t)
    (ha : ∀ v, assign (.Subscript o i pos) X.env v = (do
      let ov ← holding [v] (eval o X.env)
      let iv ← holding [v, ov] (eval i X.env)
      standAt pos
      holding [v, ov, iv] (setItem ov iv v)
      release [v, ov, iv] []) := by intro _; rfl) : PG X (.Subscript o i pos) (gSub to ti t) := by
  intro pins s σ H v u Q I r h
  rw [ha]
  refine wpAny_bind (wpAny_holding (thn (ho pins s σ H _ I h) fun ov s1 ⟨x, H1, I1, r1, q1⟩ => ?_))
  refine wpAny_bind (wpAny_holding (thn (hi pins s1 σ H1 _ I1 q1) fun iv s2 ⟨y, H2, I2, r2, q2⟩ => ?_))
  refine wpAny_bind (wpAny_standAt (wpAny_bind (wpAny_holding (thn (hs pins s2 σ H2 x y v ov iv u _ I2 r1 r2 r q2) fun _ s3 ⟨H3, I3, q3⟩ => ?_))))
  exact wpAny_release ⟨σ, H3, I3, q3⟩
/-- target = value -/
def tAsg (te : TE) (g : TG) : TS := fun D σ H => te σ H fun x H1 => g x σ H1 D.nx
theorem ps_asg {tg e : Expr} {te : TE} {g : TG} (he : PE X e te) (hg : PG X tg g) (hs : swapsWithSole [tg] e pos.line X.env = pure false := by rfl) (hw : swappedStores [tg] e X.env = pure none := by rfl)
    (h1 : (assignEach [tg] X.env).map (·.2) = [assign tg X.env] := by rfl) : PS X (.Assign [tg] e pos) (tAsg te g) := by
  intro pins s σ H D I h
  refine wpAny_Assign_stores (thn (he pins s σ H _ I h) fun v s1 ⟨x, H1, I1, r1, q1⟩ => ?_) hs hw
  rw [h1]
  exact thn (hg pins s1 σ H1 x v _ I1 r1 q1) fun _ s2 q => q
/-- name = value -/
theorem ps_set {i : Nat} {x : Str} {e : Expr} {te : TE} {pos' : Pos} (hN : X.N.Nodup) (hi : X.N[i]? = some x) (hx : Loc X.env.scope x) (he : PE X e te) (hs : swapsWith e (some (.Name x pos')) pos.line X.env = pure false := by rfl) (hf : X.fn x = true ∨ X.env.scope.names.lookup x = some .local := by first | exact .inl rfl | exact .inr rfl | assumption) :
    PS X (.Assign [.Name x pos'] e pos) (tAsg te (gName i)) := by
  intro pins s σ H D I h
  refine wpAny_Assign_Name (thn (he pins s σ H _ I h) fun v s1 ⟨y, H1, I1, r1, q1⟩ => ?_) hs
  exact store_ok I1 hN hi hx r1 (fun s2 I2 => ⟨_, H1, I2, q1⟩) hf
/-- name op= e -/
def tAug (i : Nat) (te : TE) (ti : TIp) : TS := fun D σ H => ∃ x, σ[i]? = some (some x) ∧ te σ H fun y H1 => ti x y H1 fun z H2 => D.nx (σ.set i (some z)) H2
theorem ps_aug {i : Nat} {x : Str} {e : Expr} {te : TE} {op : Operator} {ti : TIp} {pos' : Pos} (hN : X.N.Nodup) (hi : X.N[i]? = some x) (hx : Loc X.env.scope x) (he : PE X e te) (ho : PIp X op ti) (hf : X.fn x = true ∨ X.env.scope.names.lookup x = some .local := by first | exact .inl rfl | exact .inr rfl | assumption) :
    PS X (.AugAssign (.Name x pos') op e pos) (tAug i te ti) := by
  intro pins s σ H D I h
  obtain ⟨v, e1, h⟩ := h
  obtain ⟨m, hn, hl⟩ := I.loc
  have vis : Vis X.env.scope x := by rcases hx with k | k; exact .inl k; exact .inr (.inl k)
  obtain ⟨u, r, l⟩ := hl i x v hi e1 vis
  refine wpAny_AugAssign_Name ?_
  have go : wpAny (model X.prog X.w) X.A (eval e X.env) (fun w s₂ => wpAny (model X.prog X.w) X.A (inplaceOp op u w) (fun r s₃ => wpAny (model X.prog X.w) X.A (storeName X.env x r) (fun _ => SP X pins D .next) X.xe s₃) X.xe s₂) X.xe s := by
    refine thn (he pins s σ H _ I h) fun w s1 ⟨y, H1, I1, r1, q1⟩ => ?_
    refine thn (ho pins s1 σ H1 v y u w _ I1 r r1 q1) fun z s2 ⟨zv, H2, I2, r2, q2⟩ => ?_
    exact store_ok I2 hN hi hx r2 (fun s3 I3 => ⟨_, H2, I3, q2⟩) hf
  rcases l with ⟨hk, hm⟩ | ⟨hk, c, hc, hcell⟩
  · exact wpAny_loadName_local I.ok.kind hk hn hm go
  · rcases hk with hk | hk
    · exact wpAny_loadName_cell I.ok.kind hk hc hcell go
    · rcases hx with k | k
      · have : X.env.scope.names.lookup x = some .free := hk
        rw [k] at this; cases this
      · have : X.env.scope.names.lookup x = some .free := hk
        rw [k] at this; cases this
/-- o[i] op= e -/
def tAugS (to ti te : TE) (tget : V → V → Hp → VK → Prop) (tip : TIp) (tset : TSet) : TS := fun D σ H => to σ H fun o H1 => ti σ H1 fun i H2 => tget o i H2 fun x H3 => te σ H3 fun y H4 => tip x y H4 fun z H5 => tset o i z H5 fun H6 => D.nx σ H6
/-- ints -/
def ipI (f : Int → Int → Int) : TIp := fun x y H Q => ∃ i j, x = .int i ∧ y = .int j ∧ Q (.int (f i j)) H
end

/-! ### while -/
section
variable {X : Cx} {pos : Pos}
/-- the invariant W with its measure -/
def tWhile (c : TT) (tb : TS) : TS := fun D σ H => ∃ W : Nat → St → Hp → Prop, (∃ m, W m σ H) ∧ ∀ m σ H, W m σ H →
  c σ H fun b H1 => if b = true then ∃ N : St → Hp → Prop, (∀ σ' H', N σ' H' → ∃ m', m' < m ∧ W m' σ' H') ∧ tb { D with nx := N, ct := N, bk := D.nx } σ H1 else D.nx σ H1
theorem ps_while {c : Expr} {body : List Stmt} {tc : TT} {tb : TS} (hp : PassesOwn (model X.prog X.w) X.A X.env X.xe) (hc : PT X c tc) (hb : PSs X body tb) : PS X (.While c body [] pos) (tWhile tc tb) := by
  intro pins s σ H D I h
  obtain ⟨W, ⟨m0, w0⟩, turn⟩ := h
  refine wpAny_While (codeAny_whileLoop (fun n s' => ∃ σ' H', Inv X pins σ' H' s' ∧ W n σ' H') ?_ m0 ⟨σ, H, I, w0⟩)
  rintro n s1 ⟨σ1, H1, I1, w1⟩
  refine wpAny_passesOwn hp (thn (hc pins s1 σ1 H1 _ I1 (turn n σ1 H1 w1)) fun b s2 ⟨H2, I2, q2⟩ => ?_)
  cases b with
  | true =>
    obtain ⟨N, hN, q2⟩ := q2
    rw [if_pos rfl]
    refine wpAny_passesOwn hp (thn (hb pins s2 σ1 H2 _ I2 q2) fun f s3 q3 => ?_)
    cases f with
    | next =>
      obtain ⟨σ3, H3, I3, n3⟩ := q3
      obtain ⟨m', hm, w3⟩ := hN σ3 H3 n3
      exact ⟨m', hm, σ3, H3, I3, w3⟩
    | cont =>
      obtain ⟨σ3, H3, I3, n3⟩ := q3
      obtain ⟨m', hm, w3⟩ := hN σ3 H3 n3
      exact ⟨m', hm, σ3, H3, I3, w3⟩
    | brk => exact q3
    | ret v => exact q3
  | false =>
    rw [if_neg Bool.false_ne_true]
    exact wpAny_execs_nil ⟨σ1, H2, I2, q2⟩
end

/-! ### what a loop or a comprehension walks -/
/-- at turn i: it yields x (the heap may grow), or it stops -/
structure It where
  go : Nat → Hp → Prop
  yld : Nat → Hp → V → Hp → Prop
  stop : Nat → Hp → Prop
/-- the iterator's own objects may turn: they are not the frame's, not pinned, younger than the entry (or a comprehension's own) -/
def FpOk (X : Cx) (pins : List (Addr × Obj)) (H : Hp) (b : Addr) : Prop :=
  H b = none ∧ b ≠ X.env.locals ∧ b ∉ X.fs ∧ (b ∈ X.ex ∨ X.s₀.heap.objs.size ≤ b) ∧ (∀ x c, X.env.cells.lookup x = some c → c ≠ b) ∧ ∀ p ∈ X.pn ++ pins, p.1 ≠ b
theorem Inv.fpOk {X : Cx} {pins : List (Addr × Obj)} {σ : St} {H H' : Hp} {s : Shared} {b : Addr} (I : Inv X pins σ H s) (hb : s.heap.objs.size ≤ b) (hn : H' b = none) : FpOk X pins H' b := by
  refine ⟨hn, Nat.ne_of_gt (Nat.lt_of_lt_of_le I.lt hb), I.nofs hb, .inr (Nat.le_trans I.sz hb), fun x c e z => ?_, fun p hp z => ?_⟩
  · obtain ⟨v, q⟩ := I.cell x c e
    exact absurd (Nat.lt_of_lt_of_le q.lt (by rw [z]; exact hb)) (Nat.lt_irrefl _)
  · exact absurd (Nat.lt_of_lt_of_le (Heap.lt_size (I.pin p hp).1) (by rw [z]; exact hb)) (Nat.lt_irrefl _)
structure Turn (P : Program) (w : World) (K : PySem.W.Frag) (tg : Expr) (J : It) (fp : List Addr) (it : Addr) (tn : Nat → Heap → Prop) : Prop where
  mem : it ∈ fp
  obj : ∀ i h, tn i h → ∀ b ∈ fp, ∃ o, h.get? b = some o ∧ ∀ v, o.data ≠ .cell v
  keep : ∀ i h h', tn i h → (∀ b ∈ fp, ∀ o, h.get? b = some o → h'.get? b = some o) → tn i h'
  item : ∀ (X : Cx), X.prog = P → X.w = w → X.K = K → X.calm = true → ∀ (i : Nat) (pins : List (Addr × Obj)) (s : Shared) (σ : St) (H : Hp) (E : Value → Shared → Prop), Inv X pins σ H s → (∀ b ∈ fp, FpOk X pins H b) → tn i s.heap → J.go i H →
    wpAny (model P w) X.A (pyNext (.ref it)) (fun r s1 => ∃ u, r = some u ∧
      wpAny (model P w) X.A (letOwnedTupleGo tg (.ref it) u) (fun _ s2 => ∃ x H', Inv X pins σ H' s2 ∧ RelV x u ∧ J.yld i H x H' ∧ tn (i + 1) s2.heap ∧ ∀ b ∈ fp, H' b = none) E s1) E s
  done : ∀ (X : Cx), X.prog = P → X.w = w → X.K = K → X.calm = true → ∀ (i : Nat) (pins : List (Addr × Obj)) (s : Shared) (σ : St) (H : Hp) (E : Value → Shared → Prop), Inv X pins σ H s → (∀ b ∈ fp, FpOk X pins H b) → tn i s.heap → J.stop i H →
    wpAny (model P w) X.A (pyNext (.ref it)) (fun r s1 => r = none ∧ Inv X pins σ H s1) E s
  self : ∀ (A : Around) (i : Nat) (s : Shared) (Q : Value → Shared → Prop) (E : Value → Shared → Prop), tn i s.heap → Q (.ref it) s → wpAny (model P w) A (pyIter (.ref it)) Q E s
abbrev TI := St → Hp → (It → Hp → Prop) → Prop
/-- an iterator has come -/
def PIE (X : Cx) (pins : List (Addr × Obj)) (σ : St) (tg : Expr) (R : It → Hp → Prop) (itv : Value) (s2 : Shared) : Prop :=
  ∃ (it : Addr) (fp : List Addr) (tn : Nat → Heap → Prop) (J : It) (H' : Hp), itv = .ref it ∧ Inv X pins σ H' s2 ∧ Turn X.prog X.w X.K tg J fp it tn ∧ tn 0 s2.heap ∧ (∀ b ∈ fp, FpOk X pins H' b) ∧ R J H'
def PI (X : Cx) (tg iter : Expr) (wi : TI) : Prop :=
  ∀ (pins : List (Addr × Obj)) (s : Shared) (σ : St) (H : Hp) (R : It → Hp → Prop), Inv X pins σ H s → wi σ H R →
    wpAny (model X.prog X.w) X.A (eval iter X.env) (fun v s1 => wpAny (model X.prog X.w) X.A (pyIter v) (PIE X pins σ tg R) X.xe s1) X.xe s

/-- the step ahead of the store is nothing for an iterator that keeps no tuple -/
theorem go_of {M : Model} {A : Around} {E : Value → Shared → Prop} {s : Shared} {tg : Expr} {it : Addr} {u : Value} {o : Obj} {n : String} {vs : Array Value} {Q : Unit → Shared → Prop} (ho : s.heap.get? it = some o) (hc : o.cls = .type n) (hd : o.data = .fields vs)
    (hn : ["enumerate", "zip", "dict_itemiterator", "dict_reverseitemiterator", "odict_iterator", "itertools.zip_longest", "itertools.pairwise"].contains n = false) (hQ : Q () s) : wpAny M A (letOwnedTupleGo tg (.ref it) u) Q E s := by
  unfold letOwnedTupleGo
  cases tg <;> first
    | exact wpAny_pure hQ
    | (cases u <;> first
        | exact wpAny_pure hQ
        | (refine wpAny_bind (wpAny_load ho ?_)
           rw [hc, hd]
           show wpAny M A (if (["enumerate", "zip", "dict_itemiterator", "dict_reverseitemiterator", "odict_iterator", "itertools.zip_longest", "itertools.pairwise"].contains n && vs[0]? == some (rawInt _)) = true then _ else _) Q E s
           rw [if_neg (by intro h; rw [hn, Bool.false_and] at h; cases h)]
           exact wpAny_pure hQ))

/-- the list at a, as it stands at each turn (a loop may append to it) -/
def Itl (K : PySem.W.Frag) (a : Addr) : It :=
  ⟨fun i H => ∃ xs x, SqL K H a xs ∧ xs[i]? = some x, fun i H x H' => H' = H ∧ ∀ xs, SqL K H a xs → xs[i]? = some x, fun i H => ∃ xs, SqL K H a xs ∧ xs.length ≤ i⟩
def Itt (K : PySem.W.Frag) (a : Addr) : It :=
  ⟨fun i H => ∃ xs x, SqT K H a xs ∧ xs[i]? = some x, fun i H x H' => H' = H ∧ ∀ xs, SqT K H a xs → xs[i]? = some x, fun i H => ∃ xs, SqT K H a xs ∧ xs.length ≤ i⟩
/-- lo, lo + 1, .. (n of them) -/
def Itr (lo : Int) (n : Nat) : It := ⟨fun i _ => i < n, fun i H x H' => H' = H ∧ x = .int (lo + i), fun i _ => n ≤ i⟩
theorem turn_list {P : Program} {w : World} {K : PySem.W.Frag} {tg : Expr} (a it : Addr) : Turn P w K tg (Itl K a) [it] it (fun i h => h.IsListIter it a i) where
  mem := by simp
  obj := fun i h st b hb => by
    have e : b = it := by simpa using hb
    subst e
    obtain ⟨o, e, c, d⟩ := st
    exact ⟨o, e, fun v z => by rw [d] at z; cases z⟩
  keep := fun i h h' st k => st.at fun o e => k it (by simp) o e
  item := by
    intro X hP hw hK hc i pins s σ H E I hf st hg
    subst hP hw hK
    obtain ⟨xs, x, hq, hx⟩ := hg
    obtain ⟨its, rv, p, hz⟩ := I.list hq
    obtain ⟨u, hu, ru⟩ := rv.get hx
    obtain ⟨f0, f1, f2, f3, f4, f5⟩ := hf it (by simp)
    refine wpAny_pyNext_list_item st p.isList (x := u) (by simpa using hu) fun h' st' sb => ?_
    have I1 : Inv X pins σ H { s with heap := h' } := I.turned (t' := s.toks) (fun b o hb e => (sb.2 b hb).trans e) f0 f1 f3 f4 f5
    obtain ⟨o, e, c, d⟩ := id st'
    exact ⟨u, rfl, go_of (s := { s with heap := h' }) e c d (by decide) ⟨x, H, I1, ru, ⟨rfl, fun ys hy => by rw [I.list_inj hy hq]; exact hx⟩, st', fun b hb => (hf b hb).1⟩⟩
  done := by
    intro X hP hw hK hc i pins s σ H E I hf st hg
    subst hP hw hK
    obtain ⟨xs, hq, hx⟩ := hg
    obtain ⟨its, rv, p, hz⟩ := I.list hq
    obtain ⟨f0, f1, f2, f3, f4, f5⟩ := hf it (by simp)
    have hl := rv.length
    exact wpAny_pyNext_list_end (I.ok.hd hc) st p.isList (by simp; omega) fun h' eb => ⟨rfl, I.turned (t' := s.toks) (fun b o hb e => eb b o hb e) f0 f1 f3 f4 f5⟩
  self := fun _ _ _ _ _ st h => wpAny_pyIter_listiter st h
theorem turn_range {P : Program} {w : World} {K : PySem.W.Frag} {tg : Expr} (it : Addr) (lo : Int) (n : Nat) : Turn P w K tg (Itr lo n) [it] it (fun i h => IsRangeIter h it (lo + (i : Nat) * 1) ((n : Int) - (i : Nat)) 1) where
  mem := by simp
  obj := fun i h st b hb => by
    have e : b = it := by simpa using hb
    subst e
    exact ⟨_, st, fun v z => by
      have z' : Data.fields _ = Data.cell v := z
      cases z'⟩
  keep := fun i h h' st k => k it (by simp) _ st
  item := by
    intro X hP hw hK hc i pins s σ H E I hf st hg
    subst hP hw hK
    obtain ⟨f0, f1, f2, f3, f4, f5⟩ := hf it (by simp)
    have W := Walks.range (prog := X.prog) (w := X.w) (I.ok.hd hc) it lo 1 n
    refine W.item i s _ _ hg st fun v h' tk hv st' kk => ?_
    obtain ⟨t, rfl⟩ := hv
    have I1 : Inv X pins σ H { s with heap := h', toks := tk } := I.turned (fun b o hb e => kk b o (by simpa using hb) e) f0 f1 f3 f4 f5
    refine ⟨_, rfl, go_of (s := { s with heap := h', toks := tk }) (n := "range_iterator") st' rfl rfl (by decide) ⟨.int (lo + i), H, I1, ⟨t, ?_⟩, ⟨rfl, rfl⟩, st', fun b hb => (hf b hb).1⟩⟩
    rw [Int.mul_one]
  done := by
    intro X hP hw hK hc i pins s σ H E I hf st hg
    subst hP hw hK
    obtain ⟨f0, f1, f2, f3, f4, f5⟩ := hf it (by simp)
    exact wpAny_pyNext_range_end (I.ok.hd hc) st (by have : n ≤ i := hg; omega) fun h' eb => ⟨rfl, I.turned (t' := s.toks) (fun b o hb e => eb b o hb e) f0 f1 f3 f4 f5⟩
  self := fun _ _ _ _ _ st h => wpAny_pyIter_rangeiter st h
end L2

namespace L2
open PySem PySem.Spec PyProof.Rows
section
variable {X : Cx} {tg : Expr}
def iList (K : PySem.W.Frag) (tl : TE) : TI := fun σ H R => tl σ H fun x H1 => ∃ a, x = .ref a ∧ (∃ xs, SqL K H1 a xs) ∧ R (Itl K a) H1
def iTup (K : PySem.W.Frag) (tl : TE) : TI := fun σ H R => tl σ H fun x H1 => ∃ a, x = .ref a ∧ (∃ xs, SqT K H1 a xs) ∧ R (Itt K a) H1
theorem pi_list {l : Expr} {tl : TE} (hl : PE X l tl) : PI X tg l (iList X.K tl) := by
  intro pins s σ H R I h
  refine thn (hl pins s σ H _ I h) fun v s1 ⟨x, H1, I1, r1, q1⟩ => ?_
  obtain ⟨a, e, ⟨xs, hq⟩, q⟩ := q1
  subst e
  cases r1
  obtain ⟨its, rv, p, hz⟩ := I1.list hq
  refine wpAny_pyIter_list p.isList ?_
  refine ⟨s1.heap.objs.size, [s1.heap.objs.size], _, _, H1, rfl, I1.kept (t' := s1.toks) fun b o e => Heap.get?_push_of_some _ e, turn_list a _, ⟨_, Heap.get?_push_size _ rfl, rfl, rfl⟩, fun b hb => ?_, q⟩
  have e : b = s1.heap.objs.size := by simpa using hb
  subst e
  exact I1.fpOk (Nat.le_refl _) (I1.hok.fresh (Nat.le_refl _))
/-- a range object just made, walked -/
theorem range_it {pins : List (Addr × Obj)} {σ : St} {H : Hp} {s : Shared} {R : It → Hp → Prop} {E : Value → Shared → Prop} {lo hi : Int} {t u v : Tok} {tk : Nat} (I : Inv X pins σ H s) (h1 : -(2 ^ 62) ≤ lo) (h2 : lo < 2 ^ 62) (h3 : -(2 ^ 62) ≤ hi) (h4 : hi < 2 ^ 62)
    (q : R (Itr lo (hi - lo).toNat) H) : wpAny (model X.prog X.w) X.A (pyIter (.ref s.heap.objs.size)) (PIE X pins σ tg R) E { s with heap := s.heap.push { cls := .type "range", data := .fields #[.int lo t, .int hi u, .int 1 v] }, toks := tk } := by
  refine wpAny_pyIter_range (IsRange.new ..) (small_one h1 h2 h3 h4) ?_
  have I1 : Inv X pins σ H { s with heap := s.heap.push { cls := .type "range", data := .fields #[.int lo t, .int hi u, .int 1 v] }, toks := tk } := I.kept fun b o e => Heap.get?_push_of_some _ e
  refine ⟨(s.heap.push { cls := .type "range", data := .fields #[.int lo t, .int hi u, .int 1 v] }).objs.size, [(s.heap.push { cls := .type "range", data := .fields #[.int lo t, .int hi u, .int 1 v] }).objs.size], _, _, H, rfl,
    I1.kept (t' := tk) fun b o e => Heap.get?_push_of_some _ e, turn_range _ lo (hi - lo).toNat, ?_, fun b hb => ?_, q⟩
  · have e1 : lo + ((0 : Nat) : Int) * 1 = lo := by simp
    have e2 : (((hi - lo).toNat : Nat) : Int) - ((0 : Nat) : Int) = Builtin.Range.rangeSize lo hi 1 := by rw [rangeSize_one]; split <;> omega
    show IsRangeIter _ _ (lo + ((0 : Nat) : Int) * 1) ((((hi - lo).toNat : Nat) : Int) - ((0 : Nat) : Int)) 1
    rw [e1, e2]
    exact Heap.get?_push_size _ rfl
  · have e : b = (s.heap.push { cls := .type "range", data := .fields #[.int lo t, .int hi u, .int 1 v] }).objs.size := by simpa using hb
    subst e
    exact I1.fpOk (Nat.le_refl _) (I1.hok.fresh (Nat.le_refl _))
def iRng1 (ta : TA) : TI := fun σ H R => ta σ H fun vs H1 => ∃ j : Int, vs = [.int j] ∧ -(2 ^ 62) ≤ j ∧ j < 2 ^ 62 ∧ R (Itr 0 j.toNat) H1
def iRng2 (ta : TA) : TI := fun σ H R => ta σ H fun vs H1 => ∃ i j : Int, vs = [.int i, .int j] ∧ (-(2 ^ 62) ≤ i ∧ i < 2 ^ 62 ∧ -(2 ^ 62) ≤ j ∧ j < 2 ^ 62) ∧ R (Itr i (j - i).toNat) H1
theorem pi_range1 {a : Expr} {ta : TA} {p pos : Pos} (hg : Gl X "range") (hm : X.mg "range" = none) (ha : PA X [a] ta) (hs : starEach [a] X.env = [(false, eval a X.env)] := by rfl) : PI X tg (.Call (.Name "range" p) [a] [] pos) (iRng1 ta) := by
  intro pins s σ H R I h
  refine Call_ (ld_blt I hg hm boot_range (PyProof.Rows.callWith_type1 (thn (ha pos pins s σ H _ I h) fun us s1 ⟨vs, H1, I1, r1, q1⟩ => ?_) hs rfl))
  obtain ⟨j, e, q1, q2, q⟩ := q1
  subst e
  cases r1 with
  | cons r rr =>
    cases rr
    obtain ⟨t, rfl⟩ := r
    exact call_range_1 (range_it I1 (by omega) (by omega) q1 q2 (by simpa using q))
theorem pi_range2 {a b : Expr} {ta : TA} {p pos : Pos} (hg : Gl X "range") (hm : X.mg "range" = none) (ha : PA X [a, b] ta) (hs : starEach [a, b] X.env = [(false, eval a X.env), (false, eval b X.env)] := by rfl) (hs2 : starEach [b] X.env = [(false, eval b X.env)] := by rfl) :
    PI X tg (.Call (.Name "range" p) [a, b] [] pos) (iRng2 ta) := by
  intro pins s σ H R I h
  refine Call_ (ld_blt I hg hm boot_range (PyProof.Rows.callWith_type1 (thn (ha pos pins s σ H _ I h) fun us s1 ⟨vs, H1, I1, r1, q1⟩ => ?_) (by rw [hs, hs2]) (by rw [hs2]; rfl)))
  obtain ⟨i, j, e, ⟨q1, q2, q3, q4⟩, q⟩ := q1
  subst e
  cases r1 with
  | cons r rr =>
    cases rr with
    | cons r' rr =>
      cases rr
      obtain ⟨t, rfl⟩ := r
      obtain ⟨t', rfl⟩ := r'
      exact call_range_2 (range_it I1 q1 q2 q3 q4 q)

/-! ### for -/
/-- W: the invariant by the turn and a measure; N: what the body is to reach -/
def tFor (wi : TI) (g : TG) (tb : TS) : TS := fun D σ H => wi σ H fun J H1 => ∃ W : Nat → Nat → St → Hp → Prop, (∃ m, W 0 m σ H1) ∧ ∀ i m σ H, W i m σ H →
  (J.stop i H ∧ D.nx σ H) ∨ (J.go i H ∧ ∃ N : St → Hp → Prop, (∀ σ' H', N σ' H' → ∃ m', m' < m ∧ W (i + 1) m' σ' H') ∧ ∀ x H', J.yld i H x H' → g x σ H' fun σ2 H2 => tb { D with nx := N, ct := N, bk := D.nx } σ2 H2)
/-- the records at fp as they stand -/
def pinsAt (fp : List Addr) (h : Heap) : List (Addr × Obj) := fp.filterMap fun b => (h.get? b).map fun o => (b, o)
theorem mem_pinsAt {fp : List Addr} {h : Heap} {b : Addr} {o : Obj} (hb : b ∈ fp) (e : h.get? b = some o) : (b, o) ∈ pinsAt fp h := List.mem_filterMap.mpr ⟨b, hb, by rw [e]; rfl⟩
theorem of_pinsAt {fp : List Addr} {h : Heap} {p : Addr × Obj} (hp : p ∈ pinsAt fp h) : p.1 ∈ fp ∧ h.get? p.1 = some p.2 := by
  obtain ⟨b, hb, e⟩ := List.mem_filterMap.mp hp
  cases q : h.get? b with
  | none => rw [q] at e; cases e
  | some o =>
    rw [q] at e
    have e' : (b, o) = p := Option.some.inj e
    subst e'
    exact ⟨hb, q⟩
theorem Inv.pinned {pins : List (Addr × Obj)} {σ : St} {H : Hp} {s : Shared} {fp : List Addr} (I : Inv X pins σ H s) (hf : ∀ b ∈ fp, FpOk X pins H b) (ho : ∀ b ∈ fp, ∃ o, s.heap.get? b = some o ∧ ∀ v, o.data ≠ .cell v) : Inv X (pins ++ pinsAt fp s.heap) σ H s :=
  I.pins_of fun p hp => (List.mem_append.mp hp).elim (fun z => I.pin p (List.mem_append_right _ z)) fun z => by
    obtain ⟨hb, e⟩ := of_pinsAt z
    obtain ⟨f0, f1, f2, _⟩ := hf p.1 hb
    obtain ⟨o, e', d⟩ := ho p.1 hb
    rw [e] at e'; cases e'
    exact ⟨e, f0, f1, f2, d⟩
theorem Inv.unpinned {pins pl : List (Addr × Obj)} {σ : St} {H : Hp} {s : Shared} (I : Inv X (pins ++ pl) σ H s) : Inv X pins σ H s := I.pins_of fun p hp => I.pin p (List.mem_append_right _ (List.mem_append_left _ hp))
theorem ps_for {iter : Expr} {body : List Stmt} {wi : TI} {g : TG} {tb : TS} {pos : Pos} (hp : PassesOwn (model X.prog X.w) X.A X.env X.xe) (hc : X.calm = true) (hi : PI X tg iter wi) (hg : PG X tg g) (hb : PSs X body tb)
    (hs : ∀ x, foldedSetIterable iter X.env x = pure x := by intro _; rfl) : PS X (.For tg iter body [] pos) (tFor wi g tb) := by
  intro pins s σ H D I h
  refine wpAny_For (thn (hi pins s σ H _ I h) fun v s1 h1 => thn h1 fun itv s2 h2 => ?_) hs
  obtain ⟨it, fp, tn, J, H2, e, I2, T, st2, f2, W, ⟨m0, w0⟩, turn⟩ := h2
  subst e
  -- what stays true of the iterator's objects through the loop
  have stat : ∀ {H' : Hp}, (∀ b ∈ fp, H' b = none) → ∀ b ∈ fp, FpOk X pins H' b := fun hn b hb => ⟨hn b hb, (f2 b hb).2⟩
  refine codeAny_forLoop_any (fun n s' => ∃ i σ' H', Inv X pins σ' H' s' ∧ tn i s'.heap ∧ (∀ b ∈ fp, H' b = none) ∧ W i n σ' H') ?_ m0 ⟨0, σ, H2, I2, st2, fun b hb => (f2 b hb).1, w0⟩
  rintro n s3 ⟨i, σ3, H3, I3, st3, fr3, w3⟩
  rcases turn i n σ3 H3 w3 with ⟨stop, qn⟩ | ⟨go, N, hN, step⟩
  · refine wpAny_passesOwn hp (thn (T.done X rfl rfl rfl hc i pins s3 σ3 H3 X.xe I3 (stat fr3) st3 stop) fun r s4 ⟨hr, I4⟩ => ?_)
    subst hr
    exact wpAny_execs_nil ⟨σ3, H3, I4, qn⟩
  · refine wpAny_passesOwn hp (thn (T.item X rfl rfl rfl hc i pins s3 σ3 H3 X.xe I3 (stat fr3) st3 go) fun r s4 ⟨u, hr, h4⟩ => ?_)
    subst hr
    refine wpAny_passesOwn hp (thn h4 fun _ s5 ⟨x, H5, I5, r5, y5, st5, fr5⟩ => ?_)
    have I5' := I5.pinned (stat fr5) (T.obj _ _ st5)
    refine wpAny_passesOwn hp (thn (hg _ s5 σ3 H5 x u _ I5' r5 (step x H5 y5)) fun _ s6 ⟨σ6, H6, I6, q6⟩ => ?_)
    refine wpAny_passesOwn hp (thn (hb _ s6 σ6 H6 _ I6 q6) fun f s7 q7 => ?_)
    have again : ∀ {σ7 : St} {H7 : Hp}, Inv X (pins ++ pinsAt fp s5.heap) σ7 H7 s7 → N σ7 H7 → ∃ m, m < n ∧ ∃ i σ' H', Inv X pins σ' H' s7 ∧ tn i s7.heap ∧ (∀ b ∈ fp, H' b = none) ∧ W i m σ' H' := fun {σ7 H7} I7 n7 => by
      obtain ⟨m', hm, w7⟩ := hN σ7 H7 n7
      refine ⟨m', hm, i + 1, σ7, H7, I7.unpinned, T.keep _ _ _ st5 fun b hb o e => (I7.pin (b, o) (List.mem_append_right _ (List.mem_append_right _ (mem_pinsAt hb e)))).1, fun b hb => ?_, w7⟩
      obtain ⟨o, e, d⟩ := T.obj _ _ st5 b hb
      exact (I7.pin (b, o) (List.mem_append_right _ (List.mem_append_right _ (mem_pinsAt hb e)))).2.1
    cases f with
    | next => obtain ⟨σ7, H7, I7, n7⟩ := q7; exact again I7 n7
    | cont => obtain ⟨σ7, H7, I7, n7⟩ := q7; exact again I7 n7
    | brk => obtain ⟨σ7, H7, I7, q7⟩ := q7; exact ⟨σ7, H7, I7.unpinned, q7⟩
    | ret v => obtain ⟨x7, σ7, H7, I7, r7, q7⟩ := q7; exact ⟨x7, σ7, H7, I7.unpinned, r7, q7⟩
end

/-! ### the forms one uses -/
/-- over a list that the body leaves as it is -/
theorem for_list {K : PySem.W.Frag} {a : Addr} {xs : List V} {g : TG} {tb : TS} {D : Ends} {σ : St} {H : Hp} (Pv : Nat → St → Hp → Prop) (h0 : Pv 0 σ H) (hl : ∀ i σ H, i ≤ xs.length → Pv i σ H → SqL K H a xs)
    (hs : ∀ i x σ H, xs[i]? = some x → Pv i σ H → g x σ H fun σ2 H2 => tb { D with nx := Pv (i + 1), ct := Pv (i + 1), bk := D.nx } σ2 H2) (hd : ∀ σ H, Pv xs.length σ H → D.nx σ H) :
    ∃ W : Nat → Nat → St → Hp → Prop, (∃ m, W 0 m σ H) ∧ ∀ i m σ H, W i m σ H →
      ((Itl K a).stop i H ∧ D.nx σ H) ∨ ((Itl K a).go i H ∧ ∃ N : St → Hp → Prop, (∀ σ' H', N σ' H' → ∃ m', m' < m ∧ W (i + 1) m' σ' H') ∧ ∀ x H', (Itl K a).yld i H x H' → g x σ H' fun σ2 H2 => tb { D with nx := N, ct := N, bk := D.nx } σ2 H2) := by
  refine ⟨fun i m σ H => m = xs.length - i ∧ i ≤ xs.length ∧ Pv i σ H, ⟨xs.length, by simp, Nat.zero_le _, h0⟩, ?_⟩
  rintro i m σ H ⟨rfl, hi, p⟩
  have q := hl i σ H hi p
  by_cases hlt : i < xs.length
  · refine .inr ⟨⟨xs, xs[i], q, by simp [hlt]⟩, Pv (i + 1), fun σ' H' p' => ⟨xs.length - (i + 1), by omega, rfl, hlt, p'⟩, fun x H' y => ?_⟩
    obtain ⟨e, y⟩ := y
    subst e
    exact hs i x σ _ (y xs q) p
  · have e : i = xs.length := by omega
    subst e
    exact .inl ⟨⟨xs, q, Nat.le_refl _⟩, hd σ H p⟩
theorem for_range {lo : Int} {n : Nat} {g : TG} {tb : TS} {D : Ends} {σ : St} {H : Hp} (Pv : Nat → St → Hp → Prop) (h0 : Pv 0 σ H)
    (hs : ∀ i σ H, i < n → Pv i σ H → g (.int (lo + i)) σ H fun σ2 H2 => tb { D with nx := Pv (i + 1), ct := Pv (i + 1), bk := D.nx } σ2 H2) (hd : ∀ σ H, Pv n σ H → D.nx σ H) :
    ∃ W : Nat → Nat → St → Hp → Prop, (∃ m, W 0 m σ H) ∧ ∀ i m σ H, W i m σ H →
      ((Itr lo n).stop i H ∧ D.nx σ H) ∨ ((Itr lo n).go i H ∧ ∃ N : St → Hp → Prop, (∀ σ' H', N σ' H' → ∃ m', m' < m ∧ W (i + 1) m' σ' H') ∧ ∀ x H', (Itr lo n).yld i H x H' → g x σ H' fun σ2 H2 => tb { D with nx := N, ct := N, bk := D.nx } σ2 H2) := by
  refine ⟨fun i m σ H => m = n - i ∧ i ≤ n ∧ Pv i σ H, ⟨n, by simp, Nat.zero_le _, h0⟩, ?_⟩
  rintro i m σ H ⟨rfl, hi, p⟩
  by_cases hlt : i < n
  · refine .inr ⟨hlt, Pv (i + 1), fun σ' H' p' => ⟨n - (i + 1), by omega, rfl, hlt, p'⟩, fun x H' y => ?_⟩
    obtain ⟨e, y⟩ := y
    subst e y
    exact hs i σ _ hlt p
  · have e : i = n := by omega
    subst e
    exact .inl ⟨Nat.le_refl _, hd σ H p⟩
end L2

namespace L2
open PySem PySem.Spec PyProof.Rows

abbrev R2 := V → V → Hp → VK → Prop
/-- a two-place operation on values: f is binaryOp op, inplaceOp op or compareOp op -/
def OpR (X : Cx) (f : Value → Value → Sem Value) (r : R2) : Prop :=
  ∀ (pins : List (Addr × Obj)) (s : Shared) (σ : St) (H : Hp) (x y : V) (v u : Value) (Q : VK), Inv X pins σ H s → RelV x v → RelV y u → r x y H Q →
    wpAny (model X.prog X.w) X.A (f v u) (EP X pins σ Q) X.xe s
/-- a one-place operation -/
def UnR (X : Cx) (f : Value → Sem Value) (r : V → Hp → VK → Prop) : Prop :=
  ∀ (pins : List (Addr × Obj)) (s : Shared) (σ : St) (H : Hp) (x : V) (v : Value) (Q : VK), Inv X pins σ H s → RelV x v → r x H Q →
    wpAny (model X.prog X.w) X.A (f v) (EP X pins σ Q) X.xe s
/-- a call of a value that is known (a builtin, a type) with values -/
def CallR (X : Cx) (f : Value) (r : List V → Hp → VK → Prop) : Prop :=
  ∀ (pins : List (Addr × Obj)) (s : Shared) (σ : St) (H : Hp) (xs : List V) (us : List Value) (Q : VK), Inv X pins σ H s → Vals xs us → r xs H Q →
    wpAny (model X.prog X.w) X.A (call f us) (EP X pins σ Q) X.xe s
def tOp (r : R2) (ta tb : TE) : TE := fun σ H Q => ta σ H fun x H1 => tb σ H1 fun y H2 => r x y H2 Q
def tUn (r : V → Hp → VK → Prop) (ta : TE) : TE := fun σ H Q => ta σ H fun x H1 => r x H1 Q
/-- ints in, under C, and a value out -/
def rI (C : Int → Int → Prop) (g : Int → Int → V) : R2 := fun x y H Q => ∃ i j, x = .int i ∧ y = .int j ∧ C i j ∧ Q (g i j) H
def rI0 (g : Int → Int → V) : R2 := fun x y H Q => ∃ i j, x = .int i ∧ y = .int j ∧ Q (g i j) H
def rU (g : Int → V) : V → Hp → VK → Prop := fun x H Q => ∃ i, x = .int i ∧ Q (g i) H

section
variable {X : Cx} {a b c : Expr} {ta tb tc : TE} {pos : Pos}

theorem binT (ha : PE X a ta) (hb : PE X b tb) {pins : List (Addr × Obj)} {s : Shared} {σ : St} {H : Hp} {R : V → V → Hp → Prop} (I : Inv X pins σ H s)
    (h : ta σ H fun x H1 => tb σ H1 fun y H2 => R x y H2) {Q : Value → Shared → Prop} {f : Value → Value → Sem Value}
    (hf : ∀ v u s2 x y H2, Inv X pins σ H2 s2 → RelV x v → RelV y u → R x y H2 → wpAny (model X.prog X.w) X.A (f v u) Q X.xe s2) :
    wpAny (model X.prog X.w) X.A (eval a X.env) (fun v s₁ => wpAny (model X.prog X.w) X.A (eval b X.env) (fun u s₂ => wpAny (model X.prog X.w) X.A (f v u) Q X.xe s₂) X.xe s₁) X.xe s := by
  refine thn (ha pins s σ H _ I h) fun v s1 ⟨x, H1, I1, r1, q1⟩ => ?_
  refine thn (hb pins s1 σ H1 _ I1 q1) fun u s2 ⟨y, H2, I2, r2, q2⟩ => ?_
  exact hf v u s2 x y H2 I2 r1 r2 q2

theorem pe_op {op : Operator} {r : R2} (ho : OpR X (binaryOp op) r) (ha : PE X a ta) (hb : PE X b tb) : PE X (.BinOp a op b pos) (tOp r ta tb) := by
  intro pins s σ H Q I h
  exact wpAny_BinOp (binT ha hb I h fun v u s2 x y H2 I2 rx ry q => ho pins s2 σ H2 x y v u Q I2 rx ry q)
theorem pe_un {op : UnaryOp} {r : V → Hp → VK → Prop} (ho : UnR X (unaryOp op) r) (ha : PE X a ta) : PE X (.UnaryOp op a pos) (tUn r ta) := by
  intro pins s σ H Q I h
  exact UnaryOp_ (thn (ha pins s σ H _ I h) fun v s1 ⟨x, H1, I1, r1, q1⟩ => ho pins s1 σ H1 x v Q I1 r1 q1)
/-! ### ints -/
theorem opI {f : Value → Value → Sem Value} {C : Int → Int → Prop} {g : Int → Int → Int}
    (rule : ∀ (i j : Int) (t u : Tok) (s : Shared) (Q : Value → Shared → Prop) (E : Value → Shared → Prop), C i j → Q (.int (g i j) s.toks) { s with toks := s.toks + 1 } → wpAny (model X.prog X.w) X.A (f (.int i t) (.int j u)) Q E s) :
    OpR X f (rI C fun i j => .int (g i j)) := by
  intro pins s σ H x y v u Q I rx ry h
  obtain ⟨i, j, rfl, rfl, hc, q⟩ := h
  obtain ⟨t, rfl⟩ := rx
  obtain ⟨t', rfl⟩ := ry
  exact rule i j t t' s _ _ hc ⟨.int (g i j), H, I.tok _, ⟨_, rfl⟩, q⟩
theorem opI0 {f : Value → Value → Sem Value} {g : Int → Int → Int}
    (rule : ∀ (i j : Int) (t u : Tok) (s : Shared) (Q : Value → Shared → Prop) (E : Value → Shared → Prop), Q (.int (g i j) s.toks) { s with toks := s.toks + 1 } → wpAny (model X.prog X.w) X.A (f (.int i t) (.int j u)) Q E s) :
    OpR X f (rI0 fun i j => .int (g i j)) := by
  intro pins s σ H x y v u Q I rx ry h
  obtain ⟨i, j, rfl, rfl, q⟩ := h
  obtain ⟨t, rfl⟩ := rx
  obtain ⟨t', rfl⟩ := ry
  exact rule i j t t' s _ _ ⟨.int (g i j), H, I.tok _, ⟨_, rfl⟩, q⟩
theorem opB0 {f : Value → Value → Sem Value} {g : Int → Int → Bool}
    (rule : ∀ (i j : Int) (t u : Tok) (s : Shared) (Q : Value → Shared → Prop) (E : Value → Shared → Prop), Q (.bool (g i j)) s → wpAny (model X.prog X.w) X.A (f (.int i t) (.int j u)) Q E s) :
    OpR X f (rI0 fun i j => .bl (g i j)) := by
  intro pins s σ H x y v u Q I rx ry h
  obtain ⟨i, j, rfl, rfl, q⟩ := h
  obtain ⟨t, rfl⟩ := rx
  obtain ⟨t', rfl⟩ := ry
  exact rule i j t t' s _ _ ⟨.bl (g i j), H, I, rfl, q⟩

def CDiv (i j : Int) : Prop := 0 < j ∧ j < 1073741824
def CPow (i j : Int) : Prop := 0 ≤ j ∧ j ≤ 1000000 ∧ i.natAbs < 2 ^ 64
def CMul (i j : Int) : Prop := (-(2 ^ 64) < i ∧ i < 2 ^ 64) ∨ (-(2 ^ 64) < j ∧ j < 2 ^ 64)
theorem CMul.ok {i j : Int} (h : CMul i j) : IntMulOk i j := by
  rcases h with ⟨h1, h2⟩ | ⟨h1, h2⟩
  · exact .of_left (intBits_le_64 h1 h2)
  · exact .of_right (intBits_le_64 h1 h2)
theorem op_add : OpR X (binaryOp .Add) (rI0 fun i j => .int (i + j)) := opI0 fun _ _ _ _ _ _ _ q => add_int q
theorem op_sub : OpR X (binaryOp .Sub) (rI0 fun i j => .int (i - j)) := opI0 fun _ _ _ _ _ _ _ q => sub_int q
theorem op_mul : OpR X (binaryOp .Mult) (rI CMul fun i j => .int (i * j)) := opI fun _ _ _ _ _ _ _ hc q => mul_int q hc.ok
/-- // by a positive divisor -/
theorem op_fdiv : OpR X (binaryOp .FloorDiv) (rI CDiv fun i j => .int (i / j)) := opI fun i j _ _ _ _ _ hc q => by
  have h1 : (0 : Int) < j := hc.1
  have h2 : j < 1073741824 := hc.2
  exact floordiv_int (by omega) (by rw [Int.fdiv_eq_ediv_of_nonneg i (by omega)]; exact q) (.inl (PyProof.noPylong_small (by omega)))
/-- % by a positive divisor of any size -/
theorem op_mod : OpR X (binaryOp .Mod) (rI (fun _ j => 0 < j) fun i j => .int (i % j)) := opI fun i j _ _ _ _ _ hc q => by
  have h1 : (0 : Int) < j := hc
  exact mod_int' (by omega) (by rw [Int.fmod_eq_emod_of_nonneg i (by omega)]; exact q)
theorem op_pow : OpR X (binaryOp .Pow) (rI CPow fun i j => .int (i ^ j.toNat)) := opI fun _ _ _ _ _ _ _ hc q => pow_int_small hc.1 hc.2.1 hc.2.2 q
theorem unI {f : Value → Sem Value} {g : Int → Int}
    (rule : ∀ (i : Int) (t : Tok) (s : Shared) (Q : Value → Shared → Prop) (E : Value → Shared → Prop), Q (.int (g i) s.toks) { s with toks := s.toks + 1 } → wpAny (model X.prog X.w) X.A (f (.int i t)) Q E s) :
    UnR X f (rU fun i => .int (g i)) := by
  intro pins s σ H x v Q I rx h
  obtain ⟨i, rfl, q⟩ := h
  obtain ⟨t, rfl⟩ := rx
  exact rule i t s _ _ ⟨.int (g i), H, I.tok _, ⟨_, rfl⟩, q⟩
theorem un_neg : UnR X (unaryOp .USub) (rU fun i => .int (-i)) := unI fun _ _ _ _ _ q => neg_int q
/-! ### bools among ints: n += (a < b) -/
end

/-! ### comparisons -/
/-- the scalars that == tells apart as data does -/
def scal : V → V → Bool
  | .non, .non => true | .non, .int _ => true | .int _, .non => true | .non, .bl _ => true | .bl _, .non => true | .non, .str _ => true | .str _, .non => true
  | .int _, .int _ => true | .bl _, .bl _ => true | .str _, .str _ => true | .byt _, .byt _ => true
  | .int _, .str _ => true | .str _, .int _ => true | .bl _, .str _ => true | .str _, .bl _ => true
  | _, _ => false
def rEq : R2 := fun x y H Q => scal x y = true ∧ Q (.bl (decide (x = y))) H
def rNe : R2 := fun x y H Q => scal x y = true ∧ Q (.bl (!decide (x = y))) H

theorem dec_int {i j : Int} : decide (V.int i = V.int j) = (i == j) := by
  rw [Bool.eq_iff_iff]
  simp
theorem dec_bl {i j : Bool} : decide (V.bl i = V.bl j) = (i == j) := by
  rw [Bool.eq_iff_iff]
  simp
theorem dec_str {i j : Str} : decide (V.str i = V.str j) = (i == j) := by
  rw [Bool.eq_iff_iff]
  simp
theorem dec_byt {i j : Array UInt8} : decide (V.byt i = V.byt j) = (i.toList == j.toList) := by
  rw [Bool.eq_iff_iff]
  cases i
  cases j
  simp

section
variable {X : Cx} {a b c : Expr} {ta tb tc : TE} {pos : Pos}
theorem fin_bl {pins : List (Addr × Obj)} {σ : St} {H : Hp} {s : Shared} {Q : VK} {k k' : Bool} (I : Inv X pins σ H s) (q : Q (.bl k) H) (e : k = k') : EP X pins σ Q (.bool k') s := by
  subst e
  exact ⟨.bl k, H, I, rfl, q⟩
theorem op_eq : OpR X (compareOp .Eq) rEq := by
  intro pins s σ H x y v u Q I rx ry h
  obtain ⟨hs, q⟩ := h
  cases x with
  | non =>
    cases rx
    cases y with
    | non => cases ry; exact PySem.EqNone.eq_none_none (fin_bl I q (by simp))
    | bl j => cases ry; exact PySem.EqNone.eq_none_bool (fin_bl I q (by simp))
    | int j => obtain ⟨t', rfl⟩ := ry; exact PySem.EqNone.eq_none_int (fin_bl I q (by simp))
    | str j => obtain ⟨t', rfl⟩ := ry; exact PySem.EqNone.eq_none_str (fin_bl I q (by simp))
    | _ => exact absurd (show false = true from hs) Bool.false_ne_true
  | bl i =>
    cases rx
    cases y with
    | non => cases ry; exact PySem.EqNone.eq_bool_none (fin_bl I q (by simp))
    | bl j => cases ry; exact eq_bool (fin_bl I q dec_bl)
    | str j => obtain ⟨t', rfl⟩ := ry; exact PySem.EqMixed.eq_bool_str (fin_bl I q (by simp))
    | _ => exact absurd (show false = true from hs) Bool.false_ne_true
  | int i =>
    obtain ⟨t, rfl⟩ := rx
    cases y with
    | non => cases ry; exact PySem.EqNone.eq_int_none (fin_bl I q (by simp))
    | int j => obtain ⟨t', rfl⟩ := ry; exact eq_int (fin_bl I q dec_int)
    | str j => obtain ⟨t', rfl⟩ := ry; exact PySem.EqMixed.eq_int_str (fin_bl I q (by simp))
    | _ => exact absurd (show false = true from hs) Bool.false_ne_true
  | str i =>
    obtain ⟨t, rfl⟩ := rx
    cases y with
    | non => cases ry; exact PySem.EqNone.eq_str_none (fin_bl I q (by simp))
    | bl j => cases ry; exact PySem.EqMixed.eq_str_bool (fin_bl I q (by simp))
    | int j => obtain ⟨t', rfl⟩ := ry; exact PySem.EqMixed.eq_str_int (fin_bl I q (by simp))
    | str j => obtain ⟨t', rfl⟩ := ry; exact eq_str (fin_bl I q dec_str)
    | _ => exact absurd (show false = true from hs) Bool.false_ne_true
  | byt i =>
    obtain ⟨t, rfl⟩ := rx
    cases y with
    | byt j => obtain ⟨t', rfl⟩ := ry; exact PySem.W.eq_bytes (fin_bl I q dec_byt)
    | _ => exact absurd (show false = true from hs) Bool.false_ne_true
  | _ => cases y <;> exact absurd (show false = true from hs) Bool.false_ne_true
theorem op_ne : OpR X (compareOp .NotEq) rNe := by
  intro pins s σ H x y v u Q I rx ry h
  obtain ⟨hs, q⟩ := h
  cases x with
  | non =>
    cases rx
    cases y with
    | non => cases ry; exact PySem.EqNone.ne_none_none (fin_bl I q (by simp))
    | bl j => cases ry; exact PySem.EqNone.ne_none_bool (fin_bl I q (by simp))
    | int j => obtain ⟨t', rfl⟩ := ry; exact PySem.EqNone.ne_none_int (fin_bl I q (by simp))
    | str j => obtain ⟨t', rfl⟩ := ry; exact PySem.EqNone.ne_none_str (fin_bl I q (by simp))
    | _ => exact absurd (show false = true from hs) Bool.false_ne_true
  | bl i =>
    cases rx
    cases y with
    | non => cases ry; exact PySem.EqNone.ne_bool_none (fin_bl I q (by simp))
    | bl j => cases ry; exact ne_bool (fin_bl I q (congrArg not dec_bl))
    | str j => obtain ⟨t', rfl⟩ := ry; exact PySem.EqMixed.ne_bool_str (fin_bl I q (by simp))
    | _ => exact absurd (show false = true from hs) Bool.false_ne_true
  | int i =>
    obtain ⟨t, rfl⟩ := rx
    cases y with
    | non => cases ry; exact PySem.EqNone.ne_int_none (fin_bl I q (by simp))
    | int j => obtain ⟨t', rfl⟩ := ry; exact ne_int (fin_bl I q (congrArg not dec_int))
    | str j => obtain ⟨t', rfl⟩ := ry; exact PySem.EqMixed.ne_int_str (fin_bl I q (by simp))
    | _ => exact absurd (show false = true from hs) Bool.false_ne_true
  | str i =>
    obtain ⟨t, rfl⟩ := rx
    cases y with
    | non => cases ry; exact PySem.EqNone.ne_str_none (fin_bl I q (by simp))
    | bl j => cases ry; exact PySem.EqMixed.ne_str_bool (fin_bl I q (by simp))
    | int j => obtain ⟨t', rfl⟩ := ry; exact PySem.EqMixed.ne_str_int (fin_bl I q (by simp))
    | str j => obtain ⟨t', rfl⟩ := ry; exact ne_str (fin_bl I q (congrArg not dec_str))
    | _ => exact absurd (show false = true from hs) Bool.false_ne_true
  | byt i =>
    obtain ⟨t, rfl⟩ := rx
    cases y with
    | byt j => obtain ⟨t', rfl⟩ := ry; exact PySem.W.ne_bytes (fin_bl I q (congrArg not dec_byt))
    | _ => exact absurd (show false = true from hs) Bool.false_ne_true
  | _ => cases y <;> exact absurd (show false = true from hs) Bool.false_ne_true

theorem op_lt : OpR X (compareOp .Lt) (rI0 fun i j => .bl (decide (i < j))) := opB0 fun _ _ _ _ _ _ _ q => lt_int q
theorem op_gt : OpR X (compareOp .Gt) (rI0 fun i j => .bl (decide (j < i))) := opB0 fun _ _ _ _ _ _ _ q => gt_int q
theorem op_ge : OpR X (compareOp .GtE) (rI0 fun i j => .bl (decide (j ≤ i))) := opB0 fun _ _ _ _ _ _ _ q => ge_int q
/-- is None, is not None: the right side a value none -/
theorem op_isN : OpR X (compareOp .Is) (fun x y H Q => y = .non ∧ Q (.bl (decide (x = .non))) H) := by
  intro pins s σ H x y v u Q I rx ry h
  obtain ⟨rfl, q⟩ := h
  cases ry
  refine is_none_gen (fin_bl I q ?_)
  cases x <;> first
    | (cases rx; rfl)
    | (obtain ⟨t, rfl⟩ := rx; rfl)
theorem nomark (b : Expr) {op : CmpOp} (h : op ≠ .In := by decide) (h2 : op ≠ .NotIn := by decide) : behindInMarks op b = false := by
  have e1 : (op == CmpOp.In) = false := by cases op <;> first | rfl | exact absurd rfl h
  have e2 : (op == CmpOp.NotIn) = false := by cases op <;> first | rfl | exact absurd rfl h2
  cases b <;> simp [behindInMarks, e1, e2]
/-- a comparison as a value; hm: nomark b, or (for in, not in) by with_unfolding_all rfl -/
theorem pe_cmpR {op : CmpOp} {r : R2} (ho : OpR X (compareOp op) r) (ha : PE X a ta) (hb : PE X b tb) (hm : behindInMarks op b = false) : PE X (.Compare a [op] [b] pos) (tOp r ta tb) := by
  intro pins s σ H Q I h
  exact wpAny_Compare1 (binT ha hb I h fun v u s2 x y H2 I2 rx ry q => ho pins s2 σ H2 x y v u Q I2 rx ry q) hm
/-- a reading of a value as a test -/
def tTest (t : TE) : TT := fun σ H Q => t σ H fun x H' => ∃ k, x = .bl k ∧ Q k H'
theorem pt_cmpR {op : CmpOp} {r : R2} (ho : OpR X (compareOp op) r) (ha : PE X a ta) (hb : PE X b tb) (hm : behindInMarks op b = false) : PT X (.Compare a [op] [b] pos) (tTest (tOp r ta tb)) := by
  intro pins s σ H Q I h
  refine wpAny_isTrue_Compare1 (thn (ha pins s σ H _ I h) fun v s1 ⟨x, H1, I1, r1, q1⟩ => thn (hb pins s1 σ H1 _ I1 q1) fun u s2 ⟨y, H2, I2, r2, q2⟩ =>
    thn (ho pins s2 σ H2 x y v u _ I2 r1 r2 q2) fun c s3 ⟨z, H3, I3, r3, k, e, q3⟩ => ?_) hm
  subst e
  cases r3
  exact wpAny_truthy_bool ⟨H3, I3, q3⟩
/-- a op1 b op2 c -/
def tChain (r r' : R2) (ta tb tc : TE) : TE := fun σ H Q => ta σ H fun x H1 => tb σ H1 fun y H2 => r x y H2 fun z H3 => ∃ k, z = .bl k ∧
  (if k = true then tc σ H3 fun w' H4 => r' y w' H4 Q else Q (.bl false) H3)
/-! ### truth -/
theorem line63 : (sizeLine : Nat) < 2 ^ 63 := by rw [sizeLine_eq]; decide
/-! ### strs and bytes -/
/-! ### scalar builtins, by CallR -/
theorem vals1 {x : V} {us : List Value} (r : Vals [x] us) : ∃ u, us = [u] ∧ RelV x u := by
  cases r with
  | cons r1 r2 => cases r2; exact ⟨_, rfl, r1⟩
theorem vals2 {x y : V} {us : List Value} (r : Vals [x, y] us) : ∃ u w', us = [u, w'] ∧ RelV x u ∧ RelV y w' := by
  cases r with
  | cons r1 r2 =>
    cases r2 with
    | cons r3 r4 => cases r4; exact ⟨_, _, rfl, r1, r3⟩
theorem call_abs : CallR X (.builtin "abs") (fun xs H Q => ∃ i, xs = [.int i] ∧ Q (.int (if i < 0 then -i else i)) H) := by
  intro pins s σ H xs us Q I r h
  obtain ⟨i, rfl, q⟩ := h
  obtain ⟨u, rfl, t, rfl⟩ := vals1 r
  exact call_abs_int fun u tk => ⟨.int (if i < 0 then -i else i), H, I.tok _, ⟨_, rfl⟩, q⟩
theorem call_max2 (hc : X.calm = true) : CallR X (.builtin "max") (fun xs H Q => ∃ i j, xs = [.int i, .int j] ∧ Q (.int (if j > i then j else i)) H) := by
  intro pins s σ H xs us Q I r h
  obtain ⟨i, j, rfl, q⟩ := h
  obtain ⟨u, w', rfl, ⟨t, rfl⟩, ⟨t', rfl⟩⟩ := vals2 r
  refine max_two_ints (I.ok.hd hc) fun h' tk k => ⟨_, H, I.kept k, ?_, q⟩
  by_cases hj : j > i
  · rw [if_pos hj, if_pos hj]; exact ⟨_, rfl⟩
  · rw [if_neg hj, if_neg hj]; exact ⟨_, rfl⟩
end
end L2

namespace L2
open PySem PySem.Spec PyProof.Rows

/-! ### an instance, its attributes a map -/
structure ObjM (h : Heap) (x dx C : Addr) (mA : Str → Option Value) : Prop where
  obj : h.get? x = some (PySem.W.instObj C dx)
  ns : h.Ns1 dx mA
  ne : dx ≠ x

theorem lookIn_ns {h : Heap} {dx : Addr} {mA : Str → Option Value} (n : h.Ns1 dx mA) : ∃ od, h.get? dx = some od ∧ ∀ name, PySem.W.lookIn name od = some (mA name) := by
  obtain ⟨o, es, ep, ho, hd, hk, _, hm⟩ := n
  refine ⟨o, ho, fun name => ?_⟩
  have e := hm name
  unfold nsFind findBy at e
  rw [← Array.find?_toList] at e
  unfold PySem.W.lookIn
  rw [hd]
  dsimp only
  split
  · rename_i y q
    rw [q] at e
    exact congrArg some e
  · rename_i q
    rw [q] at e
    have a : es.toList.any (·.refKey) = false := by
      rw [List.any_eq_false]
      intro y hy
      obtain ⟨z, t, hkey⟩ := hk y (Array.mem_toList_iff.mp hy)
      simp [DictEntry.refKey, hkey]
    have a' : ¬ es.toList.any (·.refKey) = true := by rw [a]; exact Bool.false_ne_true
    rw [if_neg a']
    exact congrArg some e

theorem ObjM.look {h : Heap} {x dx C : Addr} {mA : Str → Option Value} (I : ObjM h x dx C mA) : ∃ od, PySem.W.InstAt h x (PySem.W.instObj C dx) C (some od) ∧ ∀ name, PySem.W.lookIn name od = some (mA name) :=
  let ⟨od, ho, hl⟩ := lookIn_ns I.ns
  ⟨od, ⟨I.obj, rfl, rfl, ho⟩, hl⟩

section
variable {prog : Program} {w : World} {A : Around} {E : Value → Shared → Prop} {s : Shared} {K : PySem.W.Frag} {x dx C f : Addr} {mA : Str → Option Value} {name : Str} {v : Value}

end

/-! ### the attributes as a list of pairs -/
section
variable {P : Program} {w : World} {H H' : Hp} {h h' : Heap} {a C dx : Addr} {fs fs' : List (Str × V)}
theorem ins_get (hok : HOk P w H h) (e : H a = some (.ins C dx fs)) : ∃ mA, ObjM h a dx C mA ∧ (∀ f, RelO (fs.lookup f) (mA f)) ∧ PySem.Within mA (fs.map (·.1)) ∧ fs.length ≤ 1000 ∧ H dx = some (.own a) := by
  obtain ⟨d, z, ne, ob, mA, n, r, q⟩ := (show ObjOk P w H h a (.ins C dx fs) from hok a _ e)
  exact ⟨mA, ⟨ob, n, ne⟩, r, q, z, d⟩
end

/-! ### what of the text a class must have -/
structure Cls (K : PySem.W.Frag) (C : Addr) : Prop where
  pg : PySem.W.plainGet K C Str.empty = true
  hd : PySem.W.hasDictIn K C = true
  po : PySem.W.plainOver K C = true
  sa : PySem.W.findIn K (.ref C) "__setattr__" = some (some (.builtin "object.__setattr__"))
theorem Cls.get {K : PySem.W.Frag} {C : Addr} (c : Cls K C) (f : Str) : PySem.W.plainGet K C f = true := c.pg
section
variable {X : Cx} {pins : List (Addr × Obj)} {σ : St} {H : Hp} {s : Shared} {a C dx : Addr} {fs : List (Str × V)} {f : Str} {v : V} {A : Around} {E : Value → Shared → Prop}

end

/-! ### readings and rules -/
section
variable {X : Cx} {o e value : Expr} {f : Str} {pos pos' tpos : Pos} {ta tv : TE}
end

/-! ### isinstance -/
section
variable {X : Cx} {pins : List (Addr × Obj)} {σ : St} {H : Hp} {s : Shared} {A : Around} {E : Value → Shared → Prop} {Q : Value → Shared → Prop} {c : Value} {b : Bool}
/-- the type of a value, as the fragment's deciders take it; for an instance its class -/
inductive TyOf (K : PySem.W.Frag) (H : Hp) : V → Value → Prop where
  | non : TyOf K H .non (.type "NoneType")
  | bl (x : Bool) : TyOf K H (.bl x) (.type "bool")
  | int (i : Int) : TyOf K H (.int i) (.type "int")
  | str (x : Str) : TyOf K H (.str x) (.type "str")
  | flt (x : UInt64) : TyOf K H (.flt x) (.type "float")
  | lst {a : Addr} {xs : List V} (e : H a = some (.lst xs)) : TyOf K H (.ref a) (.type "list")
  | frz {a : Addr} {o : Obj} {xs : List V} (e : H a = some (.frz o (.lst xs))) : TyOf K H (.ref a) (.type "list")
  | tup {a : Addr} {xs : List V} (e : H a = some (.tup xs)) : TyOf K H (.ref a) (.type "tuple")
  | dK {a : Addr} {kvs : List (Key × V)} (e : H a = some (.dK kvs)) : TyOf K H (.ref a) (.type "dict")
  | dT {a : Addr} {kvs : List (List Key × V)} (e : H a = some (.dT kvs)) : TyOf K H (.ref a) (.type "dict")
  | ins {a C dx : Addr} {fs : List (Str × V)} (e : H a = some (.ins C dx fs)) (cl : Cls K C) (ha : PySem.W.findIn K (.ref C) "__class__" = some (some (.builtin "object.__class__")))
      (hn : PySem.W.specialIn K (.builtin "object.__class__") "__get__" = some (some (.builtin "getset_descriptor.__get__"))) (htk : PySem.W.takesIn K (.builtin "object.__class__") = some true)
      (hm : PySem.W.mroIn K C (.type "object") = some true) : TyOf K H (.ref a) (.ref C)
/-- isinstance(x, c) for one class c, a built-in or an own one: kitOne's answer -/
theorem isinst_ok {x : V} {u t : Value} (I : Inv X pins σ H s) (rx : RelV x u) (ty : TyOf X.K H x t) (e : PySem.W.kitOne X.K t c = some b) (h : ∀ tk, Q (.bool b) { s with toks := tk }) :
    wpAny (model X.prog X.w) A (call (.builtin "isinstance") [u, c]) Q E s := by
  cases ty with
  | non => cases (show u = Value.none from rx); exact PySem.W.kia_one PySem.W.kitx_none I.kIn True.intro e (fun z => nomatch z) h
  | bl y => cases (show u = Value.bool y from rx); exact PySem.W.kia_one PySem.W.kitx_bool I.kIn True.intro e (fun z => nomatch z) h
  | int i => obtain ⟨t, q⟩ := (show ∃ t, u = Value.int i t from rx); cases q; exact PySem.W.kia_one PySem.W.kitx_int I.kIn True.intro e (fun z => nomatch z) h
  | str y => obtain ⟨t, q⟩ := (show ∃ t, u = Value.str y t from rx); cases q; exact PySem.W.kia_one PySem.W.kitx_str I.kIn True.intro e (fun z => nomatch z) h
  | flt y => obtain ⟨t, q⟩ := (show ∃ t, u = Value.float y t from rx); cases q; exact PySem.W.kia_one PySem.W.kitx_float I.kIn True.intro e (fun z => nomatch z) h
  | @lst a xs ea =>
    cases (show u = Value.ref a from rx)
    obtain ⟨_, _, n, _, h1⟩ := (show ObjOk X.prog X.w H s.heap a (.lst xs) from I.hok a _ ea)
    exact PySem.W.kia_one PySem.W.kitx_list I.kIn ⟨_, h1, rfl⟩ e (fun z => nomatch z) h
  | @frz a ob xs ea =>
    cases (show u = Value.ref a from rx)
    obtain ⟨_, _, _, n, _, h1⟩ := (show ObjOk X.prog X.w H s.heap a (.frz ob (.lst xs)) from I.hok a _ ea)
    exact PySem.W.kia_one PySem.W.kitx_list I.kIn ⟨_, h1, rfl⟩ e (fun z => nomatch z) h
  | @tup a xs ea =>
    cases (show u = Value.ref a from rx)
    obtain ⟨_, _, _, p⟩ := (show ObjOk X.prog X.w H s.heap a (.tup xs) from I.hok a _ ea)
    obtain ⟨o, h1, h2, _⟩ := p
    exact PySem.W.kia_one PySem.W.kitx_tuple I.kIn ⟨o, h1, h2⟩ e (fun z => nomatch z) h
  | @dK a kvs ea =>
    cases (show u = Value.ref a from rx)
    obtain ⟨_, _, vs, _, p⟩ := (show ObjOk X.prog X.w H s.heap a (.dK kvs) from I.hok a _ ea)
    obtain ⟨o, es, ep, h1, h2, _⟩ := p
    exact PySem.W.kia_one PySem.W.kitx_dict I.kIn ⟨o, h1, h2.1⟩ e (fun z => nomatch z) h
  | @dT a kvs ea =>
    cases (show u = Value.ref a from rx)
    obtain ⟨_, _, xs, _, o, es, ep, h1, h2, _⟩ := (show ObjOk X.prog X.w H s.heap a (.dT kvs) from I.hok a _ ea)
    exact PySem.W.kia_one PySem.W.kitx_dict I.kIn ⟨o, h1, h2.1⟩ e (fun z => nomatch z) h
  | @ins a C dx fs ea cl ha hn htk hm =>
    cases (show u = Value.ref a from rx)
    obtain ⟨mA, O, _⟩ := ins_get I.hok ea
    obtain ⟨od, J, _⟩ := O.look
    exact PySem.W.kia_one (PySem.W.kitx_own (cl.get _) cl.hd ha hn htk hm) I.kIn J e (fun z => nomatch z) h
end
end L2

namespace L2
open PySem PySem.Spec PyProof.Rows

/-! ### room -/
structure Room (k : Nat) (A : Around) : Prop where
  hd : A.handled = none
  dp : A.depth + 3 * k + 5 < recursionLimit
  un : A.units + 16 * k + 200 < cLine
theorem Room.mono {j k : Nat} {A : Around} (r : Room k A) (h : j ≤ k) : Room j A := ⟨r.hd, by have := r.dp; omega, by have := r.un; omega⟩
theorem Room.deeper {k : Nat} {A : Around} (r : Room (k + 1) A) (env : Env) : Room k (A.deeper env) :=
  ⟨r.hd, by have := r.dp; show A.depth + 1 + 3 * k + 5 < _; omega, by have := r.un; show A.units + 3 + 16 * k + 200 < _; omega⟩
theorem Room.depth {k : Nat} {A : Around} (r : Room k A) : A.depth < recursionLimit := by have := r.dp; omega
theorem Room.units {k : Nat} {A : Around} (r : Room k A) : A.units + 64 < cLine := by have := r.un; omega
/-! ### argument lists and displays -/
def tNil : TA := fun _ H Q => Q [] H
def tCons (ta : TE) (tr : TA) : TA := fun σ H Q => ta σ H fun x H1 => tr σ H1 fun xs H2 => Q (x :: xs) H2
section
variable {X : Cx} {e : Expr} {es : List Expr} {te : TE} {t : TA} {pos : Pos}
theorem pa_nil : PA X [] tNil := fun _ _ _ _ H Q I h => Calls.spliced_nil ⟨[], H, I, .nil, h⟩
theorem pa_cons (ha : PE X e te) (hr : PA X es t) (hs : starEach (e :: es) X.env = (false, eval e X.env) :: starEach es X.env := by rfl) : PA X (e :: es) (tCons te t) := by
  intro pos pins s σ H Q I h
  rw [hs]
  show wpAny _ _ (spliced ((false, eval e X.env) :: backTo pos (starEach es X.env))) _ _ s
  refine Calls.spliced_cons (thn (ha pins s σ H _ I h) fun u s1 ⟨x, H1, I1, r1, q1⟩ => ?_)
  exact thn (hr pos pins s1 σ H1 _ I1 q1) fun us s2 ⟨xs, H2, I2, r2, q2⟩ => ⟨x :: xs, H2, I2, .cons r1 r2, q2⟩

/-- a tuple, a list of written items -/
def tTup (t : TA) : TE := fun σ H Q => t σ H fun xs H1 => xs.length ≤ sizeLine ∧ ∀ p, H1 p = none → Q (.ref p) (upd H1 p (.tup xs))
def tLst (t : TA) : TE := fun σ H Q => t σ H fun xs H1 => xs.length ≤ sizeLine ∧ ∀ p, H1 p = none → Q (.ref p) (upd H1 p (.lst xs))
theorem pe_tup {x1} (h : PA X es t) : PE X (.Tuple es x1 pos) (tTup t) := by
  intro pins s σ H Q I hq
  refine wpAny_Tuple_spliced (thn (h pos pins s σ H _ I hq) fun us s1 ⟨xs, H1, I1, r, z, q⟩ => ⟨by rw [← r.length]; exact z, ?_⟩)
  have hf : H1 s1.heap.objs.size = none := I1.hok.fresh (Nat.le_refl _)
  refine ⟨.ref s1.heap.objs.size, upd H1 s1.heap.objs.size (.tup xs), I1.laid (t' := s1.toks) (fun b u e => Heap.get?_push_of_some _ e) (Nat.le_refl _) ?_, rfl, q _ hf⟩
  exact ⟨z, us, r, ⟨_, Heap.get?_push_size _ rfl, rfl, _, rfl⟩⟩
theorem pe_lst (h : PA X es t) : PE X (.List es pos) (tLst t) := by
  intro pins s σ H Q I hq
  refine wpAny_List_spliced (thn (h pos pins s σ H _ I hq) fun us s1 ⟨xs, H1, I1, r, z, q⟩ => ⟨by rw [← r.length]; exact z, ?_⟩)
  have hf : H1 s1.heap.objs.size = none := I1.hok.fresh (Nat.le_refl _)
  refine ⟨.ref s1.heap.objs.size, upd H1 s1.heap.objs.size (.lst xs), I1.laid (t' := s1.toks) (fun b u e => Heap.get?_push_of_some _ e) (Nat.le_refl _) ?_, rfl, q _ hf⟩
  exact ⟨z, us, 0, r, Heap.get?_push_size _ rfl⟩
end

/-! ### what a def promises -/
/-- a def's promise: the bound arguments in the parameters' order, the heap, the wanted end, the wanted exception -/
abbrev Sp := List V → Hp → VK → XK → Prop
/-- how an exception lies behind a call (file 08 gives it): the callers' frames, abstract heap and state ahead of the call, the wish, the exception, the state -/
abbrev CXT := List Env → Hp → Shared → XK → Value → Shared → Prop

/-- the state at a call -/
structure Env0 (P : Program) (w : World) (K : PySem.W.Frag) (mg : Str → Option Value) (base : Heap) (A : Around) (outer : List Env) (s : Shared) (H : Hp) : Prop where
  frames : A.frames = some outer
  mod : Mod K mg base
  bs : ∀ b o, base.get? b = some o → s.heap.get? b = some o ∧ H b = none
  bsz : base.objs.size ≤ s.heap.objs.size
  funs : s.heap.FunFrames base outer
  frf : ∀ b ∈ frs outer, H b = none
  hok : HOk P w H s.heap
  bare : AllBare s.gens
/-- a call's end -/
def CE (outer : List Env) (P : Program) (w : World) (H : Hp) (s : Shared) (Q : VK) (u : Value) (s' : Shared) : Prop :=
  ∃ v H', s'.os = s.os ∧ AllBare s'.gens ∧ Un (frs outer) [] H H' s.heap s'.heap ∧ HOk P w H' s'.heap ∧ RelV v u ∧ Q v H'
def CR (CX : CXT) (outer : List Env) (P : Program) (w : World) (H : Hp) (s : Shared) (Q : VK) (E : XK) (r : Result) (s' : Shared) : Prop :=
  match r with
  | .ok (.ret u) => CE outer P w H s Q u s'
  | .ok _ => False
  | .error e => CX outer H s E e s'
structure FnOk (P : Program) (w : World) (K : PySem.W.Frag) (mg : Str → Option Value) (base : Heap) (CX : CXT) (k : Nat) (f : Addr) (fd : FuncData) (ps : List Str) (sp : Sp) : Prop where
  len : ∀ vs H Q E, sp vs H Q E → vs.length = ps.length
  run : ∀ (A : Around) (outer : List Env) (s : Shared) (H : Hp) (args : Args) (us : List Value) (vs : List V) (Q : VK) (E : XK), Room k A → Env0 P w K mg base A outer s H → BindsTo s fd args (ps.zip us) → Vals vs us → sp vs H Q E →
    codeAny (model P w) A (.call (.ref f) args) (CR CX outer P w H s Q E) s
theorem FnOk.mono {P : Program} {w : World} {K : PySem.W.Frag} {mg : Str → Option Value} {base : Heap} {CX : CXT} {j k : Nat} {f : Addr} {fd : FuncData} {ps : List Str} {sp : Sp} (F : FnOk P w K mg base CX j f fd ps sp) (h : j ≤ k) :
    FnOk P w K mg base CX k f fd ps sp := ⟨F.len, fun A outer s H args us vs Q E hr => F.run A outer s H args us vs Q E (hr.mono h)⟩
section
variable {X : Cx} {pins : List (Addr × Obj)} {σ : St} {H : Hp} {s s' : Shared}
/-- from a body: what a callee wants -/
theorem Inv.env0 (I : Inv X pins σ H s) : Env0 X.prog X.w X.K X.mg X.base X.A X.stack s H :=
  ⟨I.ok.frames, I.ok.mod, I.bs, Nat.le_trans I.ok.bsz I.sz, I.stack, I.stkFree, I.hok, I.bare⟩
/-- behind a call -/
theorem Inv.after {Q : VK} {u : Value} (I : Inv X pins σ H s) (h : CE X.stack X.prog X.w H s Q u s') : EP X pins σ Q u s' := by
  obtain ⟨v, H', os, bare, un, hok, r, q⟩ := h
  obtain ⟨hh, g, d, t, os'⟩ := s'
  obtain rfl : os' = s.os := os
  exact ⟨v, H', I.call (h' := hh) (g' := g) (d' := d) (t' := t) (ch := []) un hok bare (fun b z => absurd z (by simp)), r, q⟩
end

/-! ### calls -/
/-- f(..): the written arguments, then the defaults dvs; E: what is wanted of an exception -/
def tCall (sp : Sp) (dvs : List V) (E : XK) (t : TA) : TE := fun σ H Q => t σ H fun vs H1 => sp (vs ++ dvs) H1 Q E
/-- how the parameters are bound: us the positional arguments, kw the keywords' values by name, ds the defaults that fill up -/
def Binds (K : PySem.W.Frag) (fd : FuncData) (ps : List Str) (ds : List Value) : Prop :=
  ∀ (s : Shared) (us : List Value), K.In s.heap → (us ++ ds).length = ps.length → BindsTo s fd ⟨us, []⟩ (ps.zip (us ++ ds))
/-- every parameter is given -/
theorem Binds.all {K : PySem.W.Frag} {fd : FuncData} {ps : List Str} (h : ∀ us : List Value, us.length = ps.length → bindArgs fd ⟨us, []⟩ = pure (ps.zip us)) : Binds K fd ps [] := fun s us _ hl => by
  rw [List.append_nil] at hl ⊢
  exact .of_eq (h us hl)

/-- an exception of a callee reaches what this body wants of exceptions -/
def Passes (CX : CXT) (X : Cx) (E : XK) : Prop := ∀ (pins : List (Addr × Obj)) (σ : St) (H : Hp) (s : Shared) (e : Value) (s' : Shared), Inv X pins σ H s → CX X.stack H s E e s' → X.xe e s'

section
variable {X : Cx} {CX : CXT} {k : Nat} {f C : Addr} {fd : FuncData} {ps : List Str} {sp : Sp} {dvs : List V} {ds : List Value} {E : XK} {x m : Str} {p pos apos : Pos} {e o : Expr} {es : List Expr} {ta : TE} {t : TA}

/-- the callee runs -/
theorem run_fn {pins : List (Addr × Obj)} {σ : St} {H : Hp} {s : Shared} {Q : VK} {us : List Value} {vs : List V} (F : FnOk X.prog X.w X.K X.mg X.base CX k f fd ps sp) (hr : Room k X.A) (hb : Binds X.K fd ps ds) (hd : Vals dvs ds) (hx : Passes CX X E)
    (I : Inv X pins σ H s) (r : Vals vs us) (h : sp (vs ++ dvs) H Q E) : wpAny (model X.prog X.w) X.A (call (.ref f) us) (EP X pins σ Q) X.xe s := by
  have r2 : Vals (vs ++ dvs) (us ++ ds) := r.append hd
  have hl : (us ++ ds).length = ps.length := by rw [← r2.length]; exact F.len _ _ _ _ h
  refine wpAny_call (codeAny_mono (F.run X.A X.stack s H ⟨us, []⟩ (us ++ ds) (vs ++ dvs) Q E hr I.env0 (hb s us I.kIn hl) r2 h) fun r s' hq => ?_)
  cases r with
  | error e => exact hx pins σ H s e s' I hq
  | ok fl =>
    cases fl with
    | ret u => exact I.after hq
    | next => exact False.elim hq
    | brk => exact False.elim hq
    | cont => exact False.elim hq

theorem pe_call (F : FnOk X.prog X.w X.K X.mg X.base CX k f fd ps sp) (hr : Room k X.A) (hg : Gl X x) (hm : X.mg x = some (.ref f)) (hk : PySem.W.keepIn X.K (.ref f) = true) (hb : Binds X.K fd ps ds) (hd : Vals dvs ds) (hx : Passes CX X E)
    (ha : PA X (e :: es) t) (hdb : (x == ("__debug__" : Str)) = false := by decide) (he : starEach (e :: es) X.env = (false, eval e X.env) :: starEach es X.env := by rfl) (hpl : (backTo pos (starEach es X.env)).any (·.1) = false := by rfl) :
    PE X (.Call (.Name x p) (e :: es) [] pos) (tCall sp dvs E t) := by
  intro pins s σ H Q I h
  refine wpAny_Call_Name_kw (ld_glob I hg hm ?_ hdb)
  refine PySem.W.callWith_K (h₀ := X.base) I.ok.mod.kin hk (thn (ha pos pins s σ H _ I h) fun us s1 ⟨vs, H1, I1, r, q⟩ => ⟨I1.kIn, ?_⟩) he hpl
  exact run_fn F hr hb hd hx I1 r q
end

/-! ### keywords -/
section
variable {X : Cx} {CX : CXT} {k : Nat} {f C : Addr} {fd : FuncData} {ps ks : List Str} {sp : Sp} {E : XK} {x m : Str} {p pos apos kpos : Pos} {e o : Expr} {es : List Expr} {kws : List Keyword} {te ta : TE} {t tk : TA} {nm : Option Str}
variable {g : List Value → List Value → List Value} {gV : List V → List V → List V}
end

/-! ### a def's body keeps its promise -/
/-- names: the parameters first -/
structure FnScope (N P : List Str) (sc : Scope) : Prop where
  kind : sc.kind = .function
  co : sc.isCoroutine = false
  gen : sc.isGenerator = false
  nd : N.Nodup
  pre : N.take P.length = P
  par : ∀ x ∈ P, sc.names.lookup x = some .local ∨ sc.names.lookup x = some .cell
  nofree : ∀ y ∈ sc.names, y.2 ≠ .free

theorem bindL_out {kindOf : Str → Option NameKind} {x : Str} : ∀ {binds : List (Str × Value)} {m : Str → Option Value}, (∀ v, (x, v) ∉ binds) → bindL kindOf binds m x = m x
  | [], _, _ => rfl
  | (n, v) :: r, m, h => by
    unfold bindL
    rw [bindL_out fun w hw => h w (List.mem_cons_of_mem _ hw)]
    split
    · have : x ≠ n := by rintro rfl; exact h v List.mem_cons_self
      simp [this]
    · rfl
theorem bindC_out {kindOf : Str → Option NameKind} {x : Str} : ∀ {binds : List (Str × Value)} {m : Str → Option Value}, (∀ v, (x, v) ∉ binds) → bindC kindOf binds m x = m x
  | [], _, _ => rfl
  | (n, v) :: r, m, h => by
    unfold bindC
    rw [bindC_out fun w hw => h w (List.mem_cons_of_mem _ hw)]
    split
    · rfl
    · have : x ≠ n := by rintro rfl; exact h v List.mem_cons_self
      simp [this]
theorem bindL_get {kindOf : Str → Option NameKind} {x : Str} {v : Value} : ∀ {P : List Str} {vs : List Value} {i : Nat} {m : Str → Option Value}, P.Nodup → P[i]? = some x → vs[i]? = some v → kindOf x = some .local →
    bindL kindOf (P.zip vs) m x = some v
  | [], _, _, _, _, h, _, _ => by simp at h
  | _ :: _, [], _, _, _, _, h, _ => by simp at h
  | p :: P, w :: vs, 0, m, nd, h1, h2, hk => by
    simp at h1 h2; subst h1; subst h2
    show bindL kindOf ((p, w) :: P.zip vs) m p = _
    unfold bindL
    rw [bindL_out fun v hv => (List.nodup_cons.mp nd).1 (List.of_mem_zip hv).1, if_pos hk]
    simp
  | p :: P, w :: vs, i + 1, m, nd, h1, h2, hk => by
    show bindL kindOf ((p, w) :: P.zip vs) m x = _
    unfold bindL
    exact bindL_get (i := i) (List.nodup_cons.mp nd).2 (by simpa using h1) (by simpa using h2) hk
theorem bindC_get {kindOf : Str → Option NameKind} {x : Str} {v : Value} : ∀ {P : List Str} {vs : List Value} {i : Nat} {m : Str → Option Value}, P.Nodup → P[i]? = some x → vs[i]? = some v → kindOf x ≠ some .local →
    bindC kindOf (P.zip vs) m x = some v
  | [], _, _, _, _, h, _, _ => by simp at h
  | _ :: _, [], _, _, _, _, h, _ => by simp at h
  | p :: P, w :: vs, 0, m, nd, h1, h2, hk => by
    simp at h1 h2; subst h1; subst h2
    show bindC kindOf ((p, w) :: P.zip vs) m p = _
    unfold bindC
    rw [bindC_out fun v hv => (List.nodup_cons.mp nd).1 (List.of_mem_zip hv).1, if_neg hk]
    simp
  | p :: P, w :: vs, i + 1, m, nd, h1, h2, hk => by
    show bindC kindOf ((p, w) :: P.zip vs) m x = _
    unfold bindC
    exact bindC_get (i := i) (List.nodup_cons.mp nd).2 (by simpa using h1) (by simpa using h2) hk

/-- the names' values at the entry -/
def start (N : List Str) (vs : List V) : St := vs.map some ++ List.replicate (N.length - vs.length) none

/-- the context of a def's body, at its entry; an exception leaves the frame, then lies as CX says -/
def cxOf (CX : CXT) (P : Program) (w : World) (K : PySem.W.Frag) (mg : Str → Option Value) (base : Heap) (N : List Str) (qual : Str) (scope : Scope) (f : Addr) (cd : Value) (A : Around) (outer : List Env) (s : Shared) (H : Hp) (E : XK) : Cx where
  prog := P
  w := w
  K := K
  mg := mg
  base := base
  A := A.deeper (envOfC qual scope s.heap.objs.size f cd)
  N := N
  s₀ := s
  H₀ := H
  env := envOfC qual scope s.heap.objs.size f cd
  outer := outer
  stack := envOfC qual scope s.heap.objs.size f cd :: outer
  ex := []
  calm := true
  fn := fun _ => true
  pn := []
  xe := fun e s' => wpAny (model P w) (A.deeper (envOfC qual scope s.heap.objs.size f cd)) (leaving (envOfC qual scope s.heap.objs.size f cd) e) (fun _ s'' => CX outer H s E e s'') (fun e' s'' => CX outer H s E e' s'') s'

theorem cell_has {sc : Scope} {n : Nat} {x : Str} (h : sc.names.lookup x = some .cell) : ∃ c, (cellsFrom n sc.names []).lookup x = some c := by
  have q := PySem.W.cellsFrom_some sc.names n [] (.inl h)
  exact Option.isSome_iff_exists.mp q

theorem inv_start {CX : CXT} {P : Program} {w : World} {K : PySem.W.Frag} {mg : Str → Option Value} {base : Heap} {N ps : List Str} {qual : Str} {scope : Scope} {f : Addr} {cd : Value} {A : Around} {outer : List Env} {s s1 : Shared} {H : Hp} {E : XK} {us : List Value} {vs : List V}
    (S : FnScope N ps scope) (hd : A.handled = none) (e0 : Env0 P w K mg base A outer s H) (hl : vs.length = ps.length) (r : Vals vs us)
    (x : InCallC s s.heap.objs.size (bindL (envOfC qual scope s.heap.objs.size f cd).kindOf (ps.zip us) fun _ => none) (cellsFrom (s.heap.objs.size + 1) scope.names []) (bindC (envOfC qual scope s.heap.objs.size f cd).kindOf (ps.zip us) fun _ => none) s1) :
    Inv (cxOf CX P w K mg base N qual scope f cd A outer s H E) [] (start N vs) H s1 := by
  have hpl : ps.length ≤ N.length := by have := congrArg List.length S.pre; rw [List.length_take] at this; omega
  obtain ⟨h1, tk, rfl, hk⟩ := x.done
  have noA : ∀ b : Addr, b ∉ (cxOf CX P w K mg base N qual scope f cd A outer s H E).ex := fun b z => absurd (show b ∈ ([] : List Addr) from z) (by simp)
  refine ⟨⟨e0.mod, S.kind, rfl, rfl, Nat.le_refl _, fun y z c h1 h2 => ?_, fun y hy => ?_, fun y c _ h => ?_, fun _ => hd, Around.frames_deeper e0.frames, .inr ⟨rfl, rfl⟩, fun b z => absurd z (noA b), e0.bs, e0.bsz, fun b _ _ => noA b, fun b z => absurd z (noA b), e0.funs, e0.frf⟩,
    rfl, e0.bare, Un.kept hk, ⟨_, x.toInCall.ns, fun i y v h1 h2 h3 => ?_⟩, fun y c h => ⟨_, x.cell y c h⟩, e0.hok.fresh (Nat.le_refl _), fun y c h => ?_, fun p hp => absurd (show p ∈ ([] : List (Addr × Obj)) from hp) (by simp), e0.hok.kept hk, ?_⟩
  · exact name_of_addr x.apart (PySem.mem_of_lookup h1) (PySem.mem_of_lookup h2)
  · have hy : scope.names.lookup y = some .cell ∨ scope.names.lookup y = some .free := hy
    rcases hy with hy | hy
    · exact cell_has hy
    · exact absurd rfl (S.nofree _ (PySem.mem_of_lookup hy))
  · exact Nat.le_of_lt (x.above y c (PySem.mem_of_lookup h))
  · have hi : i < vs.length := by
      unfold start at h2
      by_cases hi : i < vs.length
      · exact hi
      · rw [List.getElem?_append_right (by simpa using hi)] at h2
        rw [List.getElem?_replicate] at h2
        split at h2 <;> cases h2
    have ha : vs[i]? = some v := by
      unfold start at h2
      rw [List.getElem?_append_left (by simpa using hi), List.getElem?_map] at h2
      cases e : vs[i]? with
      | none => rw [e] at h2; cases h2
      | some a => rw [e] at h2; cases h2; rfl
    obtain ⟨u, hu, rv⟩ := r.get ha
    have hp : ps[i]? = some y := by
      rw [← S.pre, List.getElem?_take_of_lt (by omega)]; exact h1
    have ndP : ps.Nodup := by rw [← S.pre]; exact S.nd.sublist (List.take_sublist _ _)
    refine ⟨u, rv, ?_⟩
    rcases S.par y (List.mem_of_getElem? hp) with k | k
    · exact .inl ⟨k, bindL_get ndP hp hu k⟩
    · obtain ⟨c, e⟩ := cell_has (n := s.heap.objs.size + 1) k
      refine .inr ⟨.inl k, c, e, ?_⟩
      have q := x.cell y c e
      rw [bindC_get ndP hp hu (by show scope.names.lookup y ≠ _; rw [k]; decide)] at q
      exact q
  · exact e0.hok.fresh (Nat.le_of_lt (x.above y c (PySem.mem_of_lookup h)))
  · unfold start
    show _ = N.length
    rw [List.length_append, List.length_map, List.length_replicate]
    omega

/-- THE RULE: a def (or a method) of the text, by its body. The body's reading t is chosen for each entry; it is run at the parameters' values -/
theorem fn_of {CX : CXT} {P : Program} {w : World} {K : PySem.W.Frag} {mg : Str → Option Value} {base : Heap} {k : Nat} {f : Addr} {name qual : Str} {params : Arguments} {body : List Stmt} {scope : Scope} {dV kV doc pm cdv ct oc : Value} {an od : Option Addr}
    {osl : Array (Option Value)} {N ps : List Str} {sp : Sp} (lk : K.lookup f = some ⟨oc, od, .func (PySem.W.fnOf name qual params body scope dV kV doc pm an cdv ct), osl⟩) (hcd : PySem.W.codeIn K cdv qual = true) (S : FnScope N ps scope)
    (len : ∀ vs H Q E, sp vs H Q E → vs.length = ps.length)
    (hbody : ∀ (A : Around) (outer : List Env) (s : Shared) (H : Hp) (vs : List V) (Q : VK) (E : XK), Room k (A.deeper (envOfC qual scope s.heap.objs.size f cdv)) → sp vs H Q E →
      ∃ t, PSs (cxOf CX P w K mg base N qual scope f cdv A outer s H E) body t ∧ t { nx := fun _ H' => Q .non H', rt := Q } (start N vs) H) :
    FnOk P w K mg base CX (k + 1) f (PySem.W.fnOf name qual params body scope dV kV doc pm an cdv ct) ps sp := by
  refine ⟨len, fun A outer s H args us vs Q E hr e0 hb r hsp => ?_⟩
  have hl := len _ _ _ _ hsp
  have KX : K.In s.heap := e0.mod.kin.keeps fun b o e => (e0.bs b o e).1
  have lim : s.heap.NoLimit := e0.mod.nolimit.keeps fun b o e => (e0.bs b o e).1
  have hkind : ∀ y ∈ ps.zip us, scope.names.lookup y.1 = some .local ∨ (scope.names.lookup y.1 = some .cell ∧ ((cellsFrom (s.heap.objs.size + 1) scope.names []).lookup y.1).isSome = true) := fun ⟨n, v⟩ hy => by
    rcases S.par n (List.of_mem_zip hy).1 with q | q
    · exact .inl q
    · exact .inr ⟨q, PySem.W.cellsFrom_some _ _ _ (.inl q)⟩
  refine codeAny_call_function hr.depth (KX _ _ lk) rfl S.co S.gen rfl (PySem.W.codeRec_of KX hcd) (hb _ _ _ _ ?_)
  refine wpAny_newFunctionEnv_cells S.kind hkind fun env he s1 x => ?_
  subst he
  refine ⟨lim.keeps x.toInCall.keep, codeAny_func ?_⟩
  obtain ⟨t, ht, hq⟩ := hbody A outer s H vs Q E (hr.deeper _) hsp
  have I : Inv (cxOf CX P w K mg base N qual scope f cdv A outer s H E) [] (start N vs) H s1 := inv_start S hr.hd e0 hl r x
  refine wpAny_mono (ht [] s1 (start N vs) H _ I hq) (fun fl s' hs => ?_) fun e s' hs => hs
  have fin : ∀ {σ' : St} {H' : Hp} {v : V} {u : Value}, Inv (cxOf CX P w K mg base N qual scope f cdv A outer s H E) [] σ' H' s' → RelV v u → Q v H' → CE outer P w H s Q u s' :=
    fun {σ' H' v u} J rv q => ⟨v, H', J.os, J.bare, J.base, J.hok, rv, q⟩
  cases fl with
  | ret u =>
    obtain ⟨v, σ', H', J, rv, q⟩ := hs
    exact fin J rv q
  | next =>
    obtain ⟨σ', H', J, q⟩ := hs
    exact fin (v := V.non) (u := Value.none) J rfl q
  | brk =>
    obtain ⟨_, _, _, q⟩ := hs
    exact False.elim q
  | cont =>
    obtain ⟨_, _, _, q⟩ := hs
    exact False.elim q
end L2

namespace L2
open PySem PySem.Spec PyProof.Rows
section
variable {X : Cx} {x : Str} {p pos : Pos} {e : Expr} {es : List Expr} {t : TA} {id T : String} {r : List V → Hp → VK → Prop}

def tCB (r : List V → Hp → VK → Prop) (t : TA) : TE := fun σ H Q => t σ H fun vs H1 => r vs H1 Q
/-- f(e, ..), f a built-in function -/
theorem pe_callB (hc : CallR X (.builtin id) r) (hg : Gl X x) (hm : X.mg x = none) (hv : bootBuiltins x = some (.builtin id)) (ha : PA X (e :: es) t) (hn : x ≠ "__name__" := by decide) (hdb : (x == ("__debug__" : Str)) = false := by decide)
    (he : starEach (e :: es) X.env = (false, eval e X.env) :: starEach es X.env := by rfl) (hpl : (backTo pos (starEach es X.env)).any (·.1) = false := by rfl) : PE X (.Call (.Name x p) (e :: es) [] pos) (tCB r t) := by
  intro pins s σ H Q I h
  refine wpAny_Call_Name_kw (ld_blt I hg hm hv ?_ hn hdb)
  exact PyProof.Rows.callWith_builtin1 (thn (ha pos pins s σ H _ I h) fun us s1 ⟨vs, H1, I1, r1, q1⟩ => hc pins s1 σ H1 vs us Q I1 r1 q1) he hpl
/-- T(e, ..), T a built-in type -/
theorem pe_callTy (hc : CallR X (.type T) r) (hg : Gl X x) (hm : X.mg x = none) (hv : bootBuiltins x = some (.type T)) (ha : PA X (e :: es) t) (hn : x ≠ "__name__" := by decide) (hdb : (x == ("__debug__" : Str)) = false := by decide)
    (he : starEach (e :: es) X.env = (false, eval e X.env) :: starEach es X.env := by rfl) (hpl : (backTo pos (starEach es X.env)).any (·.1) = false := by rfl) : PE X (.Call (.Name x p) (e :: es) [] pos) (tCB r t) := by
  intro pins s σ H Q I h
  refine wpAny_Call_Name_kw (ld_blt I hg hm hv ?_ hn hdb)
  exact PyProof.Rows.callWith_type1 (thn (ha pos pins s σ H _ I h) fun us s1 ⟨vs, H1, I1, r1, q1⟩ => hc pins s1 σ H1 vs us Q I1 r1 q1) he hpl
end
end L2

namespace HT
open PySem PyProof.Rows

section
open PySem.SeqAt
open PySem.AutoSeq1 (wpAny_loadPart')
open PySem.MeetsSeq PySem.MeetsSeq2 PySem.MeetsSeq3

end

section
variable {prog : Program} {w : World} {A : Around} {E : Value → Shared → Prop} {s : Shared}

/-! ### t[a:b], not the whole -/
/-- a slice's bound as a place among n (d where it is left out) -/
def sIx (n d : Nat) : Option Int → Nat
  | none => d
  | some v => if v < 0 then (v + (n : Int)).toNat else min v.toNat n
theorem sIx_nat (n d k : Nat) : sIx n d (some (k : Int)) = min k n := by
  show (if (k : Int) < 0 then ((k : Int) + (n : Int)).toNat else min (k : Int).toNat n) = min k n
  rw [if_neg (by omega), Int.toNat_natCast]
end
end HT

namespace L2
open PySem PySem.Spec PyProof.Rows

/-! ### the parts of a slice -/
abbrev TO := St → Hp → (Option Int → Hp → Prop) → Prop
/-- a slice's part (left out, or an int) -/
def PO (X : Cx) (e : Option Expr) (t : TO) : Prop :=
  ∀ (pins : List (Addr × Obj)) (s : Shared) (σ : St) (H : Hp) (Q : Option Int → Hp → Prop), Inv X pins σ H s → t σ H Q →
    wpAny (model X.prog X.w) X.A (evalPart e X.env) (fun u s' => ∃ o H', Inv X pins σ H' s' ∧ IsPart u o ∧ Q o H') X.xe s
def tNoPart : TO := fun _ H Q => Q none H
def tPart (t : TE) : TO := fun σ H Q => t σ H fun x H1 => ∃ i, x = .int i ∧ Q (some i) H1

section
variable {X : Cx} {e : Expr} {te : TE} {lo hi : Option Expr} {tl th : TO} {pos p2 : Pos}

theorem po_some (h : PE X e te) : PO X (some e) (tPart te) := by
  intro pins s σ H Q I hw
  rw [evalPart_some]
  refine thn (h pins s σ H _ I hw) fun u s1 ⟨x, H1, I1, r1, q1⟩ => ?_
  obtain ⟨i, rfl, q⟩ := q1
  obtain ⟨t, rfl⟩ := r1
  exact ⟨some i, H1, I1, .int i t, q⟩

/-- what a slice of a value is, by values: the slice object stands at sl -/
def SlR (X : Cx) (r : V → Option Int → Option Int → Hp → VK → Prop) : Prop :=
  ∀ (pins : List (Addr × Obj)) (s : Shared) (σ : St) (H : Hp) (x : V) (v vl vu : Value) (lo hi : Option Int) (sl : Addr) (Q : VK), Inv X pins σ H s → RelV x v → s.heap.IsSliceOf sl vl vu .none → IsPart vl lo → IsPart vu hi → r x lo hi H Q →
    ∃ T id, typeLookup (.type T) "__getitem__" = pure (some (.builtin id)) ∧ s.TypeIs v T ∧ wpAny (model X.prog X.w) X.A (getItem v (.ref sl)) (EP X pins σ Q) X.xe s
def tSl (r : V → Option Int → Option Int → Hp → VK → Prop) (te : TE) (tl th : TO) : TE := fun σ H Q => te σ H fun x H1 => tl σ H1 fun l H2 => th σ H2 fun u H3 => r x l u H3 Q
/-- a[lo:hi], any a -/
theorem pe_slice {r : V → Option Int → Option Int → Hp → VK → Prop} (hr : SlR X r) (he : PE X e te) (hl : PO X lo tl) (hu : PO X hi th) : PE X (.Subscript e (.Slice lo hi none p2) pos) (tSl r te tl th) := by
  intro pins s σ H Q I h
  refine Subscript_ (thn (he pins s σ H _ I h) fun v s1 ⟨x, H1, I1, r1, q1⟩ => ?_)
  refine wpAny_Slice (thn (hl pins s1 σ H1 _ I1 q1) fun vl s2 ⟨l, H2, I2, pl, q2⟩ => thn (hu pins s2 σ H2 _ I2 q2) fun vu s3 ⟨u, H3, I3, pu, q3⟩ => ?_)
  rw [evalPart_none]
  refine wpAny_pure ?_
  have I4 : Inv X pins σ H3 { s3 with heap := s3.heap.push { cls := .type "slice", data := .fields #[vl, vu, .none] } } := I3.kept (t' := s3.toks) fun b ob q => Heap.get?_push_of_some _ q
  obtain ⟨T, id, hT, ht, hg⟩ := hr pins { s3 with heap := s3.heap.push { cls := .type "slice", data := .fields #[vl, vu, .none] } } σ H3 x v vl vu l u s3.heap.objs.size Q I4 r1 (Heap.IsSliceOf.new ..) pl pu q3
  show wpAny (model X.prog X.w) X.A (subscriptTail e (.Slice lo hi none p2) v (.ref s3.heap.objs.size)) (EP X pins σ Q) X.xe { s3 with heap := s3.heap.push { cls := .type "slice", data := .fields #[vl, vu, .none] } }
  exact tail_any (ops := [.ref s3.heap.objs.size, v]) ht hT hg (by with_unfolding_all rfl)

/-- the items of xs[lo:hi] -/
def cutV (xs : List V) (lo hi : Option Int) : List V := (xs.drop (HT.sIx xs.length 0 lo)).take (HT.sIx xs.length xs.length hi - HT.sIx xs.length 0 lo)
theorem cutV_length (xs : List V) (lo hi : Option Int) : (cutV xs lo hi).length ≤ xs.length := by
  unfold cutV
  rw [List.length_take, List.length_drop]
  omega
/-! ### t < u, t + u -/
end
end L2

namespace L2
open PySem PySem.Spec PyProof.Rows

/-! ### places -/
/-- the place that an index of any sign means -/
def ixN (n : Nat) (i : Int) : Option Nat := if 0 ≤ i then (if i < n then some i.toNat else none) else if -(n : Int) ≤ i then some (i + n).toNat else none
def atI {α : Type} (xs : List α) (i : Int) : Option α := (ixN xs.length i).bind fun j => xs[j]?
theorem ixN_seq {n : Nat} {i : Int} {j : Nat} (h : ixN n i = some j) : seqIndex? i n = some j ∧ j < n ∧ -(n : Int) ≤ i ∧ i < n := by
  unfold ixN at h
  by_cases h0 : 0 ≤ i
  · rw [if_pos h0] at h
    by_cases h1 : i < n
    · rw [if_pos h1] at h
      have e : i.toNat = j := Option.some.inj h
      exact ⟨by rw [seqIndex_of h0 h1, e], by omega, by omega, h1⟩
    · rw [if_neg h1] at h; cases h
  · rw [if_neg h0] at h
    by_cases h1 : -(n : Int) ≤ i
    · rw [if_pos h1] at h
      have e : (i + n).toNat = j := Option.some.inj h
      exact ⟨by rw [seqIndex_neg (by omega) h1, e], by omega, h1, by omega⟩
    · rw [if_neg h1] at h; cases h
theorem atI_get {α : Type} {xs : List α} {i : Int} {v : α} (h : atI xs i = some v) : ∃ j, seqIndex? i xs.length = some j ∧ xs[j]? = some v ∧ j < xs.length ∧ -(xs.length : Int) ≤ i ∧ i < xs.length := by
  unfold atI at h
  cases e : ixN xs.length i with
  | none => rw [e] at h; cases h
  | some j =>
    rw [e] at h
    obtain ⟨h1, h2, h3, h4⟩ := ixN_seq e
    exact ⟨j, h1, h, h2, h3, h4⟩
theorem atI_nat {α : Type} {xs : List α} {j : Nat} {v : α} (h : xs[j]? = some v) : atI xs (j : Int) = some v := by
  have hj : j < xs.length := (List.getElem?_eq_some_iff.mp h).1
  have e : ixN xs.length (j : Int) = some j := by
    unfold ixN
    rw [if_pos (by omega), if_pos (by omega)]; simp
  unfold atI; rw [e]; exact h
/-! ### what may be subscripted -/
/-- what stands as an index of a plain subscript -/
def PlainIx (b : Expr) : Prop := ∀ o i, subscripted b false o i = operate [o, i] (getItem o i)
/-- a subscript by values -/
def IxR (X : Cx) (r : R2) : Prop :=
  ∀ (value slice : Expr) (pins : List (Addr × Obj)) (s : Shared) (σ : St) (H : Hp) (x y : V) (v u : Value) (Q : VK), Inv X pins σ H s → RelV x v → RelV y u → r x y H Q →
    subscripted slice false v u = operate [v, u] (getItem v u) → wpAny (model X.prog X.w) X.A (subscriptTail value slice v u) (EP X pins σ Q) X.xe s
/-- a call of a builtin's method by values: the receiver, the arguments -/
def MtR (X : Cx) (id : String) (r : V → List V → Hp → VK → Prop) : Prop :=
  ∀ (pins : List (Addr × Obj)) (s : Shared) (σ : St) (H : Hp) (x : V) (xs : List V) (v : Value) (us : List Value) (Q : VK), Inv X pins σ H s → RelV x v → Vals xs us → r x xs H Q →
    wpAny (model X.prog X.w) X.A (call (.builtin id) (v :: us)) (EP X pins σ Q) X.xe s
section
variable {X : Cx} {a b : Expr} {ta tb : TE} {pos : Pos}
/-- a[b] -/
theorem pe_ix {r : R2} (hr : IxR X r) (ha : PE X a ta) (hb : PE X b tb) (hs : PlainIx b) : PE X (.Subscript a b pos) (tOp r ta tb) := by
  intro pins s σ H Q I h
  exact Subscript_ (binT ha hb I h fun v u s2 x y H2 I2 rx ry q => hr a b pins s2 σ H2 x y v u Q I2 rx ry q (hs _ _))

def rIxL (K : PySem.W.Frag) : R2 := fun x y H Q => ∃ p xs i v, x = .ref p ∧ y = .int i ∧ SqL K H p xs ∧ atI xs i = some v ∧ Q v H
def rIxT (K : PySem.W.Frag) : R2 := fun x y H Q => ∃ p xs i v, x = .ref p ∧ y = .int i ∧ SqT K H p xs ∧ atI xs i = some v ∧ Q v H
theorem ix_list : IxR X (rIxL X.K) := by
  intro value slice pins s σ H x y v u Q I rx ry h hs
  obtain ⟨p, xs, i, z, rfl, rfl, hq, he, q⟩ := h
  cases rx
  obtain ⟨t, rfl⟩ := ry
  obtain ⟨its, r, pl, hz⟩ := I.list hq
  obtain ⟨j, h1, h2, h3, h4, h5⟩ := atI_get he
  obtain ⟨w, ew, rw'⟩ := r.get h2
  have hl := r.length
  have hn := line63
  have fin : EP X pins σ Q w s := ⟨z, H, I, rw', q⟩
  by_cases h0 : 0 ≤ i
  · have hj : i.toNat = j := by
      rw [seqIndex_of h0 h5] at h1
      exact Option.some.inj h1
    exact item_listR pl.isList h0 (by omega) (by rw [hj]; simpa using ew) fin hs
  · have hj : (i + (its.toArray.size : Int)).toNat = j := by
      rw [seqIndex_neg (by omega) h4] at h1
      rw [List.size_toArray, ← hl]
      exact Option.some.inj h1
    exact subscriptTail_builtinR (x := w) pl.isList.typeIs slot_list_getitem.lookup
      (wpAny_getItem_list_neg (Q := fun r s' => r = w ∧ EP X pins σ Q r s') pl.isList (by omega) (by rw [List.size_toArray] <;> omega) (by omega) (by rw [hj]; simpa using ew) ⟨rfl, fin⟩) hs
theorem ix_tup : IxR X (rIxT X.K) := by
  intro value slice pins s σ H x y v u Q I rx ry h hs
  obtain ⟨p, xs, i, z, rfl, rfl, hq, he, q⟩ := h
  cases rx
  obtain ⟨t, rfl⟩ := ry
  obtain ⟨its, r, pl, hz⟩ := I.tuple hq
  obtain ⟨j, h1, h2, h3, h4, h5⟩ := atI_get he
  obtain ⟨w, ew, rw'⟩ := r.get h2
  have hl := r.length
  have hn := line63
  have fin : EP X pins σ Q w s := ⟨z, H, I, rw', q⟩
  exact subscriptTail_builtinR (x := w) pl.typeIs slot_tuple_getitem.lookup
    (getItem_tuple (j := j) (Q := fun r s' => r = w ∧ EP X pins σ Q r s') pl (by omega) (by omega) (by rw [List.size_toArray, ← hl]; exact h1) (by simpa using ew) ⟨rfl, fin⟩) hs
/-! ### xs[i] = v, any sign -/
/-- the list's object behind a store -/
theorem mapSeq_set (its : List Value) (n j : Nat) (u : Value) : Obj.mapSeq (·.setIfInBounds j u) { cls := .type "list", data := .seq its.toArray n } = { cls := .type "list", data := .seq (its.set j u).toArray n } := by
  simp [Obj.mapSeq]
theorem Inv.lst {pins : List (Addr × Obj)} {σ : St} {H : Hp} {s : Shared} {p : Addr} {xs : List V} (I : Inv X pins σ H s) (h : H p = some (.lst xs)) :
    ∃ (its : List Value) (n : Nat), Vals xs its ∧ s.heap.get? p = some { cls := .type "list", data := .seq its.toArray n } ∧ xs.length ≤ sizeLine := by
  obtain ⟨z, its, n, r, e⟩ := I.hok p _ h
  exact ⟨its, n, r, e, z⟩
/-- the list at p is written by an update of its object -/
theorem Inv.lstUpd {pins : List (Addr × Obj)} {σ : St} {H : Hp} {s : Shared} {p : Addr} {xs ys : List V} {its its' : List Value} {n n' : Nat} {f : Obj → Obj} (I : Inv X pins σ H s) (h : H p = some (.lst xs))
    (ho : s.heap.get? p = some { cls := .type "list", data := .seq its.toArray n }) (hf : f { cls := .type "list", data := .seq its.toArray n } = { cls := .type "list", data := .seq its'.toArray n' }) (r : Vals ys its') (hz : ys.length ≤ sizeLine) (t : Nat) :
    Inv X pins σ (upd H p (.lst ys)) { s with heap := s.heap.update p f, toks := t } := by
  have e : (s.heap.update p f).get? p = some { cls := .type "list", data := .seq its'.toArray n' } := by
    rw [Heap.get?_update_self f ho (by rw [hf] <;> rfl), hf]
  refine I.write (x := p) (e := p) (by rw [h]; trivial) (.inl rfl) (fun b u hb q => (Heap.get?_update_other _ _ (Ne.symm hb)).trans q) ⟨_, e⟩ ?_
  exact ⟨hz, its', n', r, e⟩
def rSetL : V → V → V → Hp → (Hp → Prop) → Prop := fun o i v H Q => ∃ p xs k j, o = .ref p ∧ i = .int k ∧ H p = some (.lst xs) ∧ ixN xs.length k = some j ∧ Q (upd H p (.lst (xs.set j v)))
theorem set_list : PSet X rSetL := by
  intro pins s σ H o i v ov iv u Q I ro ri rv h
  obtain ⟨p, xs, k, j, rfl, rfl, hp, hj, q⟩ := h
  cases ro
  obtain ⟨t, rfl⟩ := ri
  obtain ⟨its, n, r, ho, hz⟩ := I.lst hp
  obtain ⟨h1, h2, h3, h4⟩ := ixN_seq hj
  have hl := r.length
  have hn := line63
  have I' : Inv X pins σ (upd H p (.lst (xs.set j v))) { s with heap := s.heap.update p (Obj.mapSeq (·.setIfInBounds j u)) } :=
    I.lstUpd hp ho (mapSeq_set its n j u) (r.set rv j) (by rw [List.length_set]; exact hz) s.toks
  by_cases h0 : 0 ≤ k
  · have hk : k.toNat = j := by
      rw [seqIndex_of h0 h4] at h1
      exact Option.some.inj h1
    exact PySem.W.ki_setAt ho h0 (by omega) (by rw [List.size_toArray, ← hl]; exact h4) (by rw [hk]; exact ⟨_, I', q⟩)
  · have hk : (k + (its.toArray.size : Int)).toNat = j := by
      rw [seqIndex_neg (by omega) h3] at h1
      rw [List.size_toArray, ← hl]
      exact Option.some.inj h1
    exact PySem.W.ki_setBack ho (by omega) (by rw [List.size_toArray, ← hl]; exact h3) (by omega) (by rw [hk]; exact ⟨_, I', q⟩)

/-! ### slices -/
theorem slice_bounds (lo hi : Option Int) (n : Nat) : (sliceBounds lo hi none n).1 = ((HT.sIx n 0 lo : Nat) : Int) ∧ (sliceBounds lo hi none n).2.1 = ((HT.sIx n n hi : Nat) : Int) ∧ (sliceBounds lo hi none n).2.2 = 1 := by
  refine ⟨?_, ?_, rfl⟩
  · cases lo with
    | none => simp [sliceBounds, HT.sIx]
    | some i =>
      simp only [sliceBounds, HT.sIx, Option.getD_none, show (1 : Int) > 0 by decide, if_true]
      by_cases h : i < 0
      · simp only [h, if_true] <;> omega
      · simp only [h, if_false] <;> omega
  · cases hi with
    | none => simp [sliceBounds, HT.sIx]
    | some i =>
      simp only [sliceBounds, HT.sIx, Option.getD_none, show (1 : Int) > 0 by decide, if_true]
      by_cases h : i < 0
      · simp only [h, if_true] <;> omega
      · simp only [h, if_false] <;> omega
theorem slicePick_cut (its : List Value) (lo hi : Option Int) : slicePick its.toArray lo hi none = ((its.drop (HT.sIx its.length 0 lo)).take (HT.sIx its.length its.length hi - HT.sIx its.length 0 lo)).toArray := by
  obtain ⟨h1, h2, h3⟩ := slice_bounds lo hi its.toArray.size
  unfold slicePick
  rw [h1, h2, h3]
  simp only [sliceRange_one, pick_run, List.size_toArray] <;> rfl
/-- xs[lo:hi] of a list: a new list -/
def rSlL (K : PySem.W.Frag) : V → Option Int → Option Int → Hp → VK → Prop := fun x lo hi H Q => ∃ a xs, x = .ref a ∧ SqL K H a xs ∧ ∀ p, H p = none → Q (.ref p) (upd H p (.lst (cutV xs lo hi)))
theorem sl_list : SlR X (rSlL X.K) := by
  intro pins s σ H x v vl vu lo hi sl Q I rx hs pl pu h
  obtain ⟨a, xs, rfl, hx, q⟩ := h
  cases rx
  obtain ⟨its, r, ht, hz⟩ := I.list hx
  have hlen := r.length
  refine ⟨"list", _, slot_list_getitem.lookup, ht.isList.typeIs, ?_⟩
  refine wpAny_getItem_list_slice ht.isList hs pl pu .none (by simp) ?_ (by rw [List.size_toArray] <;> omega)
  rw [slicePick_cut, ← hlen]
  refine ⟨.ref s.heap.objs.size, _, I.laid (t' := s.toks) (o := .lst (cutV xs lo hi)) (fun b ob q => Heap.get?_push_of_some _ q) (Nat.le_refl _) ?_, rfl, q _ (I.hok.fresh (Nat.le_refl _))⟩
  exact ⟨Nat.le_trans (cutV_length xs lo hi) hz, _, 0, (r.drop (HT.sIx xs.length 0 lo)).take (HT.sIx xs.length xs.length hi - HT.sIx xs.length 0 lo), Heap.get?_push_size _ rfl⟩

/-! ### in, not in: flat items -/
/-! ### len, list(x), tuple(x) of any list or tuple that is read -/
theorem call_len_seq : CallR X (.builtin "len") (fun xs H Q => ∃ p ys, xs = [.ref p] ∧ (SqL X.K H p ys ∨ SqT X.K H p ys) ∧ Q (.int ys.length) H) := by
  intro pins s σ H xs us Q I r h
  obtain ⟨p, ys, rfl, hq, q⟩ := h
  obtain ⟨u, rfl, rx⟩ := vals1 r
  cases rx
  have hn := line63
  rcases hq with hq | hq
  · obtain ⟨its, r', pl, hz⟩ := I.list hq
    have hlen := r'.length
    exact Calls.call_len_list pl.isList (by simp only [List.size_toArray] <;> omega) ⟨.int ys.length, H, I.tok _, ⟨s.toks + 1, by rw [List.size_toArray, hlen]⟩, q⟩
  · obtain ⟨its, r', pl, hz⟩ := I.tuple hq
    have hlen := r'.length
    exact len_tuple pl (by simp only [List.size_toArray] <;> omega) ⟨.int ys.length, H, I.tok _, ⟨s.toks + 1, by rw [List.size_toArray, hlen]⟩, q⟩
theorem call_list_of : CallR X (.type "list") (fun xs H Q => ∃ p ys, xs = [.ref p] ∧ (SqL X.K H p ys ∨ SqT X.K H p ys) ∧ ∀ l, H l = none → Q (.ref l) (upd H l (.lst ys))) := by
  intro pins s σ H xs us Q I r h
  obtain ⟨p, ys, rfl, hq, q⟩ := h
  obtain ⟨u, rfl, rx⟩ := vals1 r
  cases rx
  have fin : ∀ (its : List Value), Vals ys its → ys.length ≤ sizeLine → ∀ (h' : Heap) (c' : Nat), (∀ b o', s.heap.get? b = some o' → h'.get? b = some o') →
      h'.get? s.heap.objs.size = some { cls := .type "list", dict := none, data := .seq its.toArray c', slots := #[] } → EP X pins σ Q (.ref s.heap.objs.size) { s with heap := h' } := fun its r' hz h' c' kp e =>
    ⟨.ref s.heap.objs.size, _, I.laid (t' := s.toks) kp (Nat.le_refl _) (show ObjOk X.prog X.w _ h' _ (.lst ys) from ⟨hz, its, c', r', e⟩), rfl, q _ (I.hok.fresh (Nat.le_refl _))⟩
  rcases hq with hq | hq
  · obtain ⟨its, r', pl, hz⟩ := I.list hq
    have hlen := r'.length
    obtain ⟨o, ho, hc, n, hd⟩ := pl.isList
    exact call_list_seq p (.inl rfl) ho hc hd (fun h' c' kp e => fin its r' hz h' c' kp e) (by simp only [List.size_toArray] <;> omega)
  · obtain ⟨its, r', pl, hz⟩ := I.tuple hq
    have hlen := r'.length
    obtain ⟨o, ho, hc, n, hd⟩ := pl
    exact call_list_seq p (.inr rfl) ho hc hd (fun h' c' kp e => fin its r' hz h' c' kp e) (by simp only [List.size_toArray] <;> omega)
/-! ### the call of a builtin's method: o.m(..) -/
/-- the value is of that builtin type -/
def tyV (K : PySem.W.Frag) (T : String) (x : V) (H : Hp) : Prop := match x with
  | .str _ => T = "str"
  | .int _ => T = "int"
  | .ref p => (T = "list" ∧ ∃ xs, SqL K H p xs) ∨ (T = "tuple" ∧ ∃ o, K.lookup p = some o ∧ o.cls = .type "tuple" ∧ o.dict = none) ∨
      (T = "dict" ∧ ((∃ kvs, H p = some (.dK kvs)) ∨ ∃ kvs, H p = some (.dT kvs))) ∨ (T = "set" ∧ ∃ S n, H p = some (.set S n))
  | _ => False
theorem tyV_is {pins : List (Addr × Obj)} {σ : St} {H : Hp} {s : Shared} {T : String} {x : V} {v : Value} (I : Inv X pins σ H s) (r : RelV x v) (ty : tyV X.K T x H) :
    s.TypeIs v T ∧ ∀ a, v = .ref a → ∃ ob, s.heap.get? a = some ob ∧ ob.dict = none := by
  cases x with
  | str z =>
    obtain ⟨t, rfl⟩ := r
    cases (show T = "str" from ty)
    exact ⟨typeIs_str s z t, fun _ e => nomatch e⟩
  | int i =>
    obtain ⟨t, rfl⟩ := r
    cases (show T = "int" from ty)
    exact ⟨typeIs_int s i t, fun _ e => nomatch e⟩
  | ref p =>
    cases r
    rcases ty with ⟨rfl, xs, hq⟩ | ⟨rfl, o, hk, hc, hd⟩ | ⟨rfl, hk⟩ | ⟨rfl, S, n, hk⟩
    · obtain ⟨its, _, pl, _⟩ := I.list hq
      refine ⟨pl.isList.typeIs, fun a e => ?_⟩
      cases e
      obtain ⟨o, n, e, c, hd, _⟩ := pl
      exact ⟨o, e, hd⟩
    · refine ⟨⟨o, I.kIn p o hk, hc⟩, fun a e => ?_⟩
      cases e
      exact ⟨o, I.kIn _ o hk, hd⟩
    · have z : ∃ o, s.heap.get? p = some o ∧ o.ExactDict := by
        rcases hk with ⟨kvs, hk⟩ | ⟨kvs, hk⟩
        · obtain ⟨_, _, _, _, o, _, _, e, ex, _⟩ := I.hok p _ hk
          exact ⟨o, e, ex⟩
        · obtain ⟨_, _, _, _, o, _, _, e, ex, _⟩ := I.hok p _ hk
          exact ⟨o, e, ex⟩
      obtain ⟨o, e, ex⟩ := z
      refine ⟨⟨o, e, ex.1⟩, fun a e2 => ?_⟩
      cases e2
      exact ⟨o, e, ex.2.1⟩
    · obtain ⟨o, _, _, _, e, ex, _⟩ := I.hok p _ hk
      refine ⟨⟨o, e, ex.1⟩, fun a e2 => ?_⟩
      cases e2
      exact ⟨o, e, ex.2.1⟩
  | _ => exact False.elim ty
def tBM0 (K : PySem.W.Frag) (T : String) (r : V → List V → Hp → VK → Prop) (to : TE) : TE := fun σ H Q => to σ H fun x H1 => tyV K T x H1 ∧ r x [] H1 Q
def tBM (K : PySem.W.Frag) (T : String) (r : V → List V → Hp → VK → Prop) (to : TE) (t : TA) : TE := fun σ H Q => to σ H fun x H1 => tyV K T x H1 ∧ t σ H1 fun xs H2 => r x xs H2 Q
variable {o e : Expr} {es : List Expr} {to : TE} {t : TA} {name : Str} {apos cpos : Pos} {T id : String} {r : V → List V → Hp → VK → Prop}
theorem pe_bm0 (pa : PlainAttrs T) (slot : Slot T name id) (hty : typeOf (.builtin id) = pure (.type "method_descriptor")) (hm : MtR X id r) (ho : PE X o to)
    (hbase : attributeBase o name X.env (eval o X.env) = eval o X.env := by rfl) (hline : (apos.endLine == cpos.line) = true := by rfl) : PE X (.Call (.Attribute o name apos) [] [] cpos) (tBM0 X.K T r to) := by
  intro pins s σ H Q I h
  refine wpAny_Call_method0_late hbase hline (thn (ho pins s σ H _ I h) fun v s1 ⟨x, H1, I1, r1, ty, q1⟩ => ?_)
  obtain ⟨h1, h2⟩ := tyV_is I1 r1 ty
  exact ⟨T, id, pa, slot, hty, h1, h2, Calls.callWith_builtin rfl (PySem.evalArgs_none (hm pins s1 σ H1 x [] v [] Q I1 r1 .nil q1))⟩
theorem pe_bm (pa : PlainAttrs T) (slot : Slot T name id) (hty : typeOf (.builtin id) = pure (.type "method_descriptor")) (hm : MtR X id r) (ho : PE X o to) (ha : PA X (e :: es) t)
    (hbase : attributeBase o name X.env (eval o X.env) = eval o X.env := by rfl)
    (hfew : ((backTo cpos (starEach (e :: es) X.env)).all (fun x => !x.1) && (backToKw cpos (keywordEach [] X.env)).all (fun x => x.1.isSome)
      && decide ((e :: es).length + ([] : List Keyword).length + (if ([] : List Keyword).isEmpty then 0 else 1) < 30)) = true := by rfl)
    (hline : (apos.endLine == cpos.line) = true := by rfl) (hs : starEach (e :: es) X.env = (false, eval e X.env) :: starEach es X.env := by rfl) (hplain : (backTo cpos (starEach es X.env)).any (·.1) = false := by rfl) :
    PE X (.Call (.Attribute o name apos) (e :: es) [] cpos) (tBM X.K T r to t) := by
  intro pins s σ H Q I h
  refine wpAny_Call_method_late hbase hfew hline rfl (thn (ho pins s σ H _ I h) fun v s1 ⟨x, H1, I1, r1, ty, q1⟩ => ?_)
  obtain ⟨h1, h2⟩ := tyV_is I1 r1 ty
  refine ⟨T, id, pa, slot, hty, h1, h2, ?_⟩
  have hA := ha cpos pins s1 σ H1 _ I1 q1
  rw [hs] at hA ⊢
  refine Calls.callWith_builtin (by show (false || (backTo cpos (starEach es X.env)).any (·.1)) = false; rw [hplain] <;> rfl) (Calls.evalArgs_plain ?_)
  exact thn hA fun us s2 ⟨vs, H2, I2, r2, q2⟩ => hm pins s2 σ H2 x vs v us Q I2 r1 r2 q2
/- xs.append(e), list.index on a module's tuple .. are MtR facts of 06m -/
end
end L2

namespace L2
open PySem PySem.Spec PyProof.Rows

def MtM (X : Cx) (id : String) (r : V → List V → Hp → VK → Prop) : Prop :=
  ∀ (pins : List (Addr × Obj)) (s : Shared) (σ : St) (H : Hp) (x : V) (xs : List V) (v : Value) (us : List Value) (Q : VK), Inv X pins σ H s → RelV x v → Vals xs us → r x xs H Q →
    wpAny (model X.prog X.w) X.A (call (.builtin id) (v :: us)) (EP X pins σ Q) X.xe s

/-! ### lists of values -/
theorem Vals.one : ∀ {x : V} {us : List Value}, Vals [x] us → ∃ u, us = [u] ∧ RelV x u
  | _, _, .cons r .nil => ⟨_, rfl, r⟩
theorem Vals.zero : ∀ {us : List Value}, Vals [] us → us = []
  | _, .nil => rfl
theorem Vals.dropLast {xs : List V} {us : List Value} (h : Vals xs us) : Vals xs.dropLast us.dropLast := by
  induction h with
  | nil => exact .nil
  | cons r t ih =>
    cases t with
    | nil => exact .nil
    | cons q t' => exact .cons r ih
theorem Vals.rep {xs : List V} {us : List Value} (h : Vals xs us) : ∀ k : Nat, Vals (List.replicate k xs).flatten (List.replicate k us).flatten
  | 0 => .nil
  | k + 1 => by
    rw [List.replicate_succ, List.replicate_succ, List.flatten_cons, List.flatten_cons]
    exact Vals.append h (Vals.rep h k)
theorem erase_last {α : Type} (l : List α) : l.eraseIdx (l.length - 1) = l.dropLast := by
  induction l with
  | nil => rfl
  | cons a r ih =>
    cases r with
    | nil => rfl
    | cons b r =>
      have e : (a :: b :: r).length - 1 = ((b :: r).length - 1) + 1 := by
        have h1 : (a :: b :: r).length = r.length + 2 := rfl
        have h2 : (b :: r).length = r.length + 1 := rfl
        omega
      rw [e, List.eraseIdx_cons_succ, ih]
      all_goals rfl
theorem foldl_rep (its : List Value) : ∀ (k : Nat) (acc : List Value),
    List.foldl (fun x1 x2 => x1 ++ x2) acc.toArray (List.replicate k its.toArray) = (acc ++ (List.replicate k its).flatten).toArray
  | 0, acc => by simp
  | k + 1, acc => by
    have e : acc.toArray ++ its.toArray = (acc ++ its).toArray := by simp
    have e2 : (acc ++ its) ++ (List.replicate k its).flatten = acc ++ (List.replicate (k + 1) its).flatten := by
      rw [List.replicate_succ, List.flatten_cons, List.append_assoc]
    rw [← e2, ← foldl_rep its k (acc ++ its), ← e, List.replicate_succ, List.foldl_cons]

section
variable {X : Cx} {pins : List (Addr × Obj)} {σ : St} {H : Hp} {s : Shared} {l b : Addr} {xs ys zs : List V}

/-! ### the two steps: a tracked list is rewritten, a new list is laid -/
theorem Inv.lset {its its' : List Value} {n : Nat} {f : Array Value → Array Value} {t' : Nat} (I : Inv X pins σ H s) (hH : H l = some (.lst xs))
    (e : s.heap.get? l = some { cls := .type "list", data := .seq its.toArray n }) (hf : f its.toArray = its'.toArray) (hv : Vals ys its') (hz : ys.length ≤ sizeLine) :
    Inv X pins σ (upd H l (.lst ys)) { s with heap := s.heap.update l (Obj.mapSeq f), toks := t' } := by
  have q := PySem.IsL.update e f
  rw [hf] at q
  refine I.write (x := l) (e := l) (by rw [hH]; exact trivial) (.inl rfl) (fun b' u hb hu => (Heap.get?_update_other s.heap (Obj.mapSeq f) (Ne.symm hb)).trans hu) ⟨_, q⟩ ?_
  exact ⟨hz, its', _, hv, q⟩
theorem Inv.lnew {its : List Value} {t' : Nat} (I : Inv X pins σ H s) (hv : Vals ys its) (hz : ys.length ≤ sizeLine) :
    Inv X pins σ (upd H s.heap.objs.size (.lst ys)) { s with heap := s.heap.push { cls := .type "list", data := .seq its.toArray }, toks := t' } :=
  I.laid (fun _ _ q => Heap.get?_push_of_some _ q) (Nat.le_refl _) ⟨hz, its, 0, hv, Heap.get?_push_size _ rfl⟩
theorem Inv.fresh (I : Inv X pins σ H s) : H s.heap.objs.size = none := I.hok.fresh (Nat.le_refl _)
theorem Inv.lstM (I : Inv X pins σ H s) (hH : H l = some (.lst xs)) : xs.length ≤ sizeLine ∧ ∃ (its : List Value) (n : Nat), Vals xs its ∧ xs.length = its.length ∧ s.heap.get? l = some { cls := .type "list", data := .seq its.toArray n } := by
  obtain ⟨z, its, n, r, e⟩ := I.hok l _ hH
  exact ⟨z, its, n, r, r.length, e⟩

theorem notLongL {n : Nat} (h : n ≤ sizeLine) : Builtin.List.listTooLong n = false := by
  unfold Builtin.List.listTooLong
  exact decide_eq_false (by omega)
end

section
variable {X : Cx}

/-! ### methods -/
def rAppend : V → List V → Hp → VK → Prop := fun x vs H Q => ∃ l xs y, x = .ref l ∧ vs = [y] ∧ H l = some (.lst xs) ∧ xs.length < sizeLine ∧ Q .non (upd H l (.lst (xs ++ [y])))
theorem mt_append : MtM X "list.append" rAppend := by
  intro pins s σ H x vs v us Q I rx rv h
  obtain ⟨l, xs, y, rfl, rfl, hH, hz, q⟩ := h
  cases rx
  obtain ⟨u, rfl, ru⟩ := rv.one
  obtain ⟨z, its, n, r, hl, e⟩ := I.lstM hH
  refine call_meets F.slot_list_append ⟨_, e, rfl⟩ F.entry_list_append (F.args_list_append_2 _ _) (PySem.list_append l its.toArray n u (by rw [List.size_toArray]; omega)) ⟨e, ?_⟩
  refine ⟨.non, _, I.lset (its' := its ++ [u]) hH e (by simp) (r.append (.cons ru .nil)) ?_, rfl, q⟩
  rw [List.length_append, List.length_singleton]
  omega

def rExtend : V → List V → Hp → VK → Prop := fun x vs H Q => ∃ l b xs zs, x = .ref l ∧ vs = [.ref b] ∧ H l = some (.lst xs) ∧ H b = some (.lst zs) ∧ xs.length + zs.length ≤ sizeLine ∧ Q .non (upd H l (.lst (xs ++ zs)))
theorem mt_extend : MtM X "list.extend" rExtend := by
  intro pins s σ H x vs v us Q I rx rv h
  obtain ⟨l, b, xs, zs, rfl, rfl, hH, hB, hz, q⟩ := h
  cases rx
  obtain ⟨u, rfl, ru⟩ := rv.one
  cases ru
  obtain ⟨z, its, n, r, hl, e⟩ := I.lstM hH
  obtain ⟨z2, its2, n2, r2, hl2, e2⟩ := I.lstM hB
  have hsz : its.toArray.size + its2.toArray.size ≤ sizeLine := by rw [List.size_toArray, List.size_toArray]; omega
  have hlong : ¬ (!its.toArray.isEmpty && Builtin.List.listTooLong (its.toArray.size + its2.toArray.size)) = true := by
    rw [notLongL hsz, Bool.and_false]
    exact Bool.false_ne_true
  refine call_meets F.slot_list_extend ⟨_, e, rfl⟩ F.entry_list_extend (F.args_list_extend_2 _ _)
    (AutoSeq1.list_extend_list_list_0 l its.toArray n b its2.toArray n2 hlong (by rw [List.size_toArray]; omega) (by omega)) ⟨e, e2, ?_⟩
  refine ⟨.non, _, I.lset (its' := its ++ its2) hH e (by simp) (r.append r2) ?_, rfl, q⟩
  rw [List.length_append]
  omega

def rPop : V → List V → Hp → VK → Prop := fun x vs H Q => ∃ l xs y, x = .ref l ∧ vs = [] ∧ H l = some (.lst xs) ∧ xs[xs.length - 1]? = some y ∧ Q y (upd H l (.lst xs.dropLast))
theorem mt_pop : MtM X "list.pop" rPop := by
  intro pins s σ H x vs v us Q I rx rv h
  obtain ⟨l, xs, y, rfl, rfl, hH, hy, q⟩ := h
  cases rx
  have hus := rv.zero
  subst hus
  obtain ⟨z, its, n, r, hl, e⟩ := I.lstM hH
  obtain ⟨u, hu, ru⟩ := r.get hy
  have hy' : its.toArray[its.toArray.size - 1]? = some u := by
    show its.toArray[its.length - 1]? = some u
    rw [← Array.getElem?_toList, ← hl]
    exact hu
  refine call_meets F.slot_list_pop ⟨_, e, rfl⟩ F.entry_list_pop (F.args_list_pop_1 _) (MeetsSeq.list_pop_last l its.toArray n u hy' (by rw [List.size_toArray]; omega)) ⟨e, ?_⟩
  refine ⟨y, _, I.lset (its' := its.dropLast) hH e ?_ r.dropLast ?_, ru, q⟩
  · show its.toArray.eraseIdxIfInBounds (its.toArray.size - 1) = its.dropLast.toArray
    rw [List.size_toArray, List.eraseIdxIfInBounds_toArray, erase_last]
  · rw [List.length_dropLast]
    omega

def rClear : V → List V → Hp → VK → Prop := fun x vs H Q => ∃ l xs, x = .ref l ∧ vs = [] ∧ H l = some (.lst xs) ∧ Q .non (upd H l (.lst []))
/-! ### list + list, list += list, list * int -/
def rCat : R2 := fun x y H Q => ∃ l b xs zs, x = .ref l ∧ y = .ref b ∧ H l = some (.lst xs) ∧ H b = some (.lst zs) ∧ xs.length + zs.length ≤ sizeLine ∧ ∀ p, H p = none → Q (.ref p) (upd H p (.lst (xs ++ zs)))
theorem op_cat : OpR X (binaryOp .Add) rCat := by
  intro pins s σ H x y v u Q I rx ry h
  obtain ⟨l, b, xs, zs, rfl, rfl, hH, hB, hz, q⟩ := h
  cases rx
  cases ry
  obtain ⟨z, its, n, r, hl, e⟩ := I.lstM hH
  obtain ⟨z2, its2, n2, r2, hl2, e2⟩ := I.lstM hB
  refine PySem.P.add_list e e2 ?_ (by rw [List.size_toArray, List.size_toArray]; omega)
  have ea : its.toArray ++ its2.toArray = (its ++ its2).toArray := by simp
  rw [ea]
  exact ⟨.ref _, _, I.lnew (t' := s.toks) (r.append r2) (by rw [List.length_append]; omega), rfl, q _ I.fresh⟩
/-- a list times an int (a negative one is nothing) -/
def rRep : R2 := fun x y H Q => ∃ l k xs, x = .ref l ∧ y = .int k ∧ H l = some (.lst xs) ∧ -(2 ^ 63) ≤ k ∧ k < 2 ^ 63 ∧ xs.length * k.toNat ≤ sizeLine ∧
  ∀ p, H p = none → Q (.ref p) (upd H p (.lst (List.replicate k.toNat xs).flatten))
theorem len_rep {α : Type} (xs : List α) (k : Nat) : (List.replicate k xs).flatten.length = k * xs.length := by
  induction k with
  | zero => simp
  | succ k ih => rw [List.replicate_succ, List.flatten_cons, List.length_append, ih, Nat.succ_mul, Nat.add_comm]
theorem op_rep : OpR X (binaryOp .Mult) rRep := by
  intro pins s σ H x y v u Q I rx ry h
  obtain ⟨l, k, xs, rfl, rfl, hH, h1, h2, hz, q⟩ := h
  cases rx
  obtain ⟨t, rfl⟩ := ry
  obtain ⟨z, its, n, r, hl, e⟩ := I.lstM hH
  have hlen : its.toArray.size * k.toNat ≤ sizeLine := by rw [List.size_toArray, ← hl]; exact hz
  have hcap : ¬ its.toArray.size * k.toNat > (2 ^ 63 - 1) / 8 := by
    have : (sizeLine : Nat) ≤ (2 ^ 63 - 1) / 8 := by decide
    omega
  have hfit : ¬ (!Builtin.List.listFitsIndex k) = true := by
    rw [fitsIndex_both h1 h2]
    exact Bool.false_ne_true
  have hlong : ¬ Builtin.List.listTooLong (its.toArray.size * k.toNat) = true := by
    rw [notLongL hlen]
    exact Bool.false_ne_true
  have hnew : List.foldl (fun x1 x2 => x1 ++ x2) #[] (List.replicate (if its.toArray.isEmpty = true then 0 else k.toNat) its.toArray) = (List.replicate k.toNat its).flatten.toArray := by
    have f0 : ∀ m : Nat, List.foldl (fun x1 x2 => x1 ++ x2) #[] (List.replicate m its.toArray) = (List.replicate m its).flatten.toArray := fun m => by
      have := foldl_rep its m []
      rw [List.nil_append] at this
      exact this
    rw [f0]
    cases its with
    | nil => simp
    | cons a r' => rw [if_neg (by simp)]
  refine wpAny_binaryOp_repeat_ref (T := "list") (U := "int") (by decide) ⟨_, e, rfl⟩ (fun s' => typeIs_int s' k t) noFill_list_mul F.fills_int_mul F.slot_int_rmul repeat_list F.slot_int_index.lookup
    (call_meets F.slot_int_rmul (typeIs_int s k t) F.entry_int_rmul (F.args_int_rmul_2 _ _) (int___rmul___int_list k t l its.toArray n)
      ⟨e, rfl, ⟨_, e, rfl⟩, call_meets F.slot_list_mul ⟨_, e, rfl⟩ F.entry_list_mul (F.args_list_mul_2 _ _) (AutoListH.list___mul___list_int_3 l its.toArray n k t hfit hcap hlong) ⟨e, ?_⟩⟩)
  rw [hnew]
  exact ⟨.ref _, _, I.lnew (t' := s.toks) (r.rep k.toNat) (by rw [len_rep, Nat.mul_comm]; exact hz), rfl, q _ I.fresh⟩

/-! ### del xs[i] -/
end

/-! ### xs[a:b] = ys -/
section
variable {prog : Program} {w : World} {A : Around} {E : Value → Shared → Prop} {s : Shared}
end

section
variable {X : Cx}
end
end L2

namespace Att
open PySem PySem.W PySem.Calls PyProof.Rows

/-! ### the script -/
theorem ints_of_wellAll {P : Params} {h : Heap} : ∀ (ns : List Int) (vs : List Value), WellAll P h vs (ns.map WData.int) → IntsAre vs ns := by
  intro ns
  induction ns with
  | nil =>
    intro vs w
    rw [List.map_nil] at w
    cases w
    exact .nil
  | cons n ns ih =>
    intro vs w
    rw [List.map_cons] at w
    cases w with
    | cons a b =>
      cases a
      exact .cons _ _ (ih _ b)

theorem script_of {l : OpenLaw} {n : Nat} (hn : l.most = some n) {P : Params} {h : Heap} {args : List WData} {vals : List Value}
    (hpre : l.row.toRowW.claim.pre args = true) (hwl : WellAll P h vals args) :
    ∃ a vs ns, vals = [Value.ref a] ∧ args = [WData.list (ns.map WData.int)] ∧ h.get? a = some { cls := .type "list", data := .seq vs.toArray } ∧ IntsAre vs ns ∧ ns.length ≤ n := by
  have hsh : WShape.hasAll [] args [.list .int] = true := (pre_splitW hpre).1
  have hc : l.pre.holds [] { args := args } = true := (pre_splitW hpre).2
  obtain ⟨d, r, rfl, h1, h2⟩ := hasAllW_cons hsh
  obtain rfl := hasAllW_nil h2
  obtain ⟨xs, rfl, h3⟩ := hasW_list h1
  obtain ⟨ns, rfl⟩ := items_int h3
  have hlen : ns.length ≤ n := by
    unfold OpenLaw.pre at hc
    have h4 : (WTm.not (.lt (.lit (.int (n : Int))) (.len (.arg 0)))).holds [] { args := [.list (ns.map .int)] } = true := by
      have h4 := (holds_andW hc).1
      rw [hn] at h4
      exact h4
    have h5 := condW_of h4 (w_not (w_lt w_lit (w_len_list (w_arg rfl))))
    rw [List.length_map] at h5
    refine Nat.le_of_not_lt fun q => ?_
    have q' : (n : Int) < ((ns.length : Nat) : Int) := by omega
    first
      | (rw [decide_eq_true q'] at h5; exact absurd h5 (by decide))
      | (simp at h5; omega)
  cases hwl with
  | cons w1 w2 =>
    cases w2
    cases w1 with
    | list ho hall => exact ⟨_, _, ns, rfl, rfl, ho, ints_of_wellAll ns _ hall, hlen⟩

theorem post_true (l : OpenLaw) (args : List WData) : l.row.toRowW.claim.post args (.bool true) args = true :=
  postW_of (r := l.row.toRowW) (X := (true == true))
    (show WShape.has [] (.bool true) .bool = true by first | rfl | decide | simp [WShape.has, WShape.arms, WShape.armsAll])
    (show (WTm.eq .res (.lit (.bool true))).value [] { args := args, res := some (.bool true), after := args } = some (.bool (true == true)) from w_eq_bool (w_res rfl) w_lit) rfl

/-! ### the attachment: holds_open's last premise (the goal 'hc' behind k_head) from a wpAny of the law's body -/
/-- the same from a codeAny of the CALL (for a layer whose function contracts speak of calls) -/
theorem attach_call {l : OpenLaw} {n : Nat} {q : Program} {loose : List Str} {XP : (Str → Option Value) → Heap → Prop} {YP : World → Heap → Prop} {d : DefRec}
    (hn : l.most = some n) (hdf : d.params.defaults = [])
    (call : ∀ (w : World) (s₀ s₁ : Shared) (mg mb : Str → Option Value) (fa : Addr) (o : Obj) (pm cd doc : Value) (a : Addr) (vs : List Value) (ns : List Int),
      Ground q loose [] XP w s₀ mg mb s₁.heap → YP w s₁.heap →
      s₁.heap.get? fa = some o → o.data = .func (docDef d.name d.params d.body d.scope pm cd doc) → s₁.heap.CodeRec cd d.name → mg d.name = some (.ref fa) →
      s₁.heap.get? a = some { cls := .type "list", data := .seq vs.toArray } → IntsAre vs ns → ns.length ≤ n → s₁.gens = #[] →
      codeAny (model l.prog w) callerA (.call (.ref fa) ⟨[.ref a], []⟩) (fun r s' => r = .ok (.ret (.bool true)) ∧ OldK s₁.heap s'.heap ∧ s'.os = s₁.os ∧ AllBare s'.gens) s₁) :
    WalkO q loose XP YP l.row.toRowW d [] (fun f vs => PySem.call f vs) := by
  intro w s₀ s₁ mg mb G Y fa o pm cd doc dV kV ho hd hcd hD hmg hg args vals as hpre hlay hrd hwl hlo
  obtain rfl : dV = .none := Dflts.none hD hdf
  obtain rfl : kV = .none := Dflts.noKw hD
  obtain ⟨a, vs, ns, rfl, rfl, hobj, hints, hlen⟩ := script_of hn hpre hwl
  refine enter_call (codeAny_mono (call w s₀ s₁ mg mb fa o pm cd doc a vs ns G Y ho (fd_plain hd) hcd hmg hobj hints hlen hg) fun r s' hq => ?_)
  obtain ⟨rfl, h2, h3, h4⟩ := hq
  exact ⟨.inl ⟨.bool true, .bool true, [], rfl, fun _ => rfl, .bool true, post_true l _, fun _ => ⟨List.Pairwise.nil, fun _ hm => (nomatch hm)⟩⟩, h2, h3, h4⟩

/-! ### rules over ANY heap (no ledger) from facts about the written part K: the library's own take a ledger (News) for what they write -/
section
variable {prog : Program} {w : World} {A : Around} {E : Value → Shared → Prop} {s : Shared} {K : Frag}

/-! the whole heap as the ledger: makes every rule that writes through a ledger a rule over any heap -/
def ledger (h : Heap) (L d : Addr) : List (Addr × Obj) := (List.range h.objs.size).filterMap fun a => if a = L ∨ a = d then none else (h.get? a).map fun o => (a, o)
end
end Att

namespace L2
open PySem PySem.Spec PyProof.Rows

theorem vals_ints : ∀ {vs : List Value} {ns : List Int}, IntsAre vs ns → Vals (ns.map V.int) vs
  | _, _, .nil => .nil
  | _, _, .cons n t h => .cons ⟨t, rfl⟩ (vals_ints h)

/-- nothing is tracked but the script, known to the object (or it is an object of the module) -/
def Only (H : Hp) : Prop := ∀ b, H b = none ∨ ∃ o xs, H b = some (.frz o (.lst xs))

/-- THE HEAD: the law's promise, at the heap behind the top. F, the promise of the law's def, may use that base is part of the heap (so K.In base, base.Ns mainGlobals mg stand in Mod) -/
theorem law_call {P : Program} {w : World} {K : PySem.W.Frag} {mg mb : Str → Option Value} {CX : CXT} {k : Nat} {fa a : Addr} {fd : FuncData} {x : Str} {sp : Sp} {s₁ : Shared} {vs : List Value} {ns : List Int}
    (KX : K.In s₁.heap) (hns : s₁.heap.Ns mainGlobals mg) (hb : s₁.heap.Ns builtinsNs mb) (hbb : ∀ x : Str, x ≠ "__name__" → mb x = bootBuiltins x) (hlim : s₁.heap.NoLimit) (hg : s₁.gens = #[])
    (ha : s₁.heap.get? a = some { cls := .type "list", data := .seq vs.toArray }) (hi : IntsAre vs ns) (hl : ns.length ≤ sizeLine) (hr : Room k callerA)
    (F : ∀ base : Heap, K.In base → base.Ns mainGlobals mg → FnOk P w K mg base CX k fa fd [x] sp) (hbind : ∀ (s : Shared) (u : Value), BindsTo s fd ⟨[u], []⟩ [(x, u)])
    (hsp : ∀ H : Hp, Only H → SqL K H a (ns.map V.int) → sp [.ref a] H (fun v _ => v = .bl true) fun _ _ _ => False)
    (hCX : ∀ H e s', CX [] H s₁ (fun _ _ _ => False) e s' → False) :
    codeAny (model P w) callerA (.call (.ref fa) ⟨[.ref a], []⟩) (fun r s' => r = .ok (.ret (.bool true)) ∧ OldK s₁.heap s'.heap ∧ s'.os = s₁.os ∧ AllBare s'.gens) s₁ := by
  have rv := vals_ints hi
  have lenV := hi.length
  -- from an abstract heap in which nothing but the script may be tracked
  have core : ∀ H : Hp, Only H → SqL K H a (ns.map V.int) → HOk P w H s₁.heap → (∀ b, H b ≠ none → b = a) → (H a ≠ none → K.lookup a = none) →
      codeAny (model P w) callerA (.call (.ref fa) ⟨[.ref a], []⟩) (fun r s' => r = .ok (.ret (.bool true)) ∧ OldK s₁.heap s'.heap ∧ s'.os = s₁.os ∧ AllBare s'.gens) s₁ := by
    intro H hO hS hok hA hK
    have base_of : ∀ {b : Addr} {o : Obj}, s₁.heap.get? b = some o → H b = none → (hidT s₁.heap H).get? b = some o := fun e n => hidT_get e n
    have noA : ∀ {b : Addr} {o : Obj} {es : Array DictEntry} {ep : Nat}, s₁.heap.get? b = some o → o.data = .dict es ep → H b = none := fun {b o es ep} e d => by
      cases q : H b with
      | none => rfl
      | some u =>
        have e' : b = a := hA b (by rw [q]; simp)
        subst e'
        rw [ha] at e; cases e
        have d' : Data.seq vs.toArray _ = Data.dict es ep := d
        cases d'
    have nsK : ∀ {b : Addr} {m : Str → Option Value}, s₁.heap.Ns b m → (hidT s₁.heap H).Ns b m := fun {b m} ⟨o, es, ep, e, d, r⟩ => ⟨o, es, ep, base_of e (noA e d), d, r⟩
    have hKb : K.In (hidT s₁.heap H) := fun b o e => base_of (KX b o e) (by
      cases q : H b with
      | none => rfl
      | some u =>
        have e' : b = a := hA b (by rw [q]; simp)
        subst e'
        rw [hK (by rw [q]; simp)] at e; cases e)
    have hM : Mod K mg (hidT s₁.heap H) := ⟨hKb, nsK hns, ⟨mb, nsK hb, hbb⟩, let ⟨mc, h1, h2⟩ := hlim; ⟨mc, nsK h1, h2⟩⟩
    have e0 : Env0 P w K mg (hidT s₁.heap H) callerA [] s₁ H := ⟨rfl, hM, fun b o e => of_hidT e, Nat.le_of_eq (hidT_size _ _), trivial, fun b hb => absurd (show b ∈ ([] : List Addr) from hb) (by simp), hok, .of_eq hg⟩
    refine codeAny_mono ((F _ hKb (nsK hns)).run callerA [] s₁ H ⟨[.ref a], []⟩ [.ref a] [.ref a] _ _ hr e0 (hbind s₁ (.ref a)) (.cons rfl .nil) (hsp H hO hS)) fun r s' h => ?_
    cases r with
    | error e => exact (hCX H e s' h).elim
    | ok fl =>
      cases fl with
      | next => exact False.elim h
      | brk => exact False.elim h
      | cont => exact False.elim h
      | ret u =>
        obtain ⟨v, H', os, bare, un, hok', r', q⟩ := h
        have q' : v = .bl true := q
        subst q'
        obtain rfl : u = Value.bool true := r'
        refine ⟨rfl, OldK.of_keep fun b o e => ?_, os, bare⟩
        cases q : H b with
        | none => exact un.keep b o e q (by intro z; exact absurd (show b ∈ ([] : List Addr) from z) (by simp)) (by simp)
        | some u =>
          rcases hO b with z | ⟨ob, xs, z⟩
          · rw [q] at z; cases z
          · have z2 := un.frzs b ob _ z
            obtain ⟨e1, _⟩ := hok b _ z
            obtain ⟨e2, _⟩ := hok' b _ z2
            rw [e] at e1; cases e1
            exact e2
  cases hk : K.lookup a with
  | some o =>
    -- the script is one of the module's own objects
    have e := KX a o hk
    rw [ha] at e
    cases e
    refine core (fun _ => none) (fun _ => .inl rfl) (.inr ⟨_, vs.toArray, _, hk, rfl, rfl, rfl, by rw [List.size_toArray, lenV]; exact hl, by simpa using rv⟩) (fun b u z => by have z' : (none : Option HO) = some u := z; cases z') (fun b z => absurd rfl z) fun z => absurd rfl z
  | none =>
    refine core (fun b => if b = a then some (.frz { cls := .type "list", data := .seq vs.toArray } (.lst (ns.map V.int))) else none) (fun b => ?_) (.inl (.inr ⟨{ cls := .type "list", data := .seq vs.toArray }, if_pos rfl⟩)) (fun b u z => ?_) (fun b z => ?_) fun _ => hk
    · by_cases hb : b = a
      · exact .inr ⟨_, _, if_pos hb⟩
      · exact .inl (if_neg hb)
    · by_cases hb : b = a
      · have z' := (if_pos hb).symm.trans z
        cases z'
        subst hb
        exact ⟨ha, by rw [List.length_map]; exact hl, vs, _, rv, ha⟩
      · have z' := (if_neg hb).symm.trans z
        cases z'
    · by_cases hb : b = a
      · exact hb
      · exact absurd (if_neg hb) z
end L2

namespace L2
open PySem PySem.Spec PyProof.Rows

/-- the goal that k_head leaves (case hc), from the law's promise. F gives the function object fd (K's own) once, then the promise over every base -/
theorem walk_of {l : PySem.W.OpenLaw} {n k : Nat} {q : Program} {loose : List Str} {XP : (Str → Option Value) → Heap → Prop} {YP : World → Heap → Prop} {d : DefRec} {K : Params → PySem.W.Frag} {CX : World → CXT} {sp : World → Sp} {x : Str}
    (hn : l.most = some n) (hn2 : n ≤ sizeLine) (hdf : d.params.defaults = []) (hr : Room k callerA)
    (hY : ∀ (w : World) (h : Heap), YP w h → (K w.params).In h)
    (F : ∀ (w : World) (mg : Str → Option Value) (fa : Addr) (h : Heap), (K w.params).In h → h.Ns mainGlobals mg → mg d.name = some (.ref fa) →
      ∃ fd : FuncData, (∀ (s : Shared) (u : Value), BindsTo s fd ⟨[u], []⟩ [(x, u)]) ∧
        ∀ base : Heap, (K w.params).In base → base.Ns mainGlobals mg → FnOk l.prog w (K w.params) mg base (CX w) k fa fd [x] (sp w))
    (hsp : ∀ (w : World) (H : Hp) (a : Addr) (ns : List Int), ns.length ≤ n → Only H → SqL (K w.params) H a (ns.map V.int) → sp w [.ref a] H (fun v _ => v = .bl true) fun _ _ _ => False)
    (hCX : ∀ (w : World) (H : Hp) (s : Shared) (e : Value) (s' : Shared), CX w [] H s (fun _ _ _ => False) e s' → False) :
    PySem.W.WalkO q loose XP YP l.row.toRowW d [] (fun f vs => PySem.call f vs) := by
  refine Att.attach_call hn hdf fun w s₀ s₁ mg mb fa o pm cd doc a vs ns G Y ho hd hcd hmg hobj hints hlen hg => ?_
  have KX := hY w _ Y
  obtain ⟨fd, hb, hF⟩ := F w mg fa _ KX G.T.g hmg
  exact law_call KX G.T.g G.T.b G.T.builtins G.T.nolimit hg hobj hints (Nat.le_trans hlen hn2) hr hF hb (fun H hO hS => hsp w H a ns hlen hO hS) fun H e s' => hCX w H s₁ e s'
end L2


/-! SHORT WORDS over the layer: a def of the text, its body, what a loop and a test want. -/
namespace L2
open PySem PySem.Spec PyProof.Rows

/-! ### the text by places -/
def defArgs (s : Stmt) : Arguments := match s with
  | .FunctionDef _ a _ _ _ _ _ _ _ _ => a
  | _ => { posonlyargs := [], args := [], vararg := none, kwonlyargs := [], kw_defaults := [], kwarg := none, defaults := [] }
def defBody (s : Stmt) : List Stmt := match s with
  | .FunctionDef _ _ b _ _ _ _ _ _ _ => b
  | _ => []
def defScope (s : Stmt) : Scope := match s with
  | .FunctionDef _ _ _ _ _ _ sc _ _ _ => sc
  | _ => { kind := .function, names := [], isGenerator := false, isCoroutine := false }

/-! ### no exception leaves a def -/
abbrev CX0 : CXT := fun _ _ _ _ _ _ => False
abbrev E0 : XK := fun _ _ _ => False
theorem pass0 {X : Cx} : Passes CX0 X E0 := fun _ _ _ _ _ _ _ h => h.elim

/-! ### a def (or method) of the text as it stands behind the top -/
structure Fun (K : PySem.W.Frag) (x qual : Str) (st : Stmt) (f : Addr) (fd : FuncData) : Prop where
  ex : ∃ (oc : Value) (od : Option Addr) (kV doc pm : Value) (an : Option Addr) (cdv ct : Value) (osl : Array (Option Value)),
    fd = PySem.W.fnOf x qual (defArgs st) (defBody st) (defScope st) .none kV doc pm an cdv ct ∧ K.lookup f = some ⟨oc, od, .func fd, osl⟩ ∧ PySem.W.codeIn K cdv qual = true
  kp : PySem.W.keepIn K (.ref f) = true
section
variable {P : Program} {w : World} {K : PySem.W.Frag} {mg : Str → Option Value} {base : Heap}
/-- THE RULE for a def: its body as a term of rules, and the reading of that term -/
theorem Fun.ok {x qual : Str} {st : Stmt} {f : Addr} {fd : FuncData} {N ps : List Str} {k : Nat} {sp : Sp} (F : Fun K x qual st f fd) (S : FnScope N ps (defScope st)) (len : ∀ vs H Q E, sp vs H Q E → vs.length = ps.length)
    (hbody : ∀ (cdv : Value) (A : Around) (outer : List Env) (s : Shared) (H : Hp) (vs : List V) (Q : VK) (E : XK), Room k (A.deeper (envOfC qual (defScope st) s.heap.objs.size f cdv)) → sp vs H Q E →
      ∃ t, PSs (cxOf CX0 P w K mg base N qual (defScope st) f cdv A outer s H E).nox (defBody st) t ∧ t { nx := fun _ H' => Q .non H', rt := Q } (start N vs) H) : FnOk P w K mg base CX0 (k + 1) f fd ps sp := by
  obtain ⟨oc, od, kV, doc, pm, an, cdv, ct, osl, rfl, lk, hcd⟩ := F.ex
  refine fn_of lk hcd S len fun A outer s H vs Q E hr hsp => ?_
  obtain ⟨t, h, q⟩ := hbody cdv A outer s H vs Q E hr hsp
  exact ⟨t, h.nox, q⟩
/-- how its arguments bind (no defaults): h is «fun _ _ _ _ _ _ us hl => match us, hl with | [_, _], _ => rfl», one _ a parameter -/
theorem Fun.binds {x qual : Str} {st : Stmt} {f : Addr} {fd : FuncData} {ps : List Str} (F : Fun K x qual st f fd)
    (h : ∀ (kV doc pm : Value) (an : Option Addr) (cdv ct : Value) (us : List Value), us.length = ps.length → bindArgs (PySem.W.fnOf x qual (defArgs st) (defBody st) (defScope st) .none kV doc pm an cdv ct) ⟨us, []⟩ = pure (ps.zip us)) : Binds K fd ps [] := by
  obtain ⟨oc, od, kV, doc, pm, an, cdv, ct, osl, rfl, lk, hcd⟩ := F.ex
  exact .all (h kV doc pm an cdv ct)
theorem fun_mk {x qual : Str} {st : Stmt} {f : Addr} {oc : Value} {od an : Option Addr} {osl : Array (Option Value)} {kV doc pm cdv ct : Value} (l : K.lookup f = some ⟨oc, od, .func (PySem.W.fnOf x qual (defArgs st) (defBody st) (defScope st) .none kV doc pm an cdv ct), osl⟩)
    (c : PySem.W.codeIn K cdv qual = true) (k : PySem.W.keepIn K (.ref f) = true) : Fun K x qual st f (PySem.W.fnOf x qual (defArgs st) (defBody st) (defScope st) .none kV doc pm an cdv ct) := ⟨⟨oc, od, kV, doc, pm, an, cdv, ct, osl, rfl, l, c⟩, k⟩
end
theorem small1000 {n : Nat} (h : n ≤ 1000) : n < sizeLine := Nat.lt_of_le_of_lt h (by decide)

/-! ### expressions in short: the name that stands in the i-th slot -/
section
variable {X : Cx}
theorem pv (i : Nat) {x : Str} {pos : Pos} (hN : X.N[i]? = some x := by rfl) (hv : Vis X.env.scope x := by first | exact Or.inl rfl | exact Or.inr (Or.inl rfl) | exact Or.inr (Or.inr rfl)) (hd : (x == ("__debug__" : Str)) = false := by decide)
    (hcd : (x == ("__classdict__" : Str)) = false := by decide) : PE X (.Name x pos) (tVar i) := pe_var hN hv hd hcd
end

/-! ### tests -/
theorem ite2 {c A B : Prop} [Decidable c] (h1 : c → A) (h2 : ¬ c → B) : if c then A else B := by
  by_cases h : c
  · rw [if_pos h]
    exact h1 h
  · rw [if_neg h]
    exact h2 h
/-! ### heaps -/
/-- all that was tracked is as it was -/
def Same (H H' : Hp) : Prop := ∀ b o, H b = some o → H' b = some o
theorem Same.refl (H : Hp) : Same H H := fun _ _ h => h
theorem Same.trans {H H1 H2 : Hp} (a : Same H H1) (b : Same H1 H2) : Same H H2 := fun c o h => b c o (a c o h)
theorem Same.free {H H' : Hp} (e : Same H H') {l : Addr} (h : H' l = Option.none) : H l = Option.none := by
  cases q : H l with
  | none => rfl
  | some o =>
    rw [e l o q] at h
    cases h
theorem Same.seq {K : PySem.W.Frag} {H H' : Hp} {a : Addr} {xs : List V} (e : Same H H') (h : SqL K H a xs) : SqL K H' a xs := by
  rcases h with (h | ⟨o, h⟩) | h
  · exact .inl (.inl (e _ _ h))
  · exact .inl (.inr ⟨o, e _ _ h⟩)
  · exact .inr h

end L2
namespace L2
open PySem PySem.Spec PyProof.Rows

/-! ### a list comprehension of one clause, no test -/
/-- its block: the variable in slot 0, the captured names behind it; no exception leaves it -/
@[reducible] def blk (X : Cx) (x : Str) (fv : List (Nat × Str)) (scope : Scope) (cl : List (Str × Addr)) (C : Addr) (s : Shared) (H : Hp) (fp : List Addr) : Cx where
  prog := X.prog
  w := X.w
  K := X.K
  mg := X.mg
  base := X.base
  A := X.A
  N := x :: fv.map (·.2)
  s₀ := s
  H₀ := H
  env := compEnvC scope cl C X.env
  outer := X.stack
  stack := X.stack
  ex := fp
  fn := fun _ => false
  calm := X.calm
  pn := []
  xe := fun _ _ => False
/-- the names' values in the block -/
def bst (fv : List (Nat × Str)) (σ : St) (v : Option V) : St := v :: fv.map fun p => (σ[p.1]?).getD none
/-- what its names must be -/
structure BlkOk (X : Cx) (x : Str) (fv : List (Nat × Str)) (scope : Scope) (cl : List (Str × Addr)) : Prop where
  clos : closureFor scope X.env = pure cl
  nocell : ∀ y ∈ scope.names, y.2 ≠ .cell
  kind : scope.kind = .function
  names : ∀ y ∈ scope.names, y.2 = .local → scope.names.lookup y.1 = some .local
  here : scope.names.lookup x = some .local
  sub : ∀ y c, cl.lookup y = some c → X.env.cells.lookup y = some c
  has : ∀ y, ((relabel scope X.env).names.lookup y = some .cell ∨ (relabel scope X.env).names.lookup y = some .free) → ∃ c, cl.lookup y = some c
  fvs : ∀ p ∈ fv, p.2 ≠ x ∧ X.N[p.1]? = some p.2 ∧ (X.env.scope.names.lookup p.2 = some .cell ∨ X.env.scope.names.lookup p.2 = some .free) ∧
    ((relabel scope X.env).names.lookup p.2 = some .cell ∨ (relabel scope X.env).names.lookup p.2 = some .free) ∧ ∃ c, cl.lookup p.2 = some c

theorem compLoop_one {prog : Program} {w : World} {A : Around} {R : Result → Shared → Prop} {s : Shared} {elt target iter : Expr} {scope : Scope} {pos : Pos} {it acc : Value} {env : Env} (I : Nat → Shared → Prop)
    (turn : ∀ n s (E : Value → Shared → Prop), I n s → wpAny (model prog w) A (pyNext it) (fun r s₁ => match r with
      | none => R (.ok .next) s₁
      | some v => wpAny (model prog w) A (letOwnedTupleGo target it v) (fun _ s₂ => wpAny (model prog w) A (assign target env v) (fun _ s₃ => wpAny (model prog w) A (eval elt env) (fun x s₄ =>
          wpAny (model prog w) A (call (.builtin "list.append") [acc, x]) (fun _ s₅ => ∃ m, m < n ∧ I m s₅) E s₄) E s₃) E s₂) E s₁) E s)
    (n : Nat) (h : I n s) :
    codeAny (model prog w) A (.compLoop (.ListComp elt [⟨target, iter, [], 0⟩] scope pos) 0 it acc env) R s := by
  refine codeAny_loop rfl I (fun n s hI => ?_) n h
  show wpAny _ _ ((compTurn (.ListComp elt [⟨target, iter, [], 0⟩] scope pos) 0 it acc env).onRaise (fun x => do noteFrame x env; theTreesLotGoes x)) _ _ s
  refine wpAny_noted ?_
  rw [PySem.compTurn_list1]
  refine wpAny_bind (wpAny_standAt (wpAny_bind (wpAny_mono (turn n s _ hI) (fun r s₁ h₁ => ?_) fun _ _ h' => h')))
  cases r with
  | none => exact wpAny_pure h₁
  | some v =>
    exact wpAny_bind (thn h₁ fun _ s₂ h₂ => wpAny_bind (thn h₂ fun _ s₃ h₃ => wpAny_bind (wpAny_bind (thn h₃ fun x s₄ h₄ => wpAny_bind (thn h₄ fun _ s₅ h₅ => wpAny_pure (wpAny_pure ⟨rfl, h₅⟩))))))

section
variable {X : Cx} {elt iter : Expr} {x : Str} {px : Pos} {fv : List (Nat × Str)} {scope : Scope} {cl : List (Str × Addr)} {pos : Pos} {te : TE} {wi : TI}

/-- the reading: W by the turn and a measure; D is the new list -/
def tComp (fv : List (Nat × Str)) (wi : TI) (te : TE) : TE := fun σ H Q => wi σ H fun J H1 => ∀ D, H1 D = none → ∃ W : Nat → Nat → Hp → Prop, (∃ m, W 0 m (upd H1 D (.lst []))) ∧ ∀ i m H, W i m H →
  (J.stop i H ∧ Q (.ref D) H) ∨ (J.go i H ∧ ∃ N : Hp → Prop, (∀ H', N H' → ∃ m', m' < m ∧ W (i + 1) m' H') ∧ ∀ v H', J.yld i H v H' → te (bst fv σ (some v)) H' fun y H2 => ∃ ys, H2 D = some (.lst ys) ∧ ys.length < sizeLine ∧ N (upd H2 D (.lst (ys ++ [y]))))

theorem blk_ok {pins : List (Addr × Obj)} {σ : St} {H : Hp} {s : Shared} {fp : List Addr} {C : Addr} (B : BlkOk X x fv scope cl) (I : Inv X pins σ H s) (hf : ∀ b ∈ fp, FpOk X pins H b) (hC : s.heap.objs.size ≤ C) (hfC : ∀ b ∈ fp, b ≠ C) :
    (blk X x fv scope cl C s H fp).Ok where
  mod := I.ok.mod
  kind := B.kind
  glob := I.ok.glob
  blt := I.ok.blt
  above := hC
  inj := fun y z c h1 h2 => I.ok.inj y z c (B.sub y c h1) (B.sub z c h2)
  has := fun y hy => B.has y hy
  cab := fun y c h => nomatch h
  hd := I.ok.hd
  frames := I.ok.frames
  stk := .inl rfl
  exf := fun b hb => ⟨hfC b hb, fun y c e => (hf b hb).2.2.2.2.1 y c (B.sub y c e)⟩
  bs := I.bs
  bsz := Nat.le_trans I.ok.bsz I.sz
  noex := fun b o e hb => by
    obtain ⟨_, _, _, f3, _⟩ := hf b hb
    rcases f3 with z | z
    · exact I.ok.noex b o e z
    · exact absurd (Nat.lt_of_lt_of_le (Heap.lt_size e) (Nat.le_trans I.ok.bsz z)) (Nat.lt_irrefl _)
  exfs := fun b hb hs => by
    obtain ⟨_, f1, f2, _⟩ := hf b hb
    rcases List.mem_cons.mp (I.stkSub b hs) with z | z
    · exact f1 z
    · exact f2 z
  funs := I.stack
  frf := I.stkFree

theorem bst_get {fv : List (Nat × Str)} {σ : St} {o : Option V} {j : Nat} {y : Str} {v : V} (h1 : (x :: fv.map (·.2))[j + 1]? = some y) (h2 : (bst fv σ o)[j + 1]? = some (some v)) : ∃ p ∈ fv, p.2 = y ∧ σ[p.1]? = some (some v) := by
  have e1 : (fv.map (·.2))[j]? = some y := by simpa using h1
  have e2 : (fv.map fun p => (σ[p.1]?).getD none)[j]? = some (some v) := by simpa [bst] using h2
  rw [List.getElem?_map] at e1 e2
  cases q : fv[j]? with
  | none => rw [q] at e1; cases e1
  | some p =>
    rw [q] at e1 e2
    refine ⟨p, List.mem_of_getElem? q, Option.some.inj e1, ?_⟩
    have e3 : (σ[p.1]?).getD none = some v := Option.some.inj e2
    cases r : σ[p.1]? with
    | none => rw [r] at e3; cases e3
    | some w => rw [r] at e3; exact congrArg some e3

/-- the block's start, behind the new namespace -/
theorem blk_start {pins : List (Addr × Obj)} {σ : St} {H : Hp} {s s4 : Shared} {fp : List Addr} {C : Addr} {m : Str → Option Value} (B : BlkOk X x fv scope cl) (I : Inv X pins σ H s) (hf : ∀ b ∈ fp, FpOk X pins H b) (hC : C = s.heap.objs.size)
    (hfC : ∀ b ∈ fp, b ≠ C) (os : s4.os = s.os) (gens : s4.gens = s.gens) (keep : ∀ b o, s.heap.get? b = some o → s4.heap.get? b = some o) (ns : s4.heap.Ns C m) :
    Inv (blk X x fv scope cl C s H fp) [] (bst fv σ none) H s4 := by
  subst hC
  refine ⟨blk_ok B I hf (Nat.le_refl _) hfC, os, by rw [gens]; exact I.bare, Un.kept keep, ⟨m, ns, fun i y v h1 h2 h3 => ?_⟩, fun y c e => ?_, I.hok.fresh (Nat.le_refl _), fun y c e => I.freeC y c (B.sub y c e), fun p hp => absurd (show p ∈ ([] : List (Addr × Obj)) from hp) (by simp), I.hok.kept keep, by simp [bst]⟩
  · cases i with
    | zero => simp [bst] at h2
    | succ j =>
      obtain ⟨p, hp, rfl, hv⟩ := bst_get h1 h2
      obtain ⟨_, hN, hk, hk2, c, hc⟩ := B.fvs p hp
      obtain ⟨m0, _, hl⟩ := I.loc
      have vis : Vis X.env.scope p.2 := hk.elim (fun z => .inr (.inl z)) fun z => .inr (.inr z)
      obtain ⟨u, r, l⟩ := hl p.1 p.2 v hN hv vis
      refine ⟨u, r, .inr ⟨hk2, c, hc, ?_⟩⟩
      rcases l with ⟨z, _⟩ | ⟨_, c', hc', o, ho, hd⟩
      · have z' : X.env.scope.names.lookup p.2 = some .local := z
        rcases hk with k | k <;> (rw [k] at z'; cases z')
      · have := B.sub p.2 c hc
        rw [hc'] at this; cases this
        exact ⟨o, keep _ o ho, hd⟩
  · obtain ⟨v, o, ho, hd⟩ := I.cell y c (B.sub y c e)
    exact ⟨v, o, keep c o ho, hd⟩

/-- the block's variable is stored -/
theorem blk_store {pins' : List (Addr × Obj)} {σ : St} {H H0 : Hp} {s s5 : Shared} {fp : List Addr} {C : Addr} {o : Option V} {v : V} {u : Value} {E : Value → Shared → Prop} {Q : Unit → Shared → Prop} (B : BlkOk X x fv scope cl)
    (I : Inv (blk X x fv scope cl C s H0 fp) pins' (bst fv σ o) H s5) (r : RelV v u) (h : ∀ s6, Inv (blk X x fv scope cl C s H0 fp) pins' (bst fv σ (some v)) H s6 → Q () s6) :
    wpAny (model X.prog X.w) X.A (assign (.Name x px) (compEnvC scope cl C X.env) u) Q E s5 := by
  obtain ⟨m, hn, hl⟩ := id I.loc
  have hk : (relabel scope X.env).names.lookup x = some .local := lookup_relabel_local B.here
  have hcls : ((compEnvC scope cl C X.env).scope.kind == .class || ((compEnvC scope cl C X.env).scope.kind == .module && (compEnvC scope cl C X.env).locals != (compEnvC scope cl C X.env).globals)) = false := by
    have : (compEnvC scope cl C X.env).scope.kind = .function := B.kind
    rw [this]; rfl
  refine wpAny_assign_Name (wpAny_storeName_local hk hn (fun h' hn' hs => ?_) hcls)
  have cne := I.cne
  obtain ⟨oL, _, _, hoL, _⟩ := id hn
  have tracked : HOk X.prog X.w H h' := fun b ob e => by
    refine (I.hok b ob e).stay (fun c w' hc q => (hs.2 c ?_).trans q) (fun _ q => q) fun _ _ q => q
    intro z
    have z' : c = C := z
    have fr : H C = none := I.free
    rcases hc with hc | hc
    · rw [← hc, z', fr] at e; cases e
    · rw [z', fr] at hc; cases hc
  refine h _ ⟨I.ok, I.os, I.bare, ⟨fun b o e n hb hx => ?_, fun b o e n hb hx => ?_, I.base.free, fun b o e hx => ?_, I.base.tups, I.base.frzs, I.base.tbls⟩, ⟨_, hn', fun j y v' e1 e2 e3 => ?_⟩, fun y c e => ?_, I.free, I.freeC, fun p hp => ?_, tracked, by simp [bst]⟩
  · exact (hs.2 b (Nat.ne_of_lt (Nat.lt_of_lt_of_le (Heap.lt_size e) I.ok.above))).trans (I.base.keep b o e n hb hx)
  · obtain ⟨sl, e1⟩ := I.base.slot b o e n hb hx
    exact ⟨sl, (hs.2 b (Nat.ne_of_lt (Nat.lt_of_lt_of_le (Heap.lt_size e) I.ok.above))).trans e1⟩
  · obtain ⟨o', e1⟩ := I.base.there b o e hx
    exact ⟨o', (hs.2 b (Nat.ne_of_lt (Nat.lt_of_lt_of_le (Heap.lt_size e) I.ok.above))).trans e1⟩
  · cases j with
    | zero =>
      have e1' : x = y := by simpa using e1
      subst e1'
      have e2' : v = v' := by simpa [bst] using e2
      subst e2'
      exact ⟨u, r, .inl ⟨hk, by simp⟩⟩
    | succ j =>
      have e2' : (bst fv σ o)[j + 1]? = some (some v') := by simpa [bst] using e2
      obtain ⟨u', r', q⟩ := hl (j + 1) y v' e1 e2' e3
      refine ⟨u', r', ?_⟩
      obtain ⟨p, hp, rfl, _⟩ := bst_get e1 e2
      rcases q with ⟨k, e⟩ | ⟨k, c, e, z⟩
      · exact .inl ⟨k, by simp [(B.fvs p hp).1, e]⟩
      · exact .inr ⟨k, c, e, z.sameBut hs (cne _ c e)⟩
  · obtain ⟨w', z⟩ := I.cell y c e
    exact ⟨w', z.sameBut hs (cne y c e)⟩
  · obtain ⟨e, n, ne, nf, d⟩ := I.pin p hp
    exact ⟨(hs.2 p.1 ne).trans e, n, ne, nf, d⟩

/-- the whole block, from the state behind pyIter -/
theorem blk_run {pins : List (Addr × Obj)} {σ : St} {H : Hp} {s2 : Shared} {it : Addr} {fp : List Addr} {tn : Nat → Heap → Prop} {J : It} {Q : VK} {E : Value → Shared → Prop} {RR : Value → Addr → Result → Shared → Prop}
    (hc : X.calm = true) (B : BlkOk X x fv scope cl) (he : ∀ C s H fp, PE (blk X x fv scope cl C s H fp) elt te) (I : Inv X pins σ H s2) (T : Turn X.prog X.w X.K (.Name x px) J fp it tn) (st : tn 0 s2.heap) (hf : ∀ b ∈ fp, FpOk X pins H b)
    (rd : ∀ D, H D = none → ∃ W : Nat → Nat → Hp → Prop, (∃ m, W 0 m (upd H D (.lst []))) ∧ ∀ i m H, W i m H →
      (J.stop i H ∧ Q (.ref D) H) ∨ (J.go i H ∧ ∃ N : Hp → Prop, (∀ H', N H' → ∃ m', m' < m ∧ W (i + 1) m' H') ∧ ∀ v H', J.yld i H v H' → te (bst fv σ (some v)) H' fun y H2 => ∃ ys, H2 D = some (.lst ys) ∧ ys.length < sizeLine ∧ N (upd H2 D (.lst (ys ++ [y])))))
    (hRR : ∀ D C s' H' m', Inv X pins σ H' s' → FpOk X pins H' C → s'.heap.Ns C m' → Q (.ref D) H' → RR (.ref D) C (.ok .next) s') :
    wpAny (model X.prog X.w) X.A (newList []) (fun acc s₃ => wpAny (model X.prog X.w) X.A (newFunctionEnv scope X.env.globals cl [] X.env.qual none .none (some X.env)) (fun cenv s₄ =>
      codeAny (model X.prog X.w) X.A (.compStart (.ListComp elt [⟨.Name x px, iter, [], 0⟩] scope pos) 0 (.ref it) acc { cenv with scope := relabel scope X.env }) (RR acc cenv.locals) s₄) E s₃) E s2 := by
  refine wpAny_newObj_type ?_ (by show 0 ≤ sizeLine; exact Nat.zero_le _)
  have hD : H s2.heap.objs.size = none := I.hok.fresh (Nat.le_refl _)
  have I3 := I.lnew (ys := []) (its := []) (t' := s2.toks) .nil (Nat.zero_le _)
  generalize hs3 : ({ s2 with heap := s2.heap.push { cls := .type "list", data := .seq ([] : List Value).toArray }, toks := s2.toks } : Shared) = s3 at I3
  have sz3 : s3.heap.objs.size = s2.heap.objs.size + 1 := by rw [← hs3]; exact Heap.size_push ..
  have up3 : ∀ b o, s2.heap.get? b = some o → s3.heap.get? b = some o := fun b o e => by rw [← hs3]; exact Heap.get?_push_of_some _ e
  have hf3 : ∀ b ∈ fp, FpOk X pins (upd H s2.heap.objs.size (.lst [])) b := fun b hb => by
    obtain ⟨f0, r⟩ := hf b hb
    refine ⟨?_, r⟩
    obtain ⟨o, e, _⟩ := T.obj 0 _ st b hb
    rw [upd_ne (Nat.ne_of_lt (Heap.lt_size e))]; exact f0
  have ltf : ∀ b ∈ fp, b < s2.heap.objs.size := fun b hb => by
    obtain ⟨o, e, _⟩ := T.obj 0 _ st b hb
    exact Heap.lt_size e
  have st3 : tn 0 s3.heap := T.keep 0 _ _ st fun b _ o e => up3 b o e
  obtain ⟨W, ⟨m0, w0⟩, turn⟩ := rd _ hD
  refine wpAny_newFunctionEnv B.nocell (by intro y hy; simp at hy) (fun h₁ hns₁ hsb₁ => ?_) B.kind
  have hfC : ∀ b ∈ fp, b ≠ s3.heap.objs.size := fun b hb => Nat.ne_of_lt (by rw [sz3]; exact Nat.lt_succ_of_lt (ltf b hb))
  have up4 : ∀ b o, s3.heap.get? b = some o → h₁.get? b = some o := fun b o e => hsb₁.extBut b o (Nat.ne_of_lt (Heap.lt_size e)) (Heap.get?_push_of_some _ e)
  generalize hs4 : ({ s3 with heap := h₁, toks := s3.toks + ([] : List (Str × Value)).length } : Shared) = s4
  have h4 : s4.heap = h₁ := by rw [← hs4]
  have I4 : Inv (blk X x fv scope cl s3.heap.objs.size s3 (upd H s2.heap.objs.size (.lst [])) fp) [] (bst fv σ none) (upd H s2.heap.objs.size (.lst [])) s4 :=
    blk_start B I3 hf3 rfl hfC (by rw [← hs4]) (by rw [← hs4]) (fun b o e => by rw [h4]; exact up4 b o e) (by rw [h4]; exact hns₁)
  have st4 : tn 0 s4.heap := by rw [h4]; exact T.keep 0 _ _ st3 fun b _ o e => up4 b o e
  -- what stays true of the iterator's objects
  have stat : ∀ {H' : Hp}, (∀ b ∈ fp, H' b = none) → ∀ b ∈ fp, FpOk (blk X x fv scope cl s3.heap.objs.size s3 (upd H s2.heap.objs.size (.lst [])) fp) [] H' b := fun {H'} hn b hb => by
    obtain ⟨_, f1, f2, f3, f4, f5⟩ := hf b hb
    refine ⟨hn b hb, hfC b hb, fun z => ?_, .inl hb, fun y c e => f4 y c (B.sub y c e), fun p hp => absurd (show p ∈ ([] : List (Addr × Obj)) from hp) (by simp)⟩
    rcases List.mem_cons.mp (I.stkSub b z) with q | q
    · exact f1 q
    · exact f2 q
  have loop : codeAny (model X.prog X.w) X.A (.compLoop (.ListComp elt [⟨.Name x px, iter, [], 0⟩] scope pos) 0 (.ref it) (.ref s2.heap.objs.size) (compEnvC scope cl s3.heap.objs.size X.env)) (RR (.ref s2.heap.objs.size) s3.heap.objs.size) s4 := by
    refine compLoop_one (fun n s' => ∃ i H' o, Inv (blk X x fv scope cl s3.heap.objs.size s3 (upd H s2.heap.objs.size (.lst [])) fp) [] (bst fv σ o) H' s' ∧ tn i s'.heap ∧ (∀ b ∈ fp, H' b = none) ∧ W i n H') ?_ m0
      ⟨0, _, none, I4, st4, fun b hb => (hf3 b hb).1, w0⟩
    rintro n s5 E' ⟨i, H5, o5, I5, st5, fr5, w5⟩
    rcases turn i n H5 w5 with ⟨stop, q⟩ | ⟨go, N, hN, step⟩
    · refine thn (T.done (blk X x fv scope cl s3.heap.objs.size s3 (upd H s2.heap.objs.size (.lst [])) fp) rfl rfl rfl hc i [] s5 _ H5 _ I5 (stat fr5) st5 stop) fun r s6 ⟨hr, I6⟩ => ?_
      subst hr
      obtain ⟨m6, hn6, _⟩ := I6.loc
      have un : Un (frs X.stack) fp H H5 s2.heap s6.heap := by
        have u1 : Un (frs X.stack) fp H (upd H s2.heap.objs.size (.lst [])) s2.heap s3.heap := Un.laid up3 (Nat.le_refl _) hD
        exact u1.trans I6.base
      have J6 : Inv X pins σ H5 s6 := by
        refine I.call' ?_ un I6.hok I6.bare fun b hb => ?_
        · have := I6.os
          rw [show (blk X x fv scope cl s3.heap.objs.size s3 (upd H s2.heap.objs.size (.lst [])) fp).s₀.os = s2.os by rw [← hs3]] at this
          exact this
        · obtain ⟨_, f1, f2, f3, f4, f5⟩ := hf b hb
          exact ⟨f3, f1, f4, f5⟩
      refine hRR _ _ s6 H5 m6 J6 ?_ hn6 q
      exact I3.fpOk (Nat.le_refl _) I6.free
    · refine thn (T.item (blk X x fv scope cl s3.heap.objs.size s3 (upd H s2.heap.objs.size (.lst [])) fp) rfl rfl rfl hc i [] s5 _ H5 _ I5 (stat fr5) st5 go) fun r s6 ⟨u, hr, h6⟩ => ?_
      subst hr
      refine thn h6 fun _ s7 ⟨v, H7, I7, r7, y7, st7, fr7⟩ => ?_
      have I7' := I7.pinned (stat fr7) (T.obj _ _ st7)
      refine blk_store B I7' r7 fun s8 I8 => ?_
      have e8 := he _ _ _ _ _ s8 _ H7 _ I8 (step v H7 y7)
      refine wpAny_mono e8 (fun y s9 ⟨yv, H9, I9, r9, ys, hD9, hz, n9⟩ => ?_) fun _ _ z => False.elim z
      have a9 := mt_append (X := blk X x fv scope cl s3.heap.objs.size s3 (upd H s2.heap.objs.size (.lst [])) fp) _ s9 _ H9 (.ref s2.heap.objs.size) [yv] (.ref s2.heap.objs.size) [y] (fun _ H10 => H10 = upd H9 s2.heap.objs.size (.lst (ys ++ [yv]))) I9 rfl (.cons r9 .nil)
        ⟨_, ys, yv, rfl, rfl, hD9, hz, rfl⟩
      refine wpAny_mono a9 (fun _ s10 ⟨_, H10, I10, _, e10⟩ => ?_) fun _ _ z => False.elim z
      subst e10
      obtain ⟨m', hm, w9⟩ := hN _ n9
      refine ⟨m', hm, i + 1, _, some v, I10.unpinned, T.keep _ _ _ st7 fun b hb o e => (I10.pin (b, o) (List.mem_append_right _ (List.mem_append_right _ (mem_pinsAt hb e)))).1, fun b hb => ?_, w9⟩
      obtain ⟨o, e, _⟩ := T.obj _ _ st7 b hb
      exact (I10.pin (b, o) (List.mem_append_right _ (List.mem_append_right _ (mem_pinsAt hb e)))).2.1
  exact codeAny_compStart_list loop (T.self _ 0 _ _ _ st4 loop)
end
end L2
namespace L2
open PySem PySem.Spec PyProof.Rows
section
variable {X : Cx} {elt iter : Expr} {x : Str} {px : Pos} {fv : List (Nat × Str)} {scope : Scope} {cl : List (Str × Addr)} {pos : Pos} {te : TE} {wi : TI}
/-- [elt for x in iter] as a value -/
theorem pe_lcomp (hc : X.calm = true) (B : BlkOk X x fv scope cl) (hi : PI X (.Name x px) iter wi) (he : ∀ C s H fp, PE (blk X x fv scope cl C s H fp) elt te)
    (hs : ∀ v, foldedSetIterable iter X.env v = pure v := by intro _; rfl) : PE X (.ListComp elt [⟨.Name x px, iter, [], 0⟩] scope pos) (tComp fv wi te) := by
  intro pins s σ H Q I h
  rw [eval_ListComp]
  refine wpAny_comprehension_free (use := none) rfl hs B.clos B.kind B.names (thn (hi pins s σ H _ I h) fun v s1 h1 => thn h1 fun itv s2 h2 => ?_)
  obtain ⟨it, fp, tn, J, H2, e, I2, T, st2, f2, rd⟩ := h2
  subst e
  refine blk_run (RR := fun acc C => compPost (model X.prog X.w) X.A X.xe none (EP X pins σ Q) acc C) hc B he I2 T st2 f2 rd ?_
  intro D C s' H' m' I' fC hn q
  exact ⟨m', hn, fun h' sb => ⟨.ref D, H', I'.turned (t' := s'.toks) (fun b o hb e => (sb.2 b hb).trans e) fC.1 fC.2.1 fC.2.2.2.1 fC.2.2.2.2.1 fC.2.2.2.2.2, rfl, q⟩⟩
end

/-! ### range(a, b, c) -/
/-- lo, lo + c, .. (n of them) -/
def Itrs (lo c : Int) (n : Nat) : It := ⟨fun i _ => i < n, fun i H x H' => H' = H ∧ x = .int (lo + i * c), fun i _ => n ≤ i⟩
section
variable {X : Cx} {tg : Expr}
def iRng3 (ta : TA) : TI := fun σ H R => ta σ H fun vs H1 => ∃ (i j k : Int) (n : Nat), vs = [.int i, .int j, .int k] ∧ k ≠ 0 ∧ k.natAbs < 1073741824 ∧ Builtin.Range.small i j k = true ∧ Builtin.Range.rangeSize i j k = n ∧ R (Itrs i k n) H1
end
/-! ### a comprehension's reading, by an invariant over the turn -/
theorem comp_list {K : PySem.W.Frag} {a : Addr} {xs : List V} {fv : List (Nat × Str)} {te : TE} {Q : VK} {σ : St} {H1 : Hp} {D : Addr} (Pv : Nat → Hp → Prop) (h0 : Pv 0 (upd H1 D (.lst []))) (hl : ∀ i H, i ≤ xs.length → Pv i H → SqL K H a xs)
    (hs : ∀ i v H, xs[i]? = some v → Pv i H → te (bst fv σ (some v)) H fun y H2 => ∃ ys, H2 D = some (.lst ys) ∧ ys.length < sizeLine ∧ Pv (i + 1) (upd H2 D (.lst (ys ++ [y])))) (hd : ∀ H, Pv xs.length H → Q (.ref D) H) :
    ∃ W : Nat → Nat → Hp → Prop, (∃ m, W 0 m (upd H1 D (.lst []))) ∧ ∀ i m H, W i m H →
      ((Itl K a).stop i H ∧ Q (.ref D) H) ∨ ((Itl K a).go i H ∧ ∃ N : Hp → Prop, (∀ H', N H' → ∃ m', m' < m ∧ W (i + 1) m' H') ∧ ∀ v H', (Itl K a).yld i H v H' → te (bst fv σ (some v)) H' fun y H2 => ∃ ys, H2 D = some (.lst ys) ∧ ys.length < sizeLine ∧ N (upd H2 D (.lst (ys ++ [y])))) := by
  refine ⟨fun i m H => m = xs.length - i ∧ i ≤ xs.length ∧ Pv i H, ⟨xs.length, by simp, Nat.zero_le _, h0⟩, ?_⟩
  rintro i m H ⟨rfl, hi, p⟩
  have q := hl i H hi p
  by_cases hlt : i < xs.length
  · refine .inr ⟨⟨xs, xs[i], q, List.getElem?_eq_getElem hlt⟩, Pv (i + 1), fun H' p' => ⟨xs.length - (i + 1), by omega, rfl, hlt, p'⟩, fun v H' y => ?_⟩
    obtain ⟨e, y⟩ := y
    subst e
    exact hs i v _ (y xs q) p
  · have e : i = xs.length := by omega
    subst e
    exact .inl ⟨⟨xs, q, Nat.le_refl _⟩, hd H p⟩
theorem comp_range {lo : Int} {n : Nat} {fv : List (Nat × Str)} {te : TE} {Q : VK} {σ : St} {H1 : Hp} {D : Addr} (Pv : Nat → Hp → Prop) (h0 : Pv 0 (upd H1 D (.lst [])))
    (hs : ∀ i H, i < n → Pv i H → te (bst fv σ (some (.int (lo + i)))) H fun y H2 => ∃ ys, H2 D = some (.lst ys) ∧ ys.length < sizeLine ∧ Pv (i + 1) (upd H2 D (.lst (ys ++ [y])))) (hd : ∀ H, Pv n H → Q (.ref D) H) :
    ∃ W : Nat → Nat → Hp → Prop, (∃ m, W 0 m (upd H1 D (.lst []))) ∧ ∀ i m H, W i m H →
      ((Itr lo n).stop i H ∧ Q (.ref D) H) ∨ ((Itr lo n).go i H ∧ ∃ N : Hp → Prop, (∀ H', N H' → ∃ m', m' < m ∧ W (i + 1) m' H') ∧ ∀ v H', (Itr lo n).yld i H v H' → te (bst fv σ (some v)) H' fun y H2 => ∃ ys, H2 D = some (.lst ys) ∧ ys.length < sizeLine ∧ N (upd H2 D (.lst (ys ++ [y])))) := by
  refine ⟨fun i m H => m = n - i ∧ i ≤ n ∧ Pv i H, ⟨n, by simp, Nat.zero_le _, h0⟩, ?_⟩
  rintro i m H ⟨rfl, hi, p⟩
  by_cases hlt : i < n
  · refine .inr ⟨hlt, Pv (i + 1), fun H' p' => ⟨n - (i + 1), by omega, rfl, hlt, p'⟩, fun v H' y => ?_⟩
    obtain ⟨e, y⟩ := y
    subst e y
    exact hs i _ hlt p
  · have e : i = n := by omega
    subst e
    exact .inl ⟨Nat.le_refl _, hd H p⟩

/-! ### what the names of a block are, by places -/
theorem sub_nil {cells : List (Str × Addr)} : ∀ y c, ([] : List (Str × Addr)).lookup y = some c → cells.lookup y = some c := fun _ _ h => nomatch h
theorem sub_cons {n : Str} {c0 : Addr} {r cells : List (Str × Addr)} (h0 : cells.lookup n = some c0) (h : ∀ y c, r.lookup y = some c → cells.lookup y = some c) : ∀ y c, ((n, c0) :: r).lookup y = some c → cells.lookup y = some c := fun y c q => by
  rw [List.lookup_cons] at q
  cases e : y == n with
  | true =>
    rw [e] at q
    cases q
    rw [eq_of_beq e]; exact h0
  | false =>
    rw [e] at q
    exact h y c q
theorem has_of {l : List (Str × NameKind)} {cl : List (Str × Addr)} (h : (l.all fun p => (p.2 != .cell && p.2 != .free) || (cl.lookup p.1).isSome) = true) : ∀ y, (l.lookup y = some .cell ∨ l.lookup y = some .free) → ∃ c, cl.lookup y = some c := fun y hy => by
  have key : ∀ k, l.lookup y = some k → (k = .cell ∨ k = .free) → ∃ c, cl.lookup y = some c := fun k e hk => by
    have q := List.all_eq_true.mp h (y, k) (PySem.mem_of_lookup e)
    have z : (k != .cell && k != .free) = false := by rcases hk with rfl | rfl <;> rfl
    rw [show ((y, k).2 != .cell && (y, k).2 != .free) = false from z, Bool.false_or] at q
    exact Option.isSome_iff_exists.mp q
  rcases hy with e | e
  · exact key _ e (.inl rfl)
  · exact key _ e (.inr rfl)
def FvOk (X : Cx) (x : Str) (scope : Scope) (cl : List (Str × Addr)) (fv : List (Nat × Str)) : Prop :=
  ∀ p ∈ fv, p.2 ≠ x ∧ X.N[p.1]? = some p.2 ∧ (X.env.scope.names.lookup p.2 = some .cell ∨ X.env.scope.names.lookup p.2 = some .free) ∧
    ((relabel scope X.env).names.lookup p.2 = some .cell ∨ (relabel scope X.env).names.lookup p.2 = some .free) ∧ ∃ c, cl.lookup p.2 = some c
theorem fv_nil {X : Cx} {x : Str} {scope : Scope} {cl : List (Str × Addr)} : FvOk X x scope cl [] := fun _ h => nomatch h
theorem fv_cons {X : Cx} {x : Str} {scope : Scope} {cl : List (Str × Addr)} {fv : List (Nat × Str)} (i : Nat) (y : Str) (h1 : y ≠ x) (h2 : X.N[i]? = some y) (h3 : X.env.scope.names.lookup y = some .cell ∨ X.env.scope.names.lookup y = some .free)
    (h4 : (relabel scope X.env).names.lookup y = some .cell ∨ (relabel scope X.env).names.lookup y = some .free) (h5 : ∃ c, cl.lookup y = some c) (r : FvOk X x scope cl fv) : FvOk X x scope cl ((i, y) :: fv) := fun p hp => by
  rcases List.mem_cons.mp hp with rfl | hp
  · exact ⟨h1, h2, h3, h4, h5⟩
  · exact r p hp
theorem blkok {X : Cx} {x : Str} {fv : List (Nat × Str)} {scope : Scope} {cl : List (Str × Addr)} (clos : closureFor scope X.env = pure cl) (sub : ∀ y c, cl.lookup y = some c → X.env.cells.lookup y = some c) (fvs : FvOk X x scope cl fv)
    (kind : scope.kind = .function := by rfl) (here : scope.names.lookup x = some .local := by rfl) (nocell : ∀ y ∈ scope.names, y.2 ≠ .cell := by decide +kernel)
    (names : ∀ y ∈ scope.names, y.2 = .local → scope.names.lookup y.1 = some .local := by decide +kernel)
    (has : ((relabel scope X.env).names.all fun p => (p.2 != .cell && p.2 != .free) || (cl.lookup p.1).isSome) = true := by rfl) : BlkOk X x fv scope cl :=
  ⟨clos, nocell, kind, names, here, sub, has_of has, fvs⟩

section
variable {X : Cx}
/-! ### isinstance(x, T), T a built-in type -/
theorem call_isinst : CallR X (.builtin "isinstance") (fun xs H Q => ∃ x n t b, xs = [x, .ty n] ∧ TyOf X.K H x t ∧ PySem.W.kitOne X.K t (.type n) = some b ∧ Q (.bl b) H) := by
  intro pins s σ H xs us Q I rv h
  obtain ⟨x, n, t, b, rfl, ty, e, q⟩ := h
  cases rv with
  | cons r rr =>
    cases rr with
    | cons r' rr =>
      cases rr
      cases r'
      exact isinst_ok I r ty e fun tk => ⟨.bl b, H, I.tok _, rfl, q⟩
/-! ### i.bit_length() -/
theorem mt_bitlen : MtR X "int.bit_length" (fun x xs H Q => ∃ i, x = .int i ∧ xs = [] ∧ Q (.int (Builtin.Int.intBits i : Nat)) H) := by
  intro pins s σ H x xs v us Q I rx rv h
  obtain ⟨i, rfl, rfl, q⟩ := h
  cases rv
  obtain ⟨t, rfl⟩ := rx
  exact call_gives F.slot_int_bit_length (typeIs_int s i t) F.entry_int_bit_length (F.args_int_bit_length_1 _) (PySem.AutoIntG2.int_bit_length_int_0 i t) ⟨.int _, H, I.tok _, ⟨_, rfl⟩, q⟩
/-! ### products and quotients by size -/
end
theorem intBits_le_of {i : Int} {k : Nat} (h : i.natAbs < 2 ^ k) : Builtin.Int.intBits i ≤ k := by
  unfold Builtin.Int.intBits
  split
  · exact Nat.zero_le _
  · rename_i hz
    have hz' : i ≠ 0 := by simpa using hz
    have : i.natAbs.log2 < k := (Nat.log2_lt (by omega)).mpr h
    omega
theorem mulOk_of {i j : Int} {k l : Nat} (h1 : i.natAbs < 2 ^ k) (h2 : j.natAbs < 2 ^ l) (h : k + l ≤ 134217728) : IntMulOk i j := IntMulOk.of_le (intBits_le_of h1) (intBits_le_of h2) h
/-- // by a number of either sign below 2 ^ 9000 -/
theorem op_fdivB {X : Cx} : OpR X (binaryOp .FloorDiv) (rI (fun _ j => j ≠ 0 ∧ j.natAbs < 2 ^ 9000) fun i j => .int (i.fdiv j)) :=
  opI fun _ j _ _ _ _ _ hc q => floordiv_int hc.1 q (.inl (PyProof.noPylong_of_log2 ((Nat.log2_lt (by have := hc.1; omega)).mpr hc.2)))
end L2
namespace L2
open PySem PySem.Spec PyProof.Rows
/-! ### the readings, applied: for simp only -/
section
variable {σ : St} {H : Hp} {Q : VK} {D : Ends} {t u : TS} {te ta tb tc to ti : TE} {tt : TT} {tA : TA} {i : Nat} {x y v : V} {r r' : R2} {QT : Bool → Hp → Prop} {QA : List V → Hp → Prop}
theorem a_seq : tSeq t u D σ H = t { D with nx := u D } σ H := rfl
theorem a_next : tNext D σ H = D.nx σ H := rfl
theorem a_brk : tBreak D σ H = D.bk σ H := rfl
theorem a_cnt : tCont D σ H = D.ct σ H := rfl
theorem a_drop : tDrop te D σ H = te σ H fun _ H1 => D.nx σ H1 := rfl
theorem a_ret : tRet te D σ H = te σ H D.rt := rfl
theorem a_retN : tRetN D σ H = D.rt .non H := rfl
theorem a_if : tIfS tt t u D σ H = tt σ H fun b H1 => if b = true then t D σ H1 else u D σ H1 := rfl
theorem a_asg {g : TG} : tAsg te g D σ H = te σ H fun x H1 => g x σ H1 D.nx := rfl
theorem a_gname {Q : St → Hp → Prop} : gName i v σ H Q = Q (σ.set i (some v)) H := rfl
theorem a_gsub {ts : TSet} {Q : St → Hp → Prop} : gSub to ti ts v σ H Q = to σ H fun o H1 => ti σ H1 fun i H2 => ts o i v H2 fun H3 => Q σ H3 := rfl
theorem a_gtup {K : PySem.W.Frag} {n : Nat} {ts : TGs} {Q : St → Hp → Prop} : gTup K n ts v σ H Q = ∃ a xs, v = .ref a ∧ SqT K H a xs ∧ xs.length = n ∧ ts xs σ H Q := rfl
theorem a_gnil {vs : List V} {Q : St → Hp → Prop} : gNil vs σ H Q = (vs = [] ∧ Q σ H) := rfl
theorem a_gcons {g : TG} {gs : TGs} {vs : List V} {Q : St → Hp → Prop} : gCons g gs vs σ H Q = ∃ v r, vs = v :: r ∧ g v σ H fun σ' H' => gs r σ' H' Q := rfl
theorem a_aug {ip : TIp} : tAug i te ip D σ H = ∃ x, σ[i]? = some (some x) ∧ te σ H fun y H1 => ip x y H1 fun z H2 => D.nx (σ.set i (some z)) H2 := rfl
theorem a_augS {tget : V → V → Hp → VK → Prop} {tip : TIp} {tset : TSet} : tAugS to ti te tget tip tset D σ H = to σ H fun o H1 => ti σ H1 fun i H2 => tget o i H2 fun x H3 => te σ H3 fun y H4 => tip x y H4 fun z H5 => tset o i z H5 fun H6 => D.nx σ H6 := rfl
theorem a_ipI {f : Int → Int → Int} : ipI f x y H Q = ∃ i j, x = .int i ∧ y = .int j ∧ Q (.int (f i j)) H := rfl
theorem a_var : tVar i σ H Q = ∃ v, σ[i]? = some (some v) ∧ Q v H := rfl
theorem a_c : tC v σ H Q = Q v H := rfl
theorem a_op : tOp r ta tb σ H Q = ta σ H fun x H1 => tb σ H1 fun y H2 => r x y H2 Q := rfl
theorem a_un {r : V → Hp → VK → Prop} : tUn r ta σ H Q = ta σ H fun x H1 => r x H1 Q := rfl
theorem a_rI {C : Int → Int → Prop} {g : Int → Int → V} : rI C g x y H Q = ∃ i j, x = .int i ∧ y = .int j ∧ C i j ∧ Q (g i j) H := rfl
theorem a_rI0 {g : Int → Int → V} : rI0 g x y H Q = ∃ i j, x = .int i ∧ y = .int j ∧ Q (g i j) H := rfl
theorem a_rU {g : Int → V} : rU g x H Q = ∃ i, x = .int i ∧ Q (g i) H := rfl
theorem a_eqI {i j : Int} : rEq (.int i) (.int j) H Q = Q (.bl (decide (i = j))) H := by
  show (true = true ∧ Q (.bl (decide (V.int i = V.int j))) H) = _
  rw [show decide (V.int i = V.int j) = decide (i = j) by rw [dec_int]; exact Bool.beq_eq_decide_eq i j]
  simp
theorem a_neI {i j : Int} : rNe (.int i) (.int j) H Q = Q (.bl (!decide (i = j))) H := by
  show (true = true ∧ Q (.bl (!decide (V.int i = V.int j))) H) = _
  rw [show decide (V.int i = V.int j) = decide (i = j) by rw [dec_int]; exact Bool.beq_eq_decide_eq i j]
  simp
theorem a_eqB {i j : Bool} : rEq (.bl i) (.bl j) H Q = Q (.bl (decide (i = j))) H := by
  show (true = true ∧ Q (.bl (decide (V.bl i = V.bl j))) H) = _
  cases i <;> cases j <;> simp
theorem a_neB {i j : Bool} : rNe (.bl i) (.bl j) H Q = Q (.bl (!decide (i = j))) H := by
  show (true = true ∧ Q (.bl (!decide (V.bl i = V.bl j))) H) = _
  cases i <;> cases j <;> simp
theorem a_tB : tB te σ H QT = te σ H fun x H1 => ∃ c, x = .bl c ∧ QT c H1 := rfl
theorem a_test : tTest te σ H QT = te σ H fun x H' => ∃ k, x = .bl k ∧ QT k H' := rfl
theorem a_and {tt' : TT} : tAnd tt tt' σ H QT = tt σ H fun c H1 => if c = true then tt' σ H1 QT else QT false H1 := rfl
theorem a_or {tt' : TT} : tOr tt tt' σ H QT = tt σ H fun c H1 => if c = true then QT true H1 else tt' σ H1 QT := rfl
theorem a_not : tNot tt σ H QT = tt σ H fun c H1 => QT (!c) H1 := rfl
theorem a_andV : tAndV ta tb σ H Q = ta σ H fun x H1 => ∃ c, x = .bl c ∧ if c = true then tb σ H1 Q else Q (.bl false) H1 := rfl
theorem a_orV : tOrV ta tb σ H Q = ta σ H fun x H1 => ∃ c, x = .bl c ∧ if c = true then Q (.bl true) H1 else tb σ H1 Q := rfl
theorem a_notV : tNotV ta σ H Q = ta σ H fun x H1 => ∃ c, x = .bl c ∧ Q (.bl (!c)) H1 := rfl
theorem a_ifE : tIf tt ta tb σ H Q = tt σ H fun c H1 => if c = true then ta σ H1 Q else tb σ H1 Q := rfl
theorem a_chain : tChain r r' ta tb tc σ H Q = ta σ H fun x H1 => tb σ H1 fun y H2 => r x y H2 fun z H3 => ∃ k, z = .bl k ∧ (if k = true then tc σ H3 fun w' H4 => r' y w' H4 Q else Q (.bl false) H3) := rfl
theorem a_nil : tNil σ H QA = QA [] H := rfl
theorem a_cons : tCons ta tA σ H QA = ta σ H fun x H1 => tA σ H1 fun xs H2 => QA (x :: xs) H2 := rfl
theorem a_lst : tLst tA σ H Q = tA σ H fun xs H1 => xs.length ≤ sizeLine ∧ ∀ p, H1 p = none → Q (.ref p) (upd H1 p (.lst xs)) := rfl
theorem a_tup : tTup tA σ H Q = tA σ H fun xs H1 => xs.length ≤ sizeLine ∧ ∀ p, H1 p = none → Q (.ref p) (upd H1 p (.tup xs)) := rfl
theorem a_call {sp : Sp} {dvs : List V} {E : XK} : tCall sp dvs E tA σ H Q = tA σ H fun vs H1 => sp (vs ++ dvs) H1 Q E := rfl
theorem a_cb {r : List V → Hp → VK → Prop} : tCB r tA σ H Q = tA σ H fun vs H1 => r vs H1 Q := rfl
theorem a_bm0 {K : PySem.W.Frag} {T : String} {r : V → List V → Hp → VK → Prop} : tBM0 K T r to σ H Q = to σ H fun x H1 => tyV K T x H1 ∧ r x [] H1 Q := rfl
theorem a_bm {K : PySem.W.Frag} {T : String} {r : V → List V → Hp → VK → Prop} : tBM K T r to tA σ H Q = to σ H fun x H1 => tyV K T x H1 ∧ tA σ H1 fun xs H2 => r x xs H2 Q := rfl
theorem a_sl {r : V → Option Int → Option Int → Hp → VK → Prop} {tl th : TO} : tSl r te tl th σ H Q = te σ H fun x H1 => tl σ H1 fun l H2 => th σ H2 fun u H3 => r x l u H3 Q := rfl
theorem a_nopart {Q : Option Int → Hp → Prop} : tNoPart σ H Q = Q none H := rfl
theorem a_part {Q : Option Int → Hp → Prop} : tPart te σ H Q = te σ H fun x H1 => ∃ i, x = .int i ∧ Q (some i) H1 := rfl
theorem a_tyI {K : PySem.W.Frag} {T : String} {i : Int} : tyV K T (.int i) H = (T = "int") := rfl
theorem a_tyL {K : PySem.W.Frag} {p : Addr} {xs : List V} (h : SqL K H p xs) : tyV K "list" (.ref p) H := .inl ⟨rfl, xs, h⟩
end
/-! ### loops, named -/
def Loop (J : It) (g : TG) (tb : TS) (D : Ends) (σ : St) (H : Hp) : Prop := ∃ W : Nat → Nat → St → Hp → Prop, (∃ m, W 0 m σ H) ∧ ∀ i m σ H, W i m σ H →
  (J.stop i H ∧ D.nx σ H) ∨ (J.go i H ∧ ∃ N : St → Hp → Prop, (∀ σ' H', N σ' H' → ∃ m', m' < m ∧ W (i + 1) m' σ' H') ∧ ∀ x H', J.yld i H x H' → g x σ H' fun σ2 H2 => tb { D with nx := N, ct := N, bk := D.nx } σ2 H2)
theorem a_for {wi : TI} {g : TG} {tb : TS} {D : Ends} {σ : St} {H : Hp} : tFor wi g tb D σ H = wi σ H fun J H1 => Loop J g tb D σ H1 := rfl
def CLoop (J : It) (fv : List (Nat × Str)) (te : TE) (Q : VK) (σ : St) (H1 : Hp) (D : Addr) : Prop := ∃ W : Nat → Nat → Hp → Prop, (∃ m, W 0 m (upd H1 D (.lst []))) ∧ ∀ i m H, W i m H →
  (J.stop i H ∧ Q (.ref D) H) ∨ (J.go i H ∧ ∃ N : Hp → Prop, (∀ H', N H' → ∃ m', m' < m ∧ W (i + 1) m' H') ∧ ∀ v H', J.yld i H v H' → te (bst fv σ (some v)) H' fun y H2 => ∃ ys, H2 D = some (.lst ys) ∧ ys.length < sizeLine ∧ N (upd H2 D (.lst (ys ++ [y]))))
theorem a_comp {fv : List (Nat × Str)} {wi : TI} {te : TE} {σ : St} {H : Hp} {Q : VK} : tComp fv wi te σ H Q = wi σ H fun J H1 => ∀ D, H1 D = none → CLoop J fv te Q σ H1 D := rfl
theorem a_ilist {K : PySem.W.Frag} {tl : TE} {σ : St} {H : Hp} {R : It → Hp → Prop} : iList K tl σ H R = tl σ H fun x H1 => ∃ a, x = .ref a ∧ (∃ xs, SqL K H1 a xs) ∧ R (Itl K a) H1 := rfl
theorem a_itup {K : PySem.W.Frag} {tl : TE} {σ : St} {H : Hp} {R : It → Hp → Prop} : iTup K tl σ H R = tl σ H fun x H1 => ∃ a, x = .ref a ∧ (∃ xs, SqT K H1 a xs) ∧ R (Itt K a) H1 := rfl
theorem a_irng1 {ta : TA} {σ : St} {H : Hp} {R : It → Hp → Prop} : iRng1 ta σ H R = ta σ H fun vs H1 => ∃ j : Int, vs = [.int j] ∧ -(2 ^ 62) ≤ j ∧ j < 2 ^ 62 ∧ R (Itr 0 j.toNat) H1 := rfl
theorem a_irng2 {ta : TA} {σ : St} {H : Hp} {R : It → Hp → Prop} : iRng2 ta σ H R = ta σ H fun vs H1 => ∃ i j : Int, vs = [.int i, .int j] ∧ (-(2 ^ 62) ≤ i ∧ i < 2 ^ 62 ∧ -(2 ^ 62) ≤ j ∧ j < 2 ^ 62) ∧ R (Itr i (j - i).toNat) H1 := rfl
theorem a_irng3 {ta : TA} {σ : St} {H : Hp} {R : It → Hp → Prop} : iRng3 ta σ H R = ta σ H fun vs H1 => ∃ (i j k : Int) (n : Nat), vs = [.int i, .int j, .int k] ∧ k ≠ 0 ∧ k.natAbs < 1073741824 ∧ Builtin.Range.small i j k = true ∧ Builtin.Range.rangeSize i j k = n ∧ R (Itrs i k n) H1 := rfl
theorem while_of {c : TT} {tb : TS} {D : Ends} {σ : St} {H : Hp} (Pv : Nat → St → Hp → Prop) (m : Nat) (h0 : Pv m σ H)
    (hs : ∀ m σ H, Pv m σ H → c σ H fun b H1 => if b = true then ∃ N : St → Hp → Prop, (∀ σ' H', N σ' H' → ∃ m', m' < m ∧ Pv m' σ' H') ∧ tb { D with nx := N, ct := N, bk := D.nx } σ H1 else D.nx σ H1) : tWhile c tb D σ H := ⟨Pv, ⟨m, h0⟩, hs⟩
section
variable {σ : St} {H : Hp} {Q : VK} {x y v : V} {K : PySem.W.Frag}
theorem a_rslL {lo hi : Option Int} : rSlL K x lo hi H Q = ∃ a xs, x = .ref a ∧ SqL K H a xs ∧ ∀ p, H p = none → Q (.ref p) (upd H p (.lst (cutV xs lo hi))) := rfl
theorem a_ixL : rIxL K x y H Q = ∃ p xs i v, x = .ref p ∧ y = .int i ∧ SqL K H p xs ∧ atI xs i = some v ∧ Q v H := rfl
theorem a_ixT : rIxT K x y H Q = ∃ p xs i v, x = .ref p ∧ y = .int i ∧ SqT K H p xs ∧ atI xs i = some v ∧ Q v H := rfl
theorem a_setL {Q : Hp → Prop} : rSetL x y v H Q = ∃ p xs k j, x = .ref p ∧ y = .int k ∧ H p = some (.lst xs) ∧ ixN xs.length k = some j ∧ Q (upd H p (.lst (xs.set j v))) := rfl
theorem a_app {vs : List V} : rAppend x vs H Q = ∃ l xs y, x = .ref l ∧ vs = [y] ∧ H l = some (.lst xs) ∧ xs.length < sizeLine ∧ Q .non (upd H l (.lst (xs ++ [y]))) := rfl
theorem cutV_map (ns : List Int) (lo hi : Option Int) : cutV (ns.map V.int) lo hi = ((ns.drop (HT.sIx ns.length 0 lo)).take (HT.sIx ns.length ns.length hi - HT.sIx ns.length 0 lo)).map V.int := by
  unfold cutV
  rw [List.length_map, List.map_take, List.map_drop]
end
/-! ### the built-in names -/
theorem bt_len : bootBuiltins "len" = some (.builtin "len") := by decide +kernel
theorem bt_abs : bootBuiltins "abs" = some (.builtin "abs") := by decide +kernel
theorem bt_isinstance : bootBuiltins "isinstance" = some (.builtin "isinstance") := by decide +kernel
theorem bt_max : bootBuiltins "max" = some (.builtin "max") := by decide +kernel
theorem bt_bool : bootBuiltins "bool" = some (.type "bool") := by decide +kernel
theorem bt_list : bootBuiltins "list" = some (.type "list") := by decide +kernel
theorem bt_ValueError : bootBuiltins "ValueError" = some (.type "ValueError") := by decide +kernel
/-! ### a block cut by a word of one's own -/
def tMid (t u : TS) : TS := fun D σ H => ∃ M : St → Hp → Prop, t { D with nx := M } σ H ∧ ∀ σ' H', M σ' H' → u D σ' H'
theorem pss_mid {X : Cx} {st : Stmt} {rest : List Stmt} {t u : TS} (h1 : PS X st t) (h2 : PSs X rest u) : PSs X (st :: rest) (tMid t u) := by
  intro pins s σ H D I h
  obtain ⟨M, h, hM⟩ := h
  refine wpAny_execs_cons (thn (h1 pins s σ H { D with nx := M } I h) fun f s1 q => ?_)
  cases f with
  | next =>
    obtain ⟨σ', H', I', q⟩ := q
    exact h2 pins s1 σ' H' D I' (hM σ' H' q)
  | ret v => exact q
  | brk => exact q
  | cont => exact q
theorem mid_of {t u : TS} {D : Ends} {σ : St} {H : Hp} (M : St → Hp → Prop) (h1 : t { D with nx := M } σ H) (h2 : ∀ σ' H', M σ' H' → u D σ' H') : tMid t u D σ H := ⟨M, h1, h2⟩
theorem a_cxK {CX : CXT} {P : Program} {w : World} {K : PySem.W.Frag} {mg : Str → Option Value} {base : Heap} {N : List Str} {qual : Str} {scope : Scope} {f : Addr} {cd : Value} {A : Around} {outer : List Env} {s : Shared} {H : Hp} {E : XK} :
    (cxOf CX P w K mg base N qual scope f cd A outer s H E).K = K := rfl
/-! ### the loops' words -/
section
variable {K : PySem.W.Frag} {a : Addr} {xs : List V} {g : TG} {tb : TS} {D : Ends} {σ : St} {H H1 : Hp} {fv : List (Nat × Str)} {te : TE} {Q : VK} {L : Addr} {lo c : Int} {n : Nat}
theorem cl_list (Pv : Nat → Hp → Prop) (h0 : Pv 0 (upd H1 L (.lst []))) (hl : ∀ i H, i ≤ xs.length → Pv i H → SqL K H a xs)
    (hs : ∀ i v H, xs[i]? = some v → Pv i H → te (bst fv σ (some v)) H fun y H2 => ∃ ys, H2 L = some (.lst ys) ∧ ys.length < sizeLine ∧ Pv (i + 1) (upd H2 L (.lst (ys ++ [y])))) (hd : ∀ H, Pv xs.length H → Q (.ref L) H) :
    CLoop (Itl K a) fv te Q σ H1 L := comp_list Pv h0 hl hs hd
theorem cl_range (Pv : Nat → Hp → Prop) (h0 : Pv 0 (upd H1 L (.lst [])))
    (hs : ∀ i H, i < n → Pv i H → te (bst fv σ (some (.int (lo + i)))) H fun y H2 => ∃ ys, H2 L = some (.lst ys) ∧ ys.length < sizeLine ∧ Pv (i + 1) (upd H2 L (.lst (ys ++ [y])))) (hd : ∀ H, Pv n H → Q (.ref L) H) :
    CLoop (Itr lo n) fv te Q σ H1 L := comp_range Pv h0 hs hd
theorem lp_list (Pv : Nat → St → Hp → Prop) (h0 : Pv 0 σ H) (hl : ∀ i σ H, i ≤ xs.length → Pv i σ H → SqL K H a xs)
    (hs : ∀ i v σ H, xs[i]? = some v → Pv i σ H → g v σ H fun σ2 H2 => tb { D with nx := Pv (i + 1), ct := Pv (i + 1), bk := D.nx } σ2 H2) (hd : ∀ σ H, Pv xs.length σ H → D.nx σ H) : Loop (Itl K a) g tb D σ H := for_list Pv h0 hl hs hd
theorem lp_range (Pv : Nat → St → Hp → Prop) (h0 : Pv 0 σ H)
    (hs : ∀ i σ H, i < n → Pv i σ H → g (.int (lo + i)) σ H fun σ2 H2 => tb { D with nx := Pv (i + 1), ct := Pv (i + 1), bk := D.nx } σ2 H2) (hd : ∀ σ H, Pv n σ H → D.nx σ H) : Loop (Itr lo n) g tb D σ H := for_range Pv h0 hs hd
end
end L2
namespace L2
open PySem PySem.Spec PyProof.Rows
section
variable {X : Cx}
/-! ### xs[i] by values (for xs[i] op= e) -/
/-! ### == of lists, at any depth -/
mutual
inductive DV (K : PySem.W.Frag) (H : Hp) : V → PyData → Prop
  | non : DV K H .non .none
  | bl (b) : DV K H (.bl b) (.bool b)
  | int (i) : DV K H (.int i) (.int i)
  | str (x) : DV K H (.str x) (.str x)
  | lst {a xs ds} : SqL K H a xs → DVs K H xs ds → DV K H (.ref a) (.list ds)
  | tup {a xs ds} : SqT K H a xs → DVs K H xs ds → DV K H (.ref a) (.tuple ds)
inductive DVs (K : PySem.W.Frag) (H : Hp) : List V → List PyData → Prop
  | nil : DVs K H [] []
  | cons {x xs d ds} : DV K H x d → DVs K H xs ds → DVs K H (x :: xs) (d :: ds)
end
theorem DVs.ints {K : PySem.W.Frag} {H : Hp} : ∀ ns : List Int, DVs K H (ns.map V.int) (ns.map PyData.int)
  | [] => .nil
  | n :: r => .cons (.int n) (DVs.ints r)
theorem DV.ints {K : PySem.W.Frag} {H : Hp} {a : Addr} {ns : List Int} (h : SqL K H a (ns.map V.int)) : DV K H (.ref a) (.list (ns.map PyData.int)) := .lst h (DVs.ints ns)
mutual
theorem DV.reads {pins : List (Addr × Obj)} {σ : St} {H : Hp} {s : Shared} (I : Inv X pins σ H s) : ∀ {x : V} {d : PyData} {v : Value}, DV X.K H x d → RelV x v → ∃ as, Reads s.heap v d as
  | _, _, _, .non, r => by cases r; exact ⟨_, .none⟩
  | _, _, _, .bl b, r => by cases r; exact ⟨_, .bool b⟩
  | _, _, _, .int i, r => by obtain ⟨t, rfl⟩ := r; exact ⟨_, .int i t⟩
  | _, _, _, .str x, r => by obtain ⟨t, rfl⟩ := r; exact ⟨_, .str x t⟩
  | _, _, _, .lst hq hs, r => by
    cases r
    obtain ⟨its, rv, ⟨o, n, e, c, _, hd⟩, _⟩ := I.list hq
    obtain ⟨as, ra⟩ := DVs.reads I hs rv
    exact ⟨_, .list e c hd (by simpa using ra)⟩
  | _, _, _, .tup hq hs, r => by
    cases r
    obtain ⟨its, rv, ⟨o, e, c, n, hd⟩, _⟩ := I.tuple hq
    obtain ⟨as, ra⟩ := DVs.reads I hs rv
    exact ⟨_, .tuple e c hd (by simpa using ra)⟩
theorem DVs.reads {pins : List (Addr × Obj)} {σ : St} {H : Hp} {s : Shared} (I : Inv X pins σ H s) : ∀ {xs : List V} {ds : List PyData} {vs : List Value}, DVs X.K H xs ds → Vals xs vs → ∃ as, ReadsAll s.heap vs ds as
  | _, _, _, .nil, r => by cases r; exact ⟨_, .nil⟩
  | _, _, _, .cons h t, r => by
    cases r with
    | cons r1 r2 =>
      obtain ⟨as, ra⟩ := DV.reads I h r1
      obtain ⟨bs, rb⟩ := DVs.reads I t r2
      exact ⟨_, .cons ra rb⟩
end
/-- ==, != of lists, by what they hold -/
theorem op_eqD (hu : X.A.units + 64 < cLine) : OpR X (compareOp .Eq) (fun x y H Q => ∃ da db, DV X.K H x da ∧ DV X.K H y db ∧ da.canLay0 = true ∧ db.canLay0 = true ∧ da.depth ≤ 64 ∧ Q (.bl (PyData.eqv da db)) H) := by
  intro pins s σ H x y v u Q I rx ry h
  obtain ⟨da, db, hx, hy, c1, c2, hd, q⟩ := h
  obtain ⟨as, ra⟩ := hx.reads I rx
  obtain ⟨bs, rb⟩ := hy.reads I ry
  exact PySem.SeqAt.eqOverData _ _ _ _ _ _ _ _ _ _ _ _ ra rb c1 c2 (by omega) ⟨.bl _, H, I, rfl, q⟩
theorem op_neD (hu : X.A.units + 64 < cLine) : OpR X (compareOp .NotEq) (fun x y H Q => ∃ da db, DV X.K H x da ∧ DV X.K H y db ∧ da.canLay0 = true ∧ db.canLay0 = true ∧ da.depth ≤ 64 ∧ Q (.bl (!PyData.eqv da db)) H) := by
  intro pins s σ H x y v u Q I rx ry h
  obtain ⟨da, db, hx, hy, c1, c2, hd, q⟩ := h
  obtain ⟨as, ra⟩ := hx.reads I rx
  obtain ⟨bs, rb⟩ := hy.reads I ry
  exact PySem.SeqAt.neOverData _ _ _ _ _ _ _ _ _ _ _ _ ra rb c1 c2 (by omega) ⟨.bl _, H, I, rfl, q⟩
end
theorem eqvAll_ints : ∀ xs ys : List Int, PyData.eqvAll (xs.map PyData.int) (ys.map PyData.int) = decide (xs = ys)
  | [], [] => by simp [PyData.eqvAll]
  | [], _ :: _ => by simp [PyData.eqvAll]
  | _ :: _, [] => by simp [PyData.eqvAll]
  | x :: xs, y :: ys => by
    have ih := eqvAll_ints xs ys
    simp only [List.map_cons, PyData.eqvAll, PyData.eqv, ih]
    by_cases h : x = y
    · subst h; simp
    · simp [h]
theorem lay_ints : ∀ xs : List Int, PyData.canLayAll0 (xs.map PyData.int) = true
  | [] => rfl
  | _ :: r => by simp [PyData.canLayAll0, PyData.canLay0, lay_ints r]
theorem depth_ints : ∀ xs : List Int, PyData.depthAll (xs.map PyData.int) = 0
  | [] => rfl
  | _ :: r => by simp [PyData.depthAll, PyData.depth, depth_ints r]

/-! ### enumerate(xs) -/
/-- (0, x_0), (1, x_1) .. of the list at a: each a new tuple -/
def Ite (K : PySem.W.Frag) (a : Addr) : It :=
  ⟨fun i H => ∃ xs x, SqL K H a xs ∧ xs[i]? = some x, fun i H v H' => ∃ p x, H p = none ∧ v = .ref p ∧ H' = upd H p (.tup [.int i, x]) ∧ ∀ xs, SqL K H a xs → xs[i]? = some x, fun i H => ∃ xs, SqL K H a xs ∧ xs.length ≤ i⟩
theorem turn_enum {P : Program} {w : World} {K : PySem.W.Frag} {elts : List Expr} {tk : Nat} {tpos : Pos} (a e it : Addr) (hne : e ≠ it) :
    Turn P w K (.Tuple elts tk tpos) (Ite K a) [e, it] e (fun i h => (∃ old, IsEnum h e it i old) ∧ h.IsListIter it a i) where
  mem := by simp
  obj := fun i h st b hb => by
    obtain ⟨⟨old, he⟩, o, ho, c, d⟩ := st
    rcases List.mem_cons.mp hb with rfl | hb
    · exact ⟨_, he, fun v z => by
        have z' : Data.fields _ = Data.cell v := z
        cases z'⟩
    · rw [List.mem_singleton.mp hb]
      exact ⟨o, ho, fun v z => by rw [d] at z; cases z⟩
  keep := fun i h h' st k => by
    obtain ⟨⟨old, he⟩, hit⟩ := st
    exact ⟨⟨old, k e (by simp) _ he⟩, hit.at fun o q => k it (by simp) o q⟩
  item := by
    intro X hP hw hK hc i pins s σ H E I hf st hg
    subst hP hw hK
    obtain ⟨xs, x, hq, hx⟩ := hg
    obtain ⟨its, rv, pl, hz⟩ := I.list hq
    obtain ⟨u, hu, ru⟩ := rv.get hx
    obtain ⟨⟨old, he⟩, hit⟩ := st
    have fe := hf e (by simp)
    have fi := hf it (by simp)
    refine wpAny_pyNext_enum_item he hit pl.isList (x := u) (by simpa using hu) hne fun h1 ho hit1 hT hsz hk => ?_
    refine ⟨_, rfl, wpAny_letOwnedTupleGo_enum ho fun h2 he2 hs2 => ?_⟩
    have hp : H s.heap.objs.size = none := I.hok.fresh (Nat.le_refl _)
    have hpe : s.heap.objs.size ≠ e := Nat.ne_of_gt (Heap.lt_size he)
    have k2 : ∀ b o, b ∉ [e, it] → s.heap.get? b = some o → h2.get? b = some o := fun b o hb q =>
      (hs2.2 b fun z => hb (by simp [z])).trans (hk b o (fun z => hb (by simp [z])) (fun z => hb (by simp [z])) q)
    have hT2 : h2.get? s.heap.objs.size = some { cls := .type "tuple", data := .seq #[.int i s.toks, u] } := (hs2.2 _ hpe).trans hT
    have nch : ∀ b u, H b = some u → b ∉ [e, it] := fun b u q hb => by
      rcases List.mem_cons.mp hb with rfl | hb
      · rw [fe.1] at q; cases q
      · rw [List.mem_singleton.mp hb, fi.1] at q; cases q
    have up : ∀ b, b < s.heap.objs.size → b ≠ s.heap.objs.size := fun b hb => Nat.ne_of_lt hb
    have I2 : Inv X pins σ (upd H s.heap.objs.size (.tup [.int i, x])) { s with heap := h2, toks := s.toks + 1 } := by
      refine I.step (g' := s.gens) (d' := s.drawn) (t' := s.toks + 1) (ch := [e, it]) (fun b hb => ?_) (fun b o _ _ hc q _ => k2 b o hc q) (fun b o _ _ hc q _ => ⟨o.slots, k2 b o hc q⟩)
        (fun b o _ q n => by rw [upd_ne (up b (Heap.lt_size q))]; exact n) (fun b o hc q => ⟨o, k2 b o hc q⟩) (fun b ys q => by rw [upd_ne (ne_of_none q hp)]; exact q) (fun b o v q => by rw [upd_ne (ne_of_none q hp)]; exact q)
        (fun b ps q => ⟨#[], by rw [upd_ne (ne_of_none q hp), q]; simp⟩) (fun m hm => ?_) (fun b v q => ?_) I.bare
      · rcases List.mem_cons.mp hb with rfl | hb
        · exact ⟨fe.2.2.2.1, fe.2.1, fe.2.2.2.2.1, fe.2.2.2.2.2⟩
        · rw [List.mem_singleton.mp hb]; exact ⟨fi.2.2.2.1, fi.2.1, fi.2.2.2.2.1, fi.2.2.2.2.2⟩
      · obtain ⟨o, es, ep, q, r⟩ := hm
        refine ⟨o, es, ep, k2 _ o (fun z => ?_) q, r⟩
        rcases List.mem_cons.mp z with z | z
        · exact fe.2.1 z.symm
        · exact fi.2.1 (List.mem_singleton.mp z).symm
      · by_cases hb : b = s.heap.objs.size
        · subst hb
          rw [upd_same] at q; cases q
          exact ⟨by show 2 ≤ sizeLine; decide, [.int i s.toks, u], .cons ⟨_, rfl⟩ (.cons ru .nil), ⟨_, hT2, rfl, _, rfl⟩⟩
        · rw [upd_ne hb] at q
          refine (I.hok b v q).stay (fun c o hc r => k2 c o ?_ r) (fun c r => by rw [upd_ne (ne_of_none r hp)]; exact r) fun c ys r => by rw [upd_ne (ne_of_none r hp)]; exact r
          rcases hc with z | z
          · rw [z]; exact nch b v q
          · exact nch c _ z
    refine ⟨.ref s.heap.objs.size, _, I2, rfl, ⟨_, x, hp, rfl, rfl, fun ys hy => by rw [I.list_inj hy hq]; exact hx⟩, ⟨⟨_, by simpa using he2⟩, hit1.at fun o q => (hs2.2 it (Ne.symm hne)).trans q⟩, fun b hb => ?_⟩
    have lb : b < s.heap.objs.size := by
      rcases List.mem_cons.mp hb with rfl | hb
      · exact Heap.lt_size he
      · rw [List.mem_singleton.mp hb]; obtain ⟨_, q, _⟩ := hit; exact Heap.lt_size q
    rw [upd_ne (up b lb)]
    exact (hf b hb).1
  done := by
    intro X hP hw hK hc i pins s σ H E I hf st hg
    subst hP hw hK
    obtain ⟨xs, hq, hx⟩ := hg
    obtain ⟨its, rv, pl, hz⟩ := I.list hq
    obtain ⟨⟨old, he⟩, hit⟩ := st
    obtain ⟨f0, f1, f2, f3, f4, f5⟩ := hf it (by simp)
    have hl := rv.length
    exact wpAny_pyNext_enum_end (I.ok.hd hc) he hit pl.isList (by simp; omega) fun h' eb => ⟨rfl, I.turned (t' := s.toks) (fun b o hb q => eb b o hb q) f0 f1 f3 f4 f5⟩
  self := fun _ _ _ _ _ st h => by
    obtain ⟨⟨old, he⟩, _⟩ := st
    exact wpAny_pyIter_enum he h
section
variable {X : Cx}
def iEnum (K : PySem.W.Frag) (ta : TA) : TI := fun σ H R => ta σ H fun vs H1 => ∃ a xs, vs = [.ref a] ∧ SqL K H1 a xs ∧ R (Ite K a) H1
theorem pi_enum {elts : List Expr} {tk : Nat} {tpos : Pos} {a : Expr} {ta : TA} {p pos : Pos} (hg : Gl X "enumerate") (hm : X.mg "enumerate" = none) (ha : PA X [a] ta) (hs : starEach [a] X.env = [(false, eval a X.env)] := by rfl) :
    PI X (.Tuple elts tk tpos) (.Call (.Name "enumerate" p) [a] [] pos) (iEnum X.K ta) := by
  intro pins s σ H R I h
  refine Call_ (ld_blt I hg hm boot_enumerate (PyProof.Rows.callWith_type1 (thn (ha pos pins s σ H _ I h) fun us s1 ⟨vs, H1, I1, r1, q1⟩ => ?_) hs rfl))
  obtain ⟨a, xs, e, hq, q⟩ := q1
  subst e
  cases r1 with
  | cons r rr =>
    cases rr
    cases r
    obtain ⟨its, rv, pl, hz⟩ := I1.list hq
    refine call_enumerate_list pl.isList fun h1 he hit hsz hk => ?_
    have I2 : Inv X pins σ H1 { s1 with heap := h1 } := I1.kept (t' := s1.toks) hk
    refine wpAny_pyIter_enum he ?_
    refine ⟨s1.heap.objs.size + 1, [s1.heap.objs.size + 1, s1.heap.objs.size], _, _, H1, rfl, I2, turn_enum a _ _ (Nat.succ_ne_self _), ⟨⟨_, he⟩, hit⟩, fun b hb => ?_, q⟩
    have hb' : s1.heap.objs.size ≤ b := by
      rcases List.mem_cons.mp hb with rfl | hb
      · exact Nat.le_succ _
      · rw [List.mem_singleton.mp hb]; exact Nat.le_refl _
    exact I1.fpOk hb' (I1.hok.fresh hb')
end
theorem a_ienum {K : PySem.W.Frag} {ta : TA} {σ : St} {H : Hp} {R : It → Hp → Prop} : iEnum K ta σ H R = ta σ H fun vs H1 => ∃ a xs, vs = [.ref a] ∧ SqL K H1 a xs ∧ R (Ite K a) H1 := rfl
theorem for_enum {K : PySem.W.Frag} {a : Addr} {xs : List V} {g : TG} {tb : TS} {D : Ends} {σ : St} {H : Hp} (Pv : Nat → St → Hp → Prop) (h0 : Pv 0 σ H) (hl : ∀ i σ H, i ≤ xs.length → Pv i σ H → SqL K H a xs)
    (hs : ∀ i v p σ H, xs[i]? = some v → Pv i σ H → H p = none → g (.ref p) σ (upd H p (.tup [.int i, v])) fun σ2 H2 => tb { D with nx := Pv (i + 1), ct := Pv (i + 1), bk := D.nx } σ2 H2) (hd : ∀ σ H, Pv xs.length σ H → D.nx σ H) : Loop (Ite K a) g tb D σ H := by
  refine ⟨fun i m σ H => m = xs.length - i ∧ i ≤ xs.length ∧ Pv i σ H, ⟨xs.length, by simp, Nat.zero_le _, h0⟩, ?_⟩
  rintro i m σ H ⟨rfl, hi, p⟩
  have q := hl i σ H hi p
  by_cases hlt : i < xs.length
  · refine .inr ⟨⟨xs, xs[i], q, List.getElem?_eq_getElem hlt⟩, Pv (i + 1), fun σ' H' p' => ⟨xs.length - (i + 1), by omega, rfl, hlt, p'⟩, fun x H' y => ?_⟩
    obtain ⟨pa, z, hn, e1, e2, y⟩ := y
    subst e1 e2
    exact hs i z pa σ H (y xs q) p hn
  · have e : i = xs.length := by omega
    subst e
    exact .inl ⟨⟨xs, q, Nat.le_refl _⟩, hd σ H p⟩
end L2
namespace L2
open PySem PySem.Spec PyProof.Rows
/-! ### reversed(xs): the list, of n things, stays while it is walked -/
def Itv (K : PySem.W.Frag) (a : Addr) (n : Nat) : It :=
  ⟨fun i H => i < n ∧ ∃ xs, SqL K H a xs ∧ xs.length = n, fun i H x H' => H' = H ∧ ∀ xs, SqL K H a xs → xs[n - 1 - i]? = some x, fun i _ => i = n⟩
theorem turn_rev {P : Program} {w : World} {K : PySem.W.Frag} {tg : Expr} (a it : Addr) (n : Nat) : Turn P w K tg (Itv K a n) [it] it (fun i h => h.IsRevIter it a ((n : Int) - 1 - i)) where
  mem := by simp
  obj := fun i h st b hb => by
    have e : b = it := by simpa using hb
    subst e
    obtain ⟨o, e, c, d⟩ := st
    exact ⟨o, e, fun v z => by rw [d] at z; cases z⟩
  keep := fun i h h' st k => st.at fun o e => k it (by simp) o e
  item := by
    intro X hP hw hK hc i pins s σ H E I hf st hg
    subst hP hw hK
    obtain ⟨hi, xs, hq, hn⟩ := hg
    obtain ⟨its, rv, p, hz⟩ := I.list hq
    have hx : xs[n - 1 - i]? = some (xs[n - 1 - i]'(by omega)) := List.getElem?_eq_getElem (by omega)
    obtain ⟨u, hu, ru⟩ := rv.get hx
    obtain ⟨f0, f1, f2, f3, f4, f5⟩ := hf it (by simp)
    have e0 : (n : Int) - 1 - i = ((n - 1 - i : Nat) : Int) := by omega
    rw [e0] at st
    refine wpAny_pyNext_rev_item st p.isList (x := u) (by simpa using hu) fun h' st' sb => ?_
    have I1 : Inv X pins σ H { s with heap := h' } := I.turned (t' := s.toks) (fun b o hb e => (sb.2 b hb).trans e) f0 f1 f3 f4 f5
    have e1 : ((n - 1 - i : Nat) : Int) - 1 = (n : Int) - 1 - ((i + 1 : Nat) : Int) := by omega
    rw [e1] at st'
    obtain ⟨o, e, c, d⟩ := id st'
    exact ⟨u, rfl, go_of (s := { s with heap := h' }) e c d (by decide) ⟨_, H, I1, ru, ⟨rfl, fun ys hy => by rw [I.list_inj hy hq]; exact hx⟩, st', fun b hb => (hf b hb).1⟩⟩
  done := by
    intro X hP hw hK hc i pins s σ H E I hf st hg
    subst hP hw hK
    obtain ⟨f0, f1, f2, f3, f4, f5⟩ := hf it (by simp)
    have e0 : (n : Int) - 1 - i = -1 := by have : i = n := hg; omega
    rw [e0] at st
    exact wpAny_pyNext_rev_end (I.ok.hd hc) st fun h' eb => ⟨rfl, I.turned (t' := s.toks) (fun b o hb e => eb b o hb e) f0 f1 f3 f4 f5⟩
  self := fun _ _ _ _ _ st h => wpAny_pyIter_revIter st h
section
variable {X : Cx} {tg : Expr}
def iRev (K : PySem.W.Frag) (ta : TA) : TI := fun σ H R => ta σ H fun vs H1 => ∃ a xs, vs = [.ref a] ∧ SqL K H1 a xs ∧ R (Itv K a xs.length) H1
theorem pi_rev {a : Expr} {ta : TA} {p pos : Pos} (hg : Gl X "reversed") (hm : X.mg "reversed" = none) (ha : PA X [a] ta) (hs : starEach [a] X.env = [(false, eval a X.env)] := by rfl) :
    PI X tg (.Call (.Name "reversed" p) [a] [] pos) (iRev X.K ta) := by
  intro pins s σ H R I h
  refine Call_ (ld_blt I hg hm boot_reversed (PyProof.Rows.callWith_type1 (thn (ha pos pins s σ H _ I h) fun us s1 ⟨vs, H1, I1, r1, q1⟩ => ?_) hs rfl))
  obtain ⟨a, xs, e, hq, q⟩ := q1
  subst e
  cases r1 with
  | cons r rr =>
    cases rr
    cases r
    obtain ⟨its, rv, pl, hz⟩ := I1.list hq
    have hl := rv.length
    refine call_reversed_list pl.isList ?_
    have I2 : Inv X pins σ H1 { s1 with heap := s1.heap.push (revObj a ((its.toArray.size : Int) - 1)) } := I1.kept (t' := s1.toks) fun b o e => Heap.get?_push_of_some _ e
    have st : (s1.heap.push (revObj a ((its.toArray.size : Int) - 1))).IsRevIter s1.heap.objs.size a ((xs.length : Int) - 1 - ((0 : Nat) : Int)) := by
      have e1 : (xs.length : Int) - 1 - ((0 : Nat) : Int) = (its.toArray.size : Int) - 1 := by rw [List.size_toArray, hl]; simp
      rw [e1]
      exact ⟨_, Heap.get?_push_size _ rfl, rfl, rfl⟩
    refine wpAny_pyIter_revIter st ?_
    refine ⟨s1.heap.objs.size, [s1.heap.objs.size], _, _, H1, rfl, I2, turn_rev a _ xs.length, st, fun b hb => ?_, q⟩
    have e : b = s1.heap.objs.size := by simpa using hb
    subst e
    exact I1.fpOk (Nat.le_refl _) (I1.hok.fresh (Nat.le_refl _))
end
theorem a_irev {K : PySem.W.Frag} {ta : TA} {σ : St} {H : Hp} {R : It → Hp → Prop} : iRev K ta σ H R = ta σ H fun vs H1 => ∃ a xs, vs = [.ref a] ∧ SqL K H1 a xs ∧ R (Itv K a xs.length) H1 := rfl
/-- the i-th from behind -/
theorem lp_rev {K : PySem.W.Frag} {a : Addr} {xs : List V} {g : TG} {tb : TS} {D : Ends} {σ : St} {H : Hp} (Pv : Nat → St → Hp → Prop) (h0 : Pv 0 σ H) (hl : ∀ i σ H, i ≤ xs.length → Pv i σ H → SqL K H a xs)
    (hs : ∀ i v σ H, i < xs.length → xs[xs.length - 1 - i]? = some v → Pv i σ H → g v σ H fun σ2 H2 => tb { D with nx := Pv (i + 1), ct := Pv (i + 1), bk := D.nx } σ2 H2) (hd : ∀ σ H, Pv xs.length σ H → D.nx σ H) : Loop (Itv K a xs.length) g tb D σ H := by
  refine ⟨fun i m σ H => m = xs.length - i ∧ i ≤ xs.length ∧ Pv i σ H, ⟨xs.length, by simp, Nat.zero_le _, h0⟩, ?_⟩
  rintro i m σ H ⟨rfl, hi, p⟩
  have q := hl i σ H hi p
  by_cases hlt : i < xs.length
  · refine .inr ⟨⟨hlt, xs, q, rfl⟩, Pv (i + 1), fun σ' H' p' => ⟨xs.length - (i + 1), by omega, rfl, hlt, p'⟩, fun x H' y => ?_⟩
    obtain ⟨e, y⟩ := y
    subst e
    exact hs i x σ _ hlt (y xs q) p
  · have e : i = xs.length := by omega
    subst e
    exact .inl ⟨rfl, hd σ H p⟩
/-! ### further readings, applied -/
section
variable {σ : St} {H : Hp} {Q : VK} {x y v : V} {vs : List V}
theorem a_cat : rCat x y H Q = ∃ l b xs zs, x = .ref l ∧ y = .ref b ∧ H l = some (.lst xs) ∧ H b = some (.lst zs) ∧ xs.length + zs.length ≤ sizeLine ∧ ∀ p, H p = none → Q (.ref p) (upd H p (.lst (xs ++ zs))) := rfl
theorem a_rep : rRep x y H Q = ∃ l k xs, x = .ref l ∧ y = .int k ∧ H l = some (.lst xs) ∧ -(2 ^ 63) ≤ k ∧ k < 2 ^ 63 ∧ xs.length * k.toNat ≤ sizeLine ∧ ∀ p, H p = none → Q (.ref p) (upd H p (.lst (List.replicate k.toNat xs).flatten)) := rfl
theorem a_pop : rPop x vs H Q = ∃ l xs y, x = .ref l ∧ vs = [] ∧ H l = some (.lst xs) ∧ xs[xs.length - 1]? = some y ∧ Q y (upd H l (.lst xs.dropLast)) := rfl
theorem a_clear : rClear x vs H Q = ∃ l xs, x = .ref l ∧ vs = [] ∧ H l = some (.lst xs) ∧ Q .non (upd H l (.lst [])) := rfl
end
end L2
namespace L2
open PySem PySem.Spec PyProof.Rows
/-! ### products, their size shown apart -/
theorem op_mulZ {X : Cx} : OpR X (binaryOp .Mult) (rI IntMulOk fun i j => .int (i * j)) := opI fun _ _ _ _ _ _ _ hc q => mul_int q hc
/-- of at most k bits -/
def Bd (k : Nat) (x : Int) : Prop := x.natAbs < 2 ^ k
theorem Bd.mono {k l : Nat} {x : Int} (h : Bd k x) (hl : k ≤ l) : Bd l x := Nat.lt_of_lt_of_le h (Nat.pow_le_pow_right (by decide) hl)
theorem Bd.zero (k : Nat) : Bd k 0 := Nat.two_pow_pos k
theorem Bd.one {k : Nat} (h : 0 < k) : Bd k 1 := by
  have : Bd 1 1 := by show (1 : Nat) < 2 ^ 1; decide
  exact this.mono h
theorem Bd.neg {k : Nat} {x : Int} (h : Bd k x) : Bd k (-x) := by unfold Bd; rw [Int.natAbs_neg]; exact h
theorem Bd.mul {k l : Nat} {x y : Int} (h : Bd k x) (g : Bd l y) : Bd (k + l) (x * y) := by
  unfold Bd at *
  rw [Int.natAbs_mul, Nat.pow_add]
  exact Nat.mul_lt_mul_of_lt_of_lt h g
theorem Bd.add {k : Nat} {x y : Int} (h : Bd k x) (g : Bd k y) : Bd (k + 1) (x + y) := by
  unfold Bd at *
  rw [Nat.pow_succ]
  have := Int.natAbs_add_le x y
  omega
theorem Bd.sub {k : Nat} {x y : Int} (h : Bd k x) (g : Bd k y) : Bd (k + 1) (x - y) := by
  rw [Int.sub_eq_add_neg]; exact h.add g.neg
theorem Bd.fits {k l : Nat} {x y : Int} (h : Bd k x) (g : Bd l y) (hz : k + l ≤ 134217728) : IntMulOk x y := mulOk_of h g hz
theorem Bd.of_lt {k : Nat} {x : Int} {m : Nat} (h : x.natAbs < m) (hm : m ≤ 2 ^ k) : Bd k x := Nat.lt_of_lt_of_le h hm
/-! ### a new list handed back, all else as it was -/
def newL (H : Hp) (Q : VK) (ys : List V) : Prop := ∀ r H', Same H H' → H r = none → H' r = some (.lst ys) → Q (.ref r) H'
theorem same_upd {H : Hp} {p : Addr} (h : H p = none) (o : HO) : Same H (upd H p o) := fun b u q => by rw [upd_ne (ne_of_none q h)]; exact q
theorem Same.seqT {K : PySem.W.Frag} {H H' : Hp} {a : Addr} {xs : List V} (e : Same H H') (h : SqT K H a xs) : SqT K H' a xs := by
  rcases h with (h | ⟨o, h⟩) | h
  · exact .inl (.inl (e _ _ h))
  · exact .inl (.inr ⟨o, e _ _ h⟩)
  · exact .inr h
theorem at_int {xs : List Int} {i : Nat} (h : i < xs.length) : atI (xs.map V.int) (i : Int) = some (V.int xs[i]) := atI_nat (by rw [List.getElem?_map, List.getElem?_eq_getElem h]; rfl)
theorem ixN_nat {n i : Nat} (h : i < n) : ixN n (i : Int) = some i := by
  unfold ixN
  rw [if_pos (by omega), if_pos (by omega)]; simp
theorem ixN_neg {n i : Nat} (h : 0 < i) (h2 : i ≤ n) : ixN n (-(i : Int)) = some (n - i) := by
  unfold ixN
  rw [if_neg (by omega), if_pos (by omega)]
  congr 1
  omega
theorem at_last {xs : List Int} (h : xs ≠ []) : atI (xs.map V.int) (-1) = some (V.int (xs.getLast h)) := by
  unfold atI
  have h0 : 0 < xs.length := by cases xs with | nil => exact absurd rfl h | cons _ _ => simp
  have e := ixN_neg (n := (xs.map V.int).length) (i := 1) (by decide) (by rw [List.length_map]; exact h0)
  have e1 : (-((1 : Nat) : Int)) = -1 := rfl
  rw [e1] at e
  rw [e]
  show (xs.map V.int)[(xs.map V.int).length - 1]? = _
  rw [List.getElem?_map, List.length_map, ← List.getLast?_eq_getElem?, List.getLast?_eq_some_getLast h]; rfl
theorem map_set (xs : List Int) (i : Nat) (v : Int) : (xs.map V.int).set i (V.int v) = (xs.set i v).map V.int := by rw [List.map_set]
theorem Same.more {H H' : Hp} {p : Addr} {o : HO} (e : Same H H') (h : H p = none) : Same H (L2.upd H' p o) := fun b u q => by rw [upd_ne (ne_of_none q h)]; exact e b u q
end L2
namespace L2
open PySem PySem.Spec PyProof.Rows
/-! ### errors of one's own: raised, passed on, caught -/
theorem ObjOk.ex {P : Program} {w : World} {H : Hp} {h : Heap} {a : Addr} {o : HO} (x : ObjOk P w H h a o) : ∃ ob, h.get? a = some ob := by
  cases o with
  | lst xs => obtain ⟨_, _, _, _, e⟩ := x; exact ⟨_, e⟩
  | tup xs => obtain ⟨_, _, _, ob, e, _⟩ := x; exact ⟨_, e⟩
  | dK kvs => obtain ⟨_, _, _, _, o, _, _, e, _⟩ := x; exact ⟨_, e⟩
  | dT kvs => obtain ⟨_, _, _, _, o, _, _, e, _⟩ := x; exact ⟨_, e⟩
  | set S n => obtain ⟨o, _, _, _, e, _⟩ := x; exact ⟨_, e⟩
  | ins C dx fs => obtain ⟨_, _, _, e, _⟩ := x; exact ⟨_, e⟩
  | own y => obtain ⟨_, e⟩ := x; exact ⟨_, e⟩
  | xd fs => obtain ⟨_, ⟨_, _, _, e, _⟩, _⟩ := x; exact ⟨_, e⟩
  | rng lo hi => obtain ⟨_, _, _, e⟩ := x; exact ⟨_, e⟩
  | frz ob u => obtain ⟨e, _⟩ := x; exact ⟨_, e⟩
  | tbl ps => exact ⟨_, (show h.get? a = some _ from x)⟩
  | met f y => exact ⟨_, (show h.get? a = some _ from x)⟩
  | ext φ => obtain ⟨_, e, _⟩ := x; exact e
/-- what an exception on its way leaves alone: B is the heap without the frames and the exception's own records -/
structure Grd (P : Program) (w : World) (fs : List Addr) (H H' : Hp) (h B : Heap) : Prop where
  keep : ∀ b o, h.get? b = some o → H b = none → b ∉ fs → B.get? b = some o
  there : ∀ b o, h.get? b = some o → b ∉ fs → ∃ o', B.get? b = some o'
  free : ∀ b o, h.get? b = some o → H b = none → H' b = none
  tups : ∀ b xs, H b = some (.tup xs) → H' b = some (.tup xs)
  frzs : ∀ b o u, H b = some (.frz o u) → H' b = some (.frz o u)
  tbls : ∀ b ps, H b = some (.tbl ps) → ∃ more, H' b = some (.tbl (ps ++ more))
  hok : HOk P w H' B
/-- of the frames the slots alone change -/
def Slt (fs : List Addr) (h h' : Heap) : Prop := ∀ b o, h.get? b = some o → b ∈ fs → ∃ sl, h'.get? b = some { o with slots := sl }
theorem Grd.un {P : Program} {w : World} {fs : List Addr} {H H' : Hp} {h B h' : Heap} (G : Grd P w fs H H' h B) (st : B.StaysIn h') (sl : Slt fs h h') : Un fs [] H H' h h' :=
  ⟨fun b o q n hb _ => st b o (G.keep b o q n hb), fun b o q _ hb _ => sl b o q hb, fun b o q n _ => G.free b o q n, fun b o q _ => by
    by_cases hb : b ∈ fs
    · obtain ⟨_, e⟩ := sl b o q hb
      exact ⟨_, e⟩
    · obtain ⟨o', e⟩ := G.there b o q hb
      exact ⟨o', st b o' e⟩, G.tups, G.frzs, G.tbls⟩
/-- how an own error lies behind a call -/
def CXE (P : Program) (w : World) : CXT := fun outer H s E e s' => ∃ (a t C : Addr) (H' : Hp) (B : Heap), e = .ref a ∧ s'.os = s.os ∧ AllBare s'.gens ∧ Heap.FlyingW B outer a (.ref C) (.ref t) s'.heap ∧
  Grd P w (frs outer) H H' s.heap B ∧ Slt (frs outer) s.heap s'.heap ∧ E (.ref C) none H'
theorem passF {P : Program} {w : World} {X : Cx} : Passes (CXE P w) X E0 := fun _ _ _ _ _ _ _ h => by
  obtain ⟨_, _, _, _, _, _, _, _, _, _, _, q⟩ := h
  exact q.elim
/-- a body whose frame stands on top -/
structure Top1 (X : Cx) : Prop where
  st : X.stack = X.env :: X.outer
  fr : X.env.frame = some X.env.locals
section
variable {X : Cx} {pins : List (Addr × Obj)} {σ : St} {H H' : Hp} {s : Shared}
theorem Slt.up {h1 h2 : Heap} (I : Inv X pins σ H s) (a : Slt (frs X.stack) s.heap h1) (u : h1.UpToSlots h2) : Slt (frs X.stack) s.heap h2 := fun b o q hb => by
  obtain ⟨_, o', ho', hd⟩ := I.stack.mem hb
  rw [q] at ho'; cases ho'
  obtain ⟨_, e⟩ := a b o q hb
  obtain ⟨sl', e'⟩ := u b _ e hd
  exact ⟨sl', e'⟩
theorem HOk.hide {P : Program} {w : World} {h : Heap} {fs : List Addr} (x : HOk P w H h) (hf : ∀ b ∈ fs, H b = none) : HOk P w H (PySem.W.hideAll h fs) := fun a o e =>
  (x a o e).stay (fun b u hb q => PySem.W.hideAll_get _ q fun z => by
    have n := hf b z
    rcases hb with hb | hb
    · rw [hb, e] at n; cases n
    · rw [hb] at n; cases n) (fun _ q => q) fun _ _ q => q
end
section
variable {P : Program} {w : World} {K : PySem.W.Frag} {mg : Str → Option Value} {base : Heap} {N : List Str} {qual : Str} {scope : Scope} {f : Addr} {cd : Value} {A : Around} {outer : List Env} {s0 : Shared} {H0 : Hp} {E : XK}
theorem nofr0 {pins : List (Addr × Obj)} {σ : St} {H : Hp} {s : Shared} (I : Inv (cxOf (CXE P w) P w K mg base N qual scope f cd A outer s0 H0 E) pins σ H s) {b : Addr} {o : Obj} (q : s0.heap.get? b = some o) (hb : b ∉ frs outer) :
    b ∉ frs (envOfC qual scope s0.heap.objs.size f cd :: outer) := fun z => by
  rcases List.mem_cons.mp (I.stkSub b z) with e | e
  · exact absurd (Heap.lt_size q) (by rw [e]; exact Nat.not_lt.mpr I.ok.above)
  · exact hb e
/-- raised here: the frame is left -/
theorem throw_here {pins : List (Addr × Obj)} {σ : St} {H : Hp} {s : Shared} {h' : Heap} {a C : Addr} {args : List Value} (I : Inv (cxOf (CXE P w) P w K mg base N qual scope f cd A outer s0 H0 E) pins σ H s)
    (hx : Heap.MadeExcOf s.heap h' a (.ref C) args) (q : E (.ref C) none H) : (cxOf (CXE P w) P w K mg base N qual scope f cd A outer s0 H0 E).xe (.ref a) { s with heap := h' } := by
  have hfs : ∀ b ∈ frs (envOfC qual scope s0.heap.objs.size f cd :: outer), H b = none := I.stkFree
  have hin : ∀ env ∈ (envOfC qual scope s0.heap.objs.size f cd :: outer), ∀ b, env.frame = some b → b ∈ frs (envOfC qual scope s0.heap.objs.size f cd :: outer) := fun env he b hb => List.mem_filterMap.mpr ⟨env, he, hb⟩
  have hst : s.heap.FunFrames base (envOfC qual scope s0.heap.objs.size f cd :: outer) := I.stack
  have noE : ∀ b : Addr, b ∉ (cxOf (CXE P w) P w K mg base N qual scope f cd A outer s0 H0 E).ex := fun b z => absurd (show b ∈ ([] : List Addr) from z) (by simp)
  refine wpAny_leaves_madeW (base := PySem.W.hideAll s.heap (frs (envOfC qual scope s0.heap.objs.size f cd :: outer))) I.ok.frames rfl (fun b o z => PySem.W.of_hideAll _ z) (PySem.W.funFrames_hide hst hin) hx fun h2 t fl _ _ up => ?_
  refine ⟨a, t, C, H, _, rfl, I.os, I.bare, fl, ⟨fun b o e n hb => ?_, fun b o e hb => ?_, fun b o e n => I.base.free b o e n (noE b), I.base.tups, I.base.frzs, I.base.tbls, I.hok.hide hfs⟩, fun b o e hb => ?_, q⟩
  · exact PySem.W.hideAll_get _ (I.base.keep b o e n hb (noE b)) (nofr0 I e hb)
  · obtain ⟨o', e'⟩ := I.base.there b o e (noE b)
    exact ⟨o', PySem.W.hideAll_get _ e' (nofr0 I e hb)⟩
  · obtain ⟨_, o', ho', hd⟩ := I.ok.funs.mem hb
    rw [show (cxOf (CXE P w) P w K mg base N qual scope f cd A outer s0 H0 E).s₀.heap.get? b = some o from e] at ho'; cases ho'
    obtain ⟨sl, e1⟩ := I.base.slot b o e (I.ok.frf b hb) hb (noE b)
    obtain ⟨sl', e2⟩ := up b _ (hx.keeps _ _ e1) hd
    exact ⟨sl', e2⟩
/-- a callee's error passes on -/
theorem passE : Passes (CXE P w) (cxOf (CXE P w) P w K mg base N qual scope f cd A outer s0 H0 E) E := fun pins σ H s e s' I c => by
  obtain ⟨a, t, C, H', B, rfl, os, bare, fl, G, sl, q⟩ := c
  have noE : ∀ b : Addr, b ∉ (cxOf (CXE P w) P w K mg base N qual scope f cd A outer s0 H0 E).ex := fun b z => absurd (show b ∈ ([] : List Addr) from z) (by simp)
  refine wpAny_leaves_onW I.ok.frames rfl fl fun h2 fl2 up => ?_
  refine ⟨a, t, C, H', B, rfl, os.trans I.os, bare, fl2, ⟨fun b o e n hb => ?_, fun b o e hb => ?_, fun b o e n => ?_, fun b xs z => G.tups b xs (I.base.tups b xs z), fun b o u z => G.frzs b o u (I.base.frzs b o u z), fun b ps z => ?_, G.hok⟩, fun b o e hb => ?_, q⟩
  · exact G.keep b o (I.base.keep b o e n hb (noE b)) (I.base.free b o e n (noE b)) (nofr0 I e hb)
  · obtain ⟨o', e'⟩ := I.base.there b o e (noE b)
    exact G.there b o' e' (nofr0 I e hb)
  · obtain ⟨o', e'⟩ := I.base.there b o e (noE b)
    exact G.free b o' e' (I.base.free b o e n (noE b))
  · obtain ⟨m1, e1⟩ := I.base.tbls b ps z
    obtain ⟨m2, e2⟩ := G.tbls b _ e1
    exact ⟨m1 ++ m2, by rw [e2, Array.append_assoc]⟩
  · obtain ⟨_, o', ho', hd⟩ := I.ok.funs.mem hb
    rw [show (cxOf (CXE P w) P w K mg base N qual scope f cd A outer s0 H0 E).s₀.heap.get? b = some o from e] at ho'; cases ho'
    obtain ⟨_, e1⟩ := I.base.slot b o e (I.ok.frf b hb) hb (noE b)
    obtain ⟨_, e2⟩ := sl b _ e1 (by show b ∈ frs (envOfC qual scope s0.heap.objs.size f cd :: outer); exact List.mem_cons_of_mem _ hb)
    obtain ⟨sl', e3⟩ := up b _ e2 hd
    exact ⟨sl', e3⟩
theorem Fun.okE {x : Str} {st : Stmt} {fd : FuncData} {ps : List Str} {k : Nat} {sp : Sp} (F : Fun K x qual st f fd) (S : FnScope N ps (defScope st)) (len : ∀ vs H Q E, sp vs H Q E → vs.length = ps.length)
    (hbody : ∀ (cdv : Value) (A : Around) (outer : List Env) (s : Shared) (H : Hp) (vs : List V) (Q : VK) (E : XK), Room k (A.deeper (envOfC qual (defScope st) s.heap.objs.size f cdv)) → sp vs H Q E →
      ∃ t, PSs (cxOf (CXE P w) P w K mg base N qual (defScope st) f cdv A outer s H E) (defBody st) t ∧ t { nx := fun _ H' => Q .non H', rt := Q } (start N vs) H) : FnOk P w K mg base (CXE P w) (k + 1) f fd ps sp := by
  obtain ⟨oc, od, kV, doc, pm, an, cdv, ct, osl, rfl, lk, hcd⟩ := F.ex
  exact fn_of lk hcd S len fun A outer s H vs Q E hr hsp => hbody cdv A outer s H vs Q E hr hsp
end
theorem PS.nox {X : Cx} {st : Stmt} {t : TS} (h : PS X.nox st t) : PS X st t := fun pins s σ H D I hw =>
  wpAny_mono (h pins s σ H D (I.wish _) hw) (fun _ _ q => q.unwish) fun _ _ z => False.elim z
/-! ### raise C(e) -/
abbrev bmV : List Value := [.type "ValueError", .type "Exception", .type "BaseException", .type "object"]
theorem exc_obj {K : PySem.W.Frag} {C : Addr} (q : PySem.W.excIn K C bmV "ValueError.__new__" = true) : ∃ bm N nm qn bs hd sn sub ab col dd k0 k1 k2 k3 k5,
    K.lookup C = some (excClassObj nm qn C N bs bm hd sn sub ab col dd k0 k1 k2 k3 k5 "ValueError.__new__") ∧ PySem.W.tailIn K bmV bm = true ∧ PySem.W.nsOkIn K N = true ∧ PySem.W.nsIn K N "__init__" = some none := by
  unfold PySem.W.excIn at q
  split at q
  · rename_i dd cd sl ho
    split at q
    · rename_i C1 bm k0 k1 k2 k3 n k5 hm hs
      rw [Bool.and_eq_true, Bool.and_eq_true, Bool.and_eq_true, Bool.and_eq_true, Bool.and_eq_true] at q
      obtain ⟨⟨⟨⟨⟨q1, q2⟩, q3⟩, q4⟩, q5⟩, q6⟩ := q
      have r1 := beq_iff_eq.mp q1
      have r2 := beq_iff_eq.mp q2
      have r6 := beq_iff_eq.mp q6
      subst r1 r2
      obtain ⟨nm, bs, mro, ns, qn, hd, sn, sub, ab, col, del⟩ := cd
      simp only at hm q3 q5 r6
      have q3' : del = false := by cases del <;> simp at q3 ⊢
      subst hm q3'
      obtain ⟨l⟩ := sl
      simp only at hs
      subst hs
      exact ⟨bm, ns, nm, qn, bs, hd, sn, sub, ab, col, dd, k0, k1, k2, k3, k5, ho, q4, q5, r6⟩
    · cases q
  · cases q
/-- an error made here leaves as X wants -/
def Throws (X : Cx) (E : XK) : Prop := ∀ (pins : List (Addr × Obj)) (σ : St) (H : Hp) (s : Shared) (h' : Heap) (a C : Addr) (args : List Value), Inv X pins σ H s → Heap.MadeExcOf s.heap h' a (.ref C) args → E (.ref C) none H → X.xe (.ref a) { s with heap := h' }
theorem throwE {P : Program} {w : World} {K : PySem.W.Frag} {mg : Str → Option Value} {base : Heap} {N : List Str} {qual : Str} {scope : Scope} {f : Addr} {cd : Value} {A : Around} {outer : List Env} {s0 : Shared} {H0 : Hp} {E : XK} :
    Throws (cxOf (CXE P w) P w K mg base N qual scope f cd A outer s0 H0 E) E := fun _ _ _ _ _ _ _ _ I hx q => throw_here I hx q
def tRaise (C : Addr) (ta : TA) (E : XK) : TS := fun _ σ H => ta σ H fun vs H1 => vs.length ≤ sizeLine ∧ E (.ref C) none H1
theorem a_raise {C : Addr} {ta : TA} {E : XK} {D : Ends} {σ : St} {H : Hp} : tRaise C ta E D σ H = ta σ H fun vs H1 => vs.length ≤ sizeLine ∧ E (.ref C) none H1 := rfl
theorem ps_raise {X : Cx} {E : XK} {x : Str} {C : Addr} {e0 : Expr} {ta : TA} {np cpos pos : Pos} (hc : X.calm = true) (hr : Throws X E) (hg : Gl X x) (hm : X.mg x = some (.ref C)) (hx : PySem.W.excIn X.K C bmV "ValueError.__new__" = true) (ha : PA X [e0] ta)
    (he : starEach [e0] X.env = [(false, eval e0 X.env)] := by rfl) (hpl : (backTo cpos (starEach [e0] X.env)).any (·.1) = false := by rfl) (hd : (x == ("__debug__" : Str)) = false := by decide) :
    PS X (.Raise (some (.Call (.Name x np) [e0] [] cpos)) none pos) (tRaise C ta E) := by
  intro pins s σ H D I h
  obtain ⟨bm, N, nm, qn, bs, hdc, sn, sub, ab, col, dd, k0, k1, k2, k3, k5, lk, tl, ok, ni⟩ := exc_obj hx
  have T0 : OwnTail s.heap bmV bm := PySem.W.tail_of_in I.kIn tl
  refine wpAny_Raise_call_subT (C := C) (nm := nm) (q := qn) (N := N) (bs := bs) (bm := bm) (hdct := hdc) (sn := sn) (sub := sub) (ab := ab) (col := col) (dd := dd) (k0 := k0) (k1 := k1) (k2 := k2) (k3 := k3) (k5 := k5)
    PySem.F.excBase_ValueError (mN := s.heap.nsMap N) (T0.hasType PySem.F.excBase_ValueError.hasBase) (I.ok.hd hc) hpl (PySem.W.nsMap_none_of_in I.kIn ok ni) (ld_glob I hg hm ⟨rfl, ?_⟩ hd)
  have ns0 : s.heap.Ns N (s.heap.nsMap N) := .of_isNs (PySem.W.isNs_of_in I.kIn ok)
  have h2 := ha cpos pins s σ H _ I h
  rw [he] at h2 ⊢
  refine Calls.evalArgs_plain (wpAny_mono h2 (fun vs s2 z => ?_) fun _ _ y => y)
  obtain ⟨xs, H1, I1, r1, q1, q2⟩ := z
  have eN : s.heap.nsMap N = s2.heap.nsMap N := by
    obtain ⟨o, es, ep, ho, hdt, _⟩ := id ns0
    unfold PySem.W.nsOkIn at ok
    split at ok
    · rename_i z
      unfold Heap.nsMap
      rw [I.kIn _ _ z, I1.kIn _ _ z]
    · cases ok
  refine ⟨rfl, by rw [← r1.length]; exact q1, I1.kIn _ _ lk, ?_, PySem.W.tail_of_in I1.kIn tl, fun h' a hm' => hr pins σ H1 s2 h' a C vs I1 hm' q2⟩
  rw [eN]; exact .of_isNs (PySem.W.isNs_of_in I1.kIn ok)
end L2
namespace L2
open PySem PySem.Spec PyProof.Rows
/-! ### try: a call; except C (as n): ..  -/
/-- a caught error's object -/
def IsExc (a C : Addr) : HO := .ext fun h => ∃ oe vs, h.get? a = some oe ∧ oe.cls = .ref C ∧ oe.data = .fields vs
/-- the context of a suite that handles the error at a -/
abbrev Cx.hdl (X : Cx) (a : Addr) : Cx := { X with A := X.A.mark (some (.ref a)), calm := false, xe := fun _ _ => False }
section
variable {X : Cx} {pins : List (Addr × Obj)} {σ : St} {H H' : Hp} {s : Shared} {a : Addr}
theorem Inv.hdl (I : Inv X pins σ H s) (a : Addr) : Inv (X.hdl a) pins σ H s :=
  ⟨⟨I.ok.mod, I.ok.kind, I.ok.glob, I.ok.blt, I.ok.above, I.ok.inj, I.ok.has, I.ok.cab, (fun z => nomatch z), I.ok.frames, I.ok.stk, I.ok.exf, I.ok.bs, I.ok.bsz, I.ok.noex, I.ok.exfs, I.ok.funs, I.ok.frf⟩, I.os, I.bare, I.base, I.loc, I.cell, I.free, I.freeC, I.pin, I.hok, I.len⟩
theorem Inv.unhdl (I : Inv (X.hdl a) pins σ H s) (ok : X.Ok) : Inv X pins σ H s := ⟨ok, I.os, I.bare, I.base, I.loc, I.cell, I.free, I.freeC, I.pin, I.hok, I.len⟩
end
/-- the mro of an own error class -/
theorem exc_mro {K : PySem.W.Frag} {C : Addr} {b : Value} {r : Bool} {nm q : Str} {N : Addr} {bs bm : List Value} {hd : Bool} {sn : List Str} {sub : List Value} {ab : Bool} {col : Option Bool} {dd : Option Addr} {k0 k1 k2 k3 k5 : Option Value} {nid : String}
    (lk : K.lookup C = some (excClassObj nm q C N bs bm hd sn sub ab col dd k0 k1 k2 k3 k5 nid)) (e : PySem.W.mroIn K C b = some r) : (Value.ref C :: bm).contains b = r := by
  obtain ⟨cd, a, e2⟩ := Option.bind_eq_some_iff.mp e
  unfold PySem.W.clsIn at a
  rw [lk] at a
  simp only [excClassObj, Option.some.injEq] at a
  subst a
  simpa using e2
theorem matches_up {M : Model} {A : Around} {E : Value → Shared → Prop} {Q : Bool → Shared → Prop} {h : Heap} {g : Array GenState} {d : Drawn} {t : Nat} {os : OsState} {a C D : Addr} {oe : Obj}
    {nm q : Str} {N : Addr} {bs bm : List Value} {hd : Bool} {sn : List Str} {sub : List Value} {ab : Bool} {col : Option Bool} {dd : Option Addr} {k0 k1 k2 k3 k5 : Option Value} {nid : String}
    {nm' q' : Str} {N' : Addr} {bs' bm' : List Value} {hd' : Bool} {sn' : List Str} {sub' : List Value} {ab' : Bool} {col' : Option Bool} {dd' : Option Addr} {k0' k1' k2' k3' k5' : Option Value} {nid' : String}
    (hC : h.get? C = some (excClassObj nm q C N bs bm hd sn sub ab col dd k0 k1 k2 k3 k5 nid)) (hD : h.get? D = some (excClassObj nm' q' D N' bs' bm' hd' sn' sub' ab' col' dd' k0' k1' k2' k3' k5' nid'))
    (ha : h.get? a = some oe) (hcls : oe.cls = .ref C) (hb : (Value.ref D :: bm').contains (.type "BaseException") = true) (hs : (Value.ref C :: bm).contains (.ref D) = true) (hq : Q true ⟨h, g, d, t, os⟩) :
    wpAny M A (excMatches (.ref a) (.ref D)) Q E ⟨h, g, d, t, os⟩ := by
  have f := tc_notTuple
  unfold excMatches
  repeat (first | (with_reducible refine wpAny_loadPart_at ha ?_; rw [hcls]) | with_reducible refine wpAny_loadPart_at hD ?_ | (with_reducible refine wpAny_isSubtype_exc hD ?_; rw [hb]) | (with_reducible refine wpAny_isSubtype_exc hC ?_; rw [hs]) | wp_step)
  exact hq
/-- what is asked of the classes: raised C, caught D -/
structure Catches (K : PySem.W.Frag) (C D : Addr) : Prop where
  c : PySem.W.excIn K C bmV "ValueError.__new__" = true
  d : PySem.W.excIn K D bmV "ValueError.__new__" = true
  base : PySem.W.mroIn K D (.type "BaseException") = some true
  sub : PySem.W.mroIn K C (.ref D) = some true
theorem matches_ok {K : PySem.W.Frag} {C D a : Addr} {oe : Obj} {M : Model} {A : Around} {E : Value → Shared → Prop} {Q : Bool → Shared → Prop} {s : Shared} (k : Catches K C D) (X : K.In s.heap) (ha : s.heap.get? a = some oe) (hcls : oe.cls = .ref C) (hq : Q true s) :
    wpAny M A (excMatches (.ref a) (.ref D)) Q E s := by
  obtain ⟨bm, N, nm, qn, bs, hdc, sn, sub, ab, col, dd, k0, k1, k2, k3, k5, lk, _⟩ := exc_obj k.c
  obtain ⟨bm', N', nm', qn', bs', hdc', sn', sub', ab', col', dd', k0', k1', k2', k3', k5', lk', _⟩ := exc_obj k.d
  obtain ⟨h, g, d, t, os⟩ := s
  exact matches_up (X _ _ lk) (X _ _ lk') ha hcls (exc_mro lk' k.base) (exc_mro lk k.sub) hq
section
variable {X : Cx} {pins : List (Addr × Obj)} {σ : St} {H H' : Hp} {s s2 : Shared} {a t C : Addr} {B : Heap}
/-- the caught error's address is new -/
theorem exc_new (I : Inv X pins σ H s) (fl : Heap.FlyingW B X.stack a (.ref C) (.ref t) s2.heap) (G : Grd X.prog X.w (frs X.stack) H H' s.heap B) (sl : Slt (frs X.stack) s.heap s2.heap) : s.heap.get? a = none ∧ H' a = none := by
  constructor
  · cases q : s.heap.get? a with
    | none => rfl
    | some o =>
      by_cases hb : a ∈ frs X.stack
      · obtain ⟨_, o', ho', hd⟩ := I.stack.mem hb
        rw [q] at ho'; cases ho'
        obtain ⟨sl', e⟩ := sl a o q hb
        obtain ⟨oe, vs, he, _, hdd, _⟩ := fl.first
        rw [e] at he; cases he
        exact absurd hdd (hd vs)
      · obtain ⟨o', e⟩ := G.there a o q hb
        rw [fl.2.1] at e; cases e
  · cases q : H' a with
    | none => rfl
    | some u =>
      obtain ⟨ob, e⟩ := (G.hok a u q).ex
      rw [fl.2.1] at e; cases e
/-- behind the landing: the error is an object like others -/
theorem landed {s3 : Shared} (I : Inv X pins σ H s) (os : s3.os = s.os) (bare : AllBare s3.gens) (fl : Heap.FlyingW B X.stack a (.ref C) (.ref t) s3.heap) (G : Grd X.prog X.w (frs X.stack) H H' s.heap B) (sl : Slt (frs X.stack) s.heap s3.heap) :
    Inv X pins σ (upd H' a (IsExc a C)) s3 := by
  obtain ⟨n1, n2⟩ := exc_new I fl G sl
  have u := G.un fl.1 sl
  have ne : ∀ b o, s.heap.get? b = some o → b ≠ a := fun b o q z => by rw [z, n1] at q; cases q
  have neH : ∀ b o, H' b = some o → b ≠ a := fun b o q z => by rw [z, n2] at q; cases q
  have neH0 : ∀ b o, H b = some o → b ≠ a := fun b o q => by
    obtain ⟨ob, e⟩ := (I.hok b o q).ex
    exact ne b ob e
  refine I.call' (ch := []) os ⟨u.keep, u.slot, fun b o q n hx => by rw [upd_ne (ne b o q)]; exact u.free b o q n hx, u.there, fun b xs q => by rw [upd_ne (neH0 b _ q)]; exact u.tups b xs q, fun b o w q => by rw [upd_ne (neH0 b _ q)]; exact u.frzs b o w q, fun b ps q => by rw [upd_ne (neH0 b _ q)]; exact u.tbls b ps q⟩ (fun b w e => ?_) bare (fun _ z => nomatch z)
  by_cases hb : b = a
  · subst hb
    rw [upd_same] at e; cases e
    obtain ⟨oe, vs, h1, h2, h3, _⟩ := fl.first
    exact ⟨⟨oe, vs, h1, h2, h3⟩, ⟨oe, h1⟩, fun h1 h2 ⟨o1, w1, p, q, r⟩ k => ⟨o1, w1, k _ p, q, r⟩⟩
  · rw [upd_ne hb] at e
    exact (G.hok b w e).stay (fun c v _ q => fl.1 c v q) (fun c q => by rw [upd_ne (neH c _ q)]; exact q) fun c xs q => by rw [upd_ne (neH c _ q)]; exact q
end
/-! ### a call that may raise, its error with the names as they were -/
def PXE (X : Cx) (e : Expr) (t : XK → TE) : Prop := ∀ (pins : List (Addr × Obj)) (s : Shared) (σ : St) (H : Hp) (Q : VK) (E : XK), Inv X pins σ H s → t E σ H Q →
  wpAny (model X.prog X.w) X.A (eval e X.env) (EP X pins σ Q) (fun x s' => ∃ H1 s1, Inv X pins σ H1 s1 ∧ CXE X.prog X.w X.stack H1 s1 E x s') s
def PX (X : Cx) (st : Stmt) (t : XK → TS) : Prop := ∀ (pins : List (Addr × Obj)) (s : Shared) (σ : St) (H : Hp) (D : Ends) (E : XK), Inv X pins σ H s → t E D σ H →
  wpAny (model X.prog X.w) X.A (exec st X.env) (SP X pins D) (fun x s' => ∃ H1 s1, Inv X pins σ H1 s1 ∧ CXE X.prog X.w X.stack H1 s1 E x s') s
section
variable {X : Cx} {k : Nat} {f : Addr} {fd : FuncData} {ps : List Str} {sp : Sp} {x : Str} {p pos : Pos} {e : Expr} {es : List Expr} {t : TA}
theorem px_call (F : FnOk X.prog X.w X.K X.mg X.base (CXE X.prog X.w) k f fd ps sp) (hr : Room k X.A) (hg : Gl X x) (hm : X.mg x = some (.ref f)) (hk : PySem.W.keepIn X.K (.ref f) = true) (hb : Binds X.K fd ps []) (ha : PA X.nox (e :: es) t)
    (hdb : (x == ("__debug__" : Str)) = false := by decide) (he : starEach (e :: es) X.env = (false, eval e X.env) :: starEach es X.env := by rfl) (hpl : (backTo pos (starEach es X.env)).any (·.1) = false := by rfl) :
    PXE X (.Call (.Name x p) (e :: es) [] pos) (fun E => tCall sp [] E t) := by
  intro pins s σ H Q E I h
  refine wpAny_Call_Name_kw (ld_glob I hg hm ?_ hdb)
  refine PySem.W.callWith_K (h₀ := X.base) I.ok.mod.kin hk (wpAny_mono (ha pos pins s σ H _ (I.wish _) h) (fun us s1 ⟨vs, H1, I1, r, q⟩ => ⟨I1.kIn, ?_⟩) fun _ _ z => False.elim z) he hpl
  have I2 : Inv X pins σ H1 s1 := I1.unwish
  have r2 : Vals (vs ++ []) (us ++ []) := r.append .nil
  have hl : (us ++ []).length = ps.length := by rw [← r2.length]; exact F.len _ _ _ _ q
  refine wpAny_call (codeAny_mono (F.run X.A X.stack s1 H1 ⟨us, []⟩ (us ++ []) (vs ++ []) Q E hr I2.env0 (hb s1 us I2.kIn hl) r2 q) fun r s' hq => ?_)
  cases r with
  | error x => exact ⟨H1, s1, I2, hq⟩
  | ok fl =>
    cases fl with
    | ret u => exact I2.after hq
    | next => exact False.elim hq
    | brk => exact False.elim hq
    | cont => exact False.elim hq
theorem px_set {te : XK → TE} {i : Nat} {y : Str} {pos' : Pos} (hN : X.N.Nodup) (hi : X.N[i]? = some y) (hy : Loc X.env.scope y) (he : PXE X e te) (hs : swapsWith e (some (.Name y pos')) pos.line X.env = pure false := by rfl) (hf : X.fn y = true ∨ X.env.scope.names.lookup y = some .local := by first | exact .inl rfl | exact .inr rfl | assumption) :
    PX X (.Assign [.Name y pos'] e pos) (fun E => tAsg (te E) (gName i)) := by
  intro pins s σ H D E I h
  refine wpAny_Assign_Name (thn (he pins s σ H _ E I h) fun v s1 ⟨z, H1, I1, r1, q1⟩ => ?_) hs
  exact store_ok I1 hN hi hy r1 (fun s2 I2 => ⟨_, H1, I2, q1⟩) hf
end
/-! ### the try -/
def tTry (K : PySem.W.Frag) (Dc : Addr) (t : XK → TS) (th : TS) : TS := fun D σ H => t (fun c _ H1 => ∃ C, c = .ref C ∧ Catches K C Dc ∧ ∀ a, H1 a = none → th D σ (upd H1 a (IsExc a C))) D σ H
theorem a_try {K : PySem.W.Frag} {Dc : Addr} {t : XK → TS} {th : TS} {D : Ends} {σ : St} {H : Hp} : tTry K Dc t th D σ H = t (fun c _ H1 => ∃ C, c = .ref C ∧ Catches K C Dc ∧ ∀ a, H1 a = none → th D σ (upd H1 a (IsExc a C))) D σ H := rfl
section
variable {X : Cx} {st b0 : Stmt} {suite : List Stmt} {t : XK → TS} {th : TS} {x n : Str} {Dc : Addr} {np hpos pos : Pos}
end
/-! ### except D as n -/
/-- the name is gone behind the suite -/
theorem gone {X : Cx} {pins : List (Addr × Obj)} {σ : St} {H : Hp} {s : Shared} {M : Model} {A : Around} {E : Value → Shared → Prop} {i : Nat} {n : Str} {pos : Pos} {Q : Unit → Shared → Prop} (I : Inv X pins σ H s) (hN : X.N.Nodup) (hi : X.N[i]? = some n)
    (hl : X.env.scope.names.lookup n = some .local) (h : ∀ s', Inv X pins (σ.set i none) H s' → Q () s') : wpAny M A (do bindName X.env n .none; unbindBehindTheSuite X.env n pos) Q E s := by
  obtain ⟨m, hn, hlk⟩ := id I.loc
  have hp : (X.env.scope.kind == .class || (X.env.scope.kind == .module && X.env.locals != X.env.globals)) = false := by rw [I.ok.kind]; rfl
  refine wpAny_nameGoes_keeps hl hn hp fun h' v hn' hs => h _ ?_
  have cne := I.cne
  have low : ∀ b o, X.s₀.heap.get? b = some o → b ≠ X.env.locals := fun b o e => Nat.ne_of_lt (Nat.lt_of_lt_of_le (Heap.lt_size e) I.ok.above)
  have tracked : HOk X.prog X.w H h' := fun b ob e => by
    refine (I.hok b ob e).stay (fun c w' hc q => (hs.2 c ?_).trans q) (fun _ q => q) fun _ _ q => q
    intro z
    have fr := I.free
    rcases hc with hc | hc
    · rw [← hc, z, fr] at e; cases e
    · rw [z, fr] at hc; cases hc
  refine ⟨I.ok, I.os, I.bare, ⟨fun b o e n hb hx => ?_, fun b o e n hb hx => ?_, I.base.free, fun b o e hx => ?_, I.base.tups, I.base.frzs, I.base.tbls⟩, ⟨_, hn', fun j y v' e1 e2 e3 => ?_⟩, fun y c e => ?_, I.free, I.freeC, fun p hp => ?_, tracked, by rw [List.length_set]; exact I.len⟩
  · exact (hs.2 b (low b o e)).trans (I.base.keep b o e n hb hx)
  · obtain ⟨sl, e1⟩ := I.base.slot b o e n hb hx
    exact ⟨sl, (hs.2 b (low b o e)).trans e1⟩
  · obtain ⟨o', e1⟩ := I.base.there b o e hx
    exact ⟨o', (hs.2 b (low b o e)).trans e1⟩
  · have hij : j ≠ i := fun z => by
      subst z
      rw [List.getElem?_set] at e2
      simp only [if_true] at e2
      split at e2 <;> cases e2
    rw [List.getElem?_set_ne (Ne.symm hij)] at e2
    have hyn : y ≠ n := fun z => hij (nodup_ix hN e1 (by rw [z]; exact hi))
    obtain ⟨u, r, q⟩ := hlk j y v' e1 e2 e3
    refine ⟨u, r, ?_⟩
    rcases q with ⟨k, e⟩ | ⟨k, c, e, z⟩
    · exact .inl ⟨k, by show (if y = n then v else m y) = some u; rw [if_neg hyn]; exact e⟩
    · exact .inr ⟨k, c, e, z.sameBut hs (cne _ c e)⟩
  · obtain ⟨w', z⟩ := I.cell y c e
    exact ⟨w', z.sameBut hs (cne y c e)⟩
  · obtain ⟨e, n, ne, nf, d⟩ := I.pin p hp
    exact ⟨(hs.2 p.1 ne).trans e, n, ne, nf, d⟩
def Ends.drop (D : Ends) (i : Nat) : Ends := { nx := fun σ H => D.nx (σ.set i none) H, rt := D.rt, bk := fun σ H => D.bk (σ.set i none) H, ct := fun σ H => D.ct (σ.set i none) H }
def tTryAs (K : PySem.W.Frag) (Dc : Addr) (i : Nat) (t : XK → TS) (th : TS) : TS := fun D σ H => t (fun c _ H1 => ∃ C, c = .ref C ∧ Catches K C Dc ∧ ∀ a, H1 a = none → th (D.drop i) (σ.set i (some (.ref a))) (upd H1 a (IsExc a C))) D σ H
theorem a_tryAs {K : PySem.W.Frag} {Dc : Addr} {i : Nat} {t : XK → TS} {th : TS} {D : Ends} {σ : St} {H : Hp} : tTryAs K Dc i t th D σ H = t (fun c _ H1 => ∃ C, c = .ref C ∧ Catches K C Dc ∧ ∀ a, H1 a = none → th (D.drop i) (σ.set i (some (.ref a))) (upd H1 a (IsExc a C))) D σ H := rfl
theorem a_drop_nx {D : Ends} {i : Nat} {σ : St} {H : Hp} : (D.drop i).nx σ H = D.nx (σ.set i none) H := rfl
section
variable {X : Cx} {st b0 : Stmt} {suite : List Stmt} {t : XK → TS} {th : TS} {x n : Str} {Dc : Addr} {np hpos pos : Pos} {i : Nat}
theorem ps_tryAs (T1 : Top1 X) (h1 : PX X st t) (hg : Gl X x) (hm : X.mg x = some (.ref Dc)) (hN : X.N.Nodup) (hi : X.N[i]? = some n) (hl : X.env.scope.names.lookup n = some .local) (hs : ∀ a, PSs (X.hdl a) (b0 :: suite) th) (hd : (x == ("__debug__" : Str)) = false := by decide) :
    PS X (.Try [st] [.ExceptHandler (some (.Name x np)) (some n) (b0 :: suite) hpos] [] [] pos) (tTryAs X.K Dc i t th) := by
  intro pins s σ H D I h
  have hfr : X.A.frames = some (X.env :: X.outer) := by rw [I.ok.frames, T1.st]
  refine wpAny_Try_except (wpAny_mono (wpAny_execs_cons (thn (h1 pins s σ H D _ I h) fun f s1 q => ?_)) (fun _ _ y => y) fun e s2 q => ?_)
  · cases f with
    | next => exact wpAny_execs_nil (wpAny_execs_nil q)
    | ret v => exact q
    | brk => exact q
    | cont => exact q
  · obtain ⟨H1, s1, I1, a, tt, C, H', B, rfl, os, bare, fl, G, sl, Cc, eC, kc, qh⟩ := q
    cases eC
    have fl0 : Heap.FlyingW B (X.env :: X.outer) a (.ref C) (.ref tt) s2.heap := by rw [← T1.st]; exact fl
    refine wpAny_looks_onW hfr T1.fr fl0 fun h4 held4 up4 => ?_
    refine wpAny_landsW held4 fun h5 fl5 up5 => ?_
    have sl5 := (sl.up I1 up4).up I1 up5
    have fl5' : Heap.FlyingW B X.stack a (.ref C) (.ref tt) h5 := by rw [T1.st]; exact fl5
    have J5 : Inv X pins σ (upd H' a (IsExc a C)) { s2 with heap := h5 } := landed (s3 := { s2 with heap := h5 }) I1 os bare fl5' G sl5
    refine wpAny_handleBy_cons (codeAny_handlers_test (ld_glob (X := X.hdl a) (J5.hdl a) hg hm ?_ hd)) (by intro q; cases q)
    obtain ⟨oe, vs, ho, hoc, _⟩ := fl5.first
    refine matches_ok kc J5.kIn ho hoc ?_
    refine codeAny_handlers_suite_as (lands_againW fl5 fun h6 fl6 up6 => ?_)
    have fl6' : Heap.FlyingW B X.stack a (.ref C) (.ref tt) h6 := by rw [T1.st]; exact fl6
    have J6 : Inv X pins σ (upd H' a (IsExc a C)) { s2 with heap := h6 } := landed (s3 := { s2 with heap := h6 }) I1 os bare fl6' G (sl5.up I1 up6)
    refine store_ok (X := X.hdl a) (J6.hdl a) hN hi (.inl hl) (v := .ref a) rfl (fun s7 J7 => ?_) (.inr hl)
    refine wpAny_mono (hs a pins s7 _ _ (D.drop i) J7 (qh a (exc_new I1 fl G sl).2)) (fun f s8 z => ?_) fun _ _ z => False.elim z
    cases f with
    | next => obtain ⟨σ', H3, I3, q⟩ := z; exact gone (I3.unhdl I.ok) hN hi hl fun s9 I9 => ⟨_, H3, I9, q⟩
    | brk => obtain ⟨σ', H3, I3, q⟩ := z; exact gone (I3.unhdl I.ok) hN hi hl fun s9 I9 => ⟨_, H3, I9, q⟩
    | cont => obtain ⟨σ', H3, I3, q⟩ := z; exact gone (I3.unhdl I.ok) hN hi hl fun s9 I9 => ⟨_, H3, I9, q⟩
    | ret u => obtain ⟨v, σ', H3, I3, r, q⟩ := z; exact gone (I3.unhdl I.ok) hN hi hl fun s9 I9 => ⟨v, _, H3, I9, r, q⟩
end
end L2
namespace L2
open PySem PySem.Spec PySem.W PyProof.Rows Builtin Builtin.ObjectAttr Builtin.Getset_descriptor
/-! ### isinstance of a caught error -/
def ExAt (x C : Addr) (h : Heap) : Prop := ∃ o vs, h.get? x = some o ∧ o.cls = .ref C ∧ o.data = .fields vs
theorem exAt_ty {x C : Addr} (M : Model) (h : Heap) (p : ExAt x C h) : Looks M h (typeOf (.ref x)) (.ref C) := by
  obtain ⟨o, vs, h1, h2, _⟩ := p
  exact h2 ▸ (Looks.ld h1).andThen .now
/-- what is asked of the class -/
structure ExCls (K : PySem.W.Frag) (C : Addr) : Prop where
  x : excIn K C bmV "ValueError.__new__" = true
  ga : findIn K (.ref C) "__getattribute__" = some (some (.builtin "BaseException.__getattribute__"))
  gn : findIn K (.ref C) "__getattr__" = some none
  cl : findIn K (.ref C) "__class__" = some (some (.builtin "object.__class__"))
  ob : mroIn K C (.type "object") = some true
  be : mroIn K C (.type "BaseException") = some true
  dg : specialIn K (.builtin "object.__class__") "__get__" = some (some (.builtin "getset_descriptor.__get__"))
  dt : takesIn K (.builtin "object.__class__") = some true
section
variable {prog : Program} {w : World} {A : Around} {E : Value → Shared → Prop} {s : Shared} {K : PySem.W.Frag} {x C : Addr}
theorem exc_class_get {tp : Value} {R : Result → Shared → Prop} (X : K.In s.heap) (p : ExAt x C s.heap) (hm : mroIn K C (.type "object") = some true) (h : R (.ok (.ret (.ref C))) s) :
    codeAny (model prog w) A (.call (.builtin "getset_descriptor.__get__") ⟨[.builtin "object.__class__", .ref x, tp], []⟩) R s := by
  obtain ⟨h0, g0, d0, t0, o0⟩ := s
  have L0 := exAt_ty (model prog w) h0 p; have L1 := looks_mroIn (M := model prog w) X hm
  refine codeAny_call_builtin KF.slot_gs.plain KF.entry_gs (KF.slot_gs.check _ _ _ _ _ _ _ _ KF.type_class (KF.args_gs _ _ _) ?_); unfold Builtin.«getset_descriptor.__get__» descrGet; rw [dga_obj]
  refine wpAny_bind (wpAny_pure ?_); unfold descrGetter descrCheckInstance descrNameAndClass isInstance; simp only [KF.owner_class]; repeat lk
  refine ⟨Code.quiet_builtin _ (by decide +kernel), codeAny_builtin KF.entry_class ?_⟩; unfold Builtin.«object.__class__» shownTypeOf; repeat lk
  exact h
theorem exc_check {nameV : Value} {M : Model} {Q : Unit → Shared → Prop} (X : K.In s.heap) (p : ExAt x C s.heap) (hm : mroIn K C (.type "BaseException") = some true) (hq : Q () s) :
    wpAny M A (checkBuiltinCall "BaseException.__getattribute__" ⟨[.ref x, nameV], []⟩) Q E s := by
  have e1 : builtinKind "BaseException.__getattribute__" = some .slot := by decide +kernel
  have e2 : splitId "BaseException.__getattribute__" = some ("BaseException", "__getattribute__") := by decide +kernel
  have e3 := PySem.F.args_bexc_ga (.ref x) nameV
  obtain ⟨h0, g0, d0, t0, o0⟩ := s
  have L0 := exAt_ty M h0 p; have L1 := looks_mroIn (M := M) X hm
  simp only [checkBuiltinCall, e1, e2]; refine wpAny_bind ?_; unfold isInstance
  repeat (first | lk | wp_step)
  exact hq
theorem exc_find {M : Model} (X : K.In s.heap) (k : ExCls K C) : Looks M s.heap (find (.ref x) (.ref C) "__class__") (.bind (.builtin "getset_descriptor.__get__") (.builtin "object.__class__")) := by
  have L1 := looks_findIn (M := M) X k.cl
  have L2 := looks_specialIn (M := M) X k.dg
  have L3 := looks_takesIn (M := M) X k.dt
  exact L1.andThen ((show Looks M s.heap (getOf (some (.builtin "object.__class__"))) (some (.builtin "getset_descriptor.__get__")) from L2).andThen ((show Looks M s.heap (dataDescriptor? (some (.builtin "object.__class__")) (some (.builtin "getset_descriptor.__get__"))) (some (.builtin "getset_descriptor.__get__", .builtin "object.__class__")) from L3.andThen .now).andThen (Looks.tag .now)))
theorem exc_class_attr {Q : Option Value → Shared → Prop} (X : K.In s.heap) (p : ExAt x C s.heap) (k : ExCls K C) (h : Q (some (.ref C)) { s with toks := s.toks + 1 }) :
    wpAny (model prog w) A (getAttr? (.ref x) "__class__") Q E s := by
  have L0 := exAt_ty (model prog w) s.heap p
  have L1 := looks_findIn (M := model prog w) X k.ga
  have L2 := looks_findIn (M := model prog w) X k.gn
  have L3 := exc_find (M := model prog w) (x := x) X k
  obtain ⟨h0, g0, d0, t0, o0⟩ := s
  unfold getAttr? getAttrBy? getAttrBy
  refine wpAny_bind (wpAny_mkText (wpAny_bind (wpAny_attempt (wpAny_holding (wpAny_bind (L0.at (wpAny_bind (L1.at ?_))))))))
  dsimp only
  rw [if_neg (by rw [show (Value.builtin "BaseException.__getattribute__" == Value.builtin "object.__getattribute__") = false by decide +kernel, Bool.and_false]; decide)]
  unfold getAttrByItsOwn hookBefore
  refine wpAny_bind ?_
  rw [if_pos (show onTheHeap (Value.ref C) = true from rfl)]
  refine L2.at ?_
  refine wpAny_bind (wpAny_attempt (wpAny_holding ?_))
  unfold callGetattribute boundAndCalled
  rw [if_neg (by decide)]
  refine wpAny_bind (wpAny_of_eq (PySem.F.attr_ValueError.ga.bind (.ref x)) ?_)
  refine wpAny_call (codeAny_call_builtin PySem.F.attr_ValueError.ga.plain PySem.F.entry_bexc_ga (exc_check (s := ⟨h0, g0, d0, t0 + 1, o0⟩) X p k.be ?_))
  unfold Builtin.«object.__getattribute__»
  iterate 23 (first | lk | wp_step)
  refine wpAny_call (exc_class_get (s := ⟨h0, g0, d0, t0 + 1, o0⟩) X p k.ob ?_)
  exact wpAny_pure (handed_on rfl (wpAny_pure h))
theorem kitx_exc (k : ExCls K C) : KitX K (.ref x) (.ref C) (ExAt x C) where
  ty := fun M h _ p => exAt_ty M h p
  it := fun _ h X _ => by
    obtain ⟨_, _, _, _, _, _, _, _, _, _, _, _, _, _, _, _, lk, _⟩ := exc_obj k.x
    intro A' Q' E' s' kk q
    unfold isType loadHead
    exact wpAny_bind (wpAny_loadPart (kk _ _ (X _ _ lk)) (wpAny_pure q))
  ne := fun h tp dd its n sl X htp => by
    obtain ⟨_, _, _, _, _, _, _, _, _, _, _, _, _, _, _, _, lk, _⟩ := exc_obj k.x
    refine Bool.eq_false_iff.mpr fun q => ?_
    have e : C = tp := Value.ref.inj (beq_iff_eq.mp q)
    subst e
    have z := congrArg (fun o : Option Obj => o.map (·.cls)) ((X _ _ lk).symm.trans htp)
    simp [excClassObj] at z
  ca := fun X p h => exc_class_attr X p k h
end
/-- isinstance(x, D) of a caught error or of None, D a class of one's own or a built-in -/
theorem call_isinstE {X : Cx} : CallR X (.builtin "isinstance") (fun xs H Q => ∃ a C D vD b, xs = [.ref a, vD] ∧ RelV vD D ∧ H a = some (IsExc a C) ∧ ExCls X.K C ∧ kitOne X.K (.ref C) D = some b ∧ Q (.bl b) H) := by
  intro pins s σ H xs us Q I rv h
  obtain ⟨a, C, D, vD, b, rfl, rD, hE, kC, e, q⟩ := h
  cases rv with
  | cons r rr =>
    cases rr with
    | cons r' rr =>
      cases rr
      cases (show _ = Value.ref a from r)
      rename_i u
      have eD : D = u := by
        cases vD with
        | ref d => exact (show D = Value.ref d from rD).trans (show _ = Value.ref d from r').symm
        | ty n => exact (show D = Value.type n from rD).trans (show _ = Value.type n from r').symm
        | non => exact (show D = Value.none from rD).trans (show _ = Value.none from r').symm
        | bl z => exact (show D = Value.bool z from rD).trans (show _ = Value.bool z from r').symm
        | int i => obtain ⟨t, z⟩ := rD; rw [z] at e; simp [kitOne, kitCls] at e
        | str i => obtain ⟨t, z⟩ := rD; rw [z] at e; simp [kitOne, kitCls] at e
        | byt i => obtain ⟨t, z⟩ := rD; rw [z] at e; simp [kitOne, kitCls] at e
        | flt i => obtain ⟨t, z⟩ := rD; rw [z] at e; simp [kitOne, kitCls] at e
      rw [← eD]
      obtain ⟨p, _, _⟩ := (show ObjOk X.prog X.w H s.heap a (IsExc a C) from I.hok a _ hE)
      exact kia_one (kitx_exc kC) I.kIn p e (fun z => nomatch z) fun tk => ⟨.bl b, H, I.tok _, rfl, q⟩
end L2
namespace L2
open PySem PySem.Spec PyProof.Rows
/-! ### xs[lo:hi:step] of a list: some of its items -/
section
variable {X : Cx} {e st : Expr} {te : TE} {lo hi : Option Expr} {tl th ts : TO} {pos p2 : Pos}
end
theorem ints_pick {ns : List Int} : ∀ {ys : List V}, (∀ y ∈ ys, y ∈ ns.map V.int) → ∃ zs : List Int, ys = zs.map V.int ∧ ∀ z ∈ zs, z ∈ ns
  | [], _ => ⟨[], rfl, fun _ h => nomatch h⟩
  | y :: ys, h => by
    obtain ⟨zs, e, hz⟩ := ints_pick fun y' hy => h y' (List.mem_cons_of_mem _ hy)
    obtain ⟨z, h1, rfl⟩ := List.mem_map.mp (h y List.mem_cons_self)
    refine ⟨z :: zs, by rw [e]; rfl, fun w hw => ?_⟩
    rcases List.mem_cons.mp hw with rfl | hw
    · exact h1
    · exact hz w hw
/-! ### enumerate, named -/
theorem lp_enum {K : PySem.W.Frag} {a : Addr} {xs : List V} {g : TG} {tb : TS} {D : Ends} {σ : St} {H : Hp} (Pv : Nat → St → Hp → Prop) (h0 : Pv 0 σ H) (hl : ∀ i σ H, i ≤ xs.length → Pv i σ H → SqL K H a xs)
    (hs : ∀ i v p σ H, xs[i]? = some v → Pv i σ H → H p = none → g (.ref p) σ (upd H p (.tup [.int i, v])) fun σ2 H2 => tb { D with nx := Pv (i + 1), ct := Pv (i + 1), bk := D.nx } σ2 H2) (hd : ∀ σ H, Pv xs.length σ H → D.nx σ H) : Loop (Ite K a) g tb D σ H := for_enum Pv h0 hl hs hd
end L2
namespace L2
open PySem PySem.Spec PyProof.Rows
/-! ### a list comprehension of one clause with one test -/
theorem compLoop_if {prog : Program} {w : World} {A : Around} {R : Result → Shared → Prop} {s : Shared} {elt target iter cnd : Expr} {scope : Scope} {pos : Pos} {it acc : Value} {env : Env} (I : Nat → Shared → Prop)
    (turn : ∀ n s (E : Value → Shared → Prop), I n s → wpAny (model prog w) A (pyNext it) (fun r s₁ => match r with
      | none => R (.ok .next) s₁
      | some v => wpAny (model prog w) A (letOwnedTupleGo target it v) (fun _ s₂ => wpAny (model prog w) A (assign target env v) (fun _ s₃ => wpAny (model prog w) A (isTrue cnd env (eval cnd env)) (fun b s₄ => if b = true then wpAny (model prog w) A (eval elt env) (fun x s₅ =>
          wpAny (model prog w) A (call (.builtin "list.append") [acc, x]) (fun _ s₆ => ∃ m, m < n ∧ I m s₆) E s₅) E s₄ else ∃ m, m < n ∧ I m s₄) E s₃) E s₂) E s₁) E s)
    (n : Nat) (h : I n s) :
    codeAny (model prog w) A (.compLoop (.ListComp elt [⟨target, iter, [cnd], 0⟩] scope pos) 0 it acc env) R s := by
  refine codeAny_loop rfl I (fun n s hI => ?_) n h
  show wpAny _ _ ((compTurn (.ListComp elt [⟨target, iter, [cnd], 0⟩] scope pos) 0 it acc env).onRaise (fun x => do noteFrame x env; theTreesLotGoes x)) _ _ s
  refine wpAny_noted ?_
  unfold compTurn
  dsimp only [List.getElem?_cons_zero]
  refine wpAny_bind (wpAny_standAt (wpAny_bind (wpAny_mono (turn n s _ hI) (fun r s₁ h₁ => ?_) fun _ _ h' => h')))
  cases r with
  | none => exact wpAny_pure h₁
  | some v =>
    refine wpAny_bind (thn h₁ fun _ s₂ h₂ => wpAny_bind (thn h₂ fun _ s₃ h₃ => wpAny_bind ?_))
    rw [List.forIn_cons, if_pos rfl]
    refine wpAny_bind (wpAny_bind (thn h₃ fun b s₄ h₄ => wpAny_pure ?_))
    dsimp only
    rw [List.forIn_nil]
    refine wpAny_pure ?_
    cases b with
    | true =>
      rw [if_pos rfl] at h₄ ⊢
      exact wpAny_bind (wpAny_bind (thn h₄ fun x s₅ h₅ => wpAny_bind (thn h₅ fun _ s₆ h₆ => wpAny_pure (wpAny_pure ⟨rfl, h₆⟩))))
    | false =>
      rw [if_neg (by decide)] at h₄ ⊢
      exact wpAny_pure ⟨rfl, h₄⟩
section
variable {X : Cx} {elt iter cnd : Expr} {x : Str} {px : Pos} {fv : List (Nat × Str)} {scope : Scope} {cl : List (Str × Addr)} {pos : Pos} {te : TE} {tt : TT} {wi : TI}
def CLoopIf (J : It) (fv : List (Nat × Str)) (tt : TT) (te : TE) (Q : VK) (σ : St) (H1 : Hp) (D : Addr) : Prop := ∃ W : Nat → Nat → Hp → Prop, (∃ m, W 0 m (upd H1 D (.lst []))) ∧ ∀ i m H, W i m H →
  (J.stop i H ∧ Q (.ref D) H) ∨ (J.go i H ∧ ∃ N : Hp → Prop, (∀ H', N H' → ∃ m', m' < m ∧ W (i + 1) m' H') ∧ ∀ v H', J.yld i H v H' → tt (bst fv σ (some v)) H' fun b Hb => if b = true then te (bst fv σ (some v)) Hb fun y H2 => ∃ ys, H2 D = some (.lst ys) ∧ ys.length < sizeLine ∧ N (upd H2 D (.lst (ys ++ [y]))) else N Hb)
def tCompIf (fv : List (Nat × Str)) (wi : TI) (tt : TT) (te : TE) : TE := fun σ H Q => wi σ H fun J H1 => ∀ D, H1 D = none → CLoopIf J fv tt te Q σ H1 D
/-- the whole block, from the state behind pyIter -/
theorem blk_runIf {pins : List (Addr × Obj)} {σ : St} {H : Hp} {s2 : Shared} {it : Addr} {fp : List Addr} {tn : Nat → Heap → Prop} {J : It} {Q : VK} {E : Value → Shared → Prop} {RR : Value → Addr → Result → Shared → Prop}
    (hc : X.calm = true) (B : BlkOk X x fv scope cl) (hcn : ∀ C s H fp, PT (blk X x fv scope cl C s H fp) cnd tt) (he : ∀ C s H fp, PE (blk X x fv scope cl C s H fp) elt te) (I : Inv X pins σ H s2) (T : Turn X.prog X.w X.K (.Name x px) J fp it tn) (st : tn 0 s2.heap) (hf : ∀ b ∈ fp, FpOk X pins H b)
    (rd : ∀ D, H D = none → ∃ W : Nat → Nat → Hp → Prop, (∃ m, W 0 m (upd H D (.lst []))) ∧ ∀ i m H, W i m H →
      (J.stop i H ∧ Q (.ref D) H) ∨ (J.go i H ∧ ∃ N : Hp → Prop, (∀ H', N H' → ∃ m', m' < m ∧ W (i + 1) m' H') ∧ ∀ v H', J.yld i H v H' → tt (bst fv σ (some v)) H' fun b Hb => if b = true then te (bst fv σ (some v)) Hb fun y H2 => ∃ ys, H2 D = some (.lst ys) ∧ ys.length < sizeLine ∧ N (upd H2 D (.lst (ys ++ [y]))) else N Hb))
    (hRR : ∀ D C s' H' m', Inv X pins σ H' s' → FpOk X pins H' C → s'.heap.Ns C m' → Q (.ref D) H' → RR (.ref D) C (.ok .next) s') :
    wpAny (model X.prog X.w) X.A (newList []) (fun acc s₃ => wpAny (model X.prog X.w) X.A (newFunctionEnv scope X.env.globals cl [] X.env.qual none .none (some X.env)) (fun cenv s₄ =>
      codeAny (model X.prog X.w) X.A (.compStart (.ListComp elt [⟨.Name x px, iter, [cnd], 0⟩] scope pos) 0 (.ref it) acc { cenv with scope := relabel scope X.env }) (RR acc cenv.locals) s₄) E s₃) E s2 := by
  refine wpAny_newObj_type ?_ (by show 0 ≤ sizeLine; exact Nat.zero_le _)
  have hD : H s2.heap.objs.size = none := I.hok.fresh (Nat.le_refl _)
  have I3 := I.lnew (ys := []) (its := []) (t' := s2.toks) .nil (Nat.zero_le _)
  generalize hs3 : ({ s2 with heap := s2.heap.push { cls := .type "list", data := .seq ([] : List Value).toArray }, toks := s2.toks } : Shared) = s3 at I3
  have sz3 : s3.heap.objs.size = s2.heap.objs.size + 1 := by rw [← hs3]; exact Heap.size_push ..
  have up3 : ∀ b o, s2.heap.get? b = some o → s3.heap.get? b = some o := fun b o e => by rw [← hs3]; exact Heap.get?_push_of_some _ e
  have hf3 : ∀ b ∈ fp, FpOk X pins (upd H s2.heap.objs.size (.lst [])) b := fun b hb => by
    obtain ⟨f0, r⟩ := hf b hb
    refine ⟨?_, r⟩
    obtain ⟨o, e, _⟩ := T.obj 0 _ st b hb
    rw [upd_ne (Nat.ne_of_lt (Heap.lt_size e))]; exact f0
  have ltf : ∀ b ∈ fp, b < s2.heap.objs.size := fun b hb => by
    obtain ⟨o, e, _⟩ := T.obj 0 _ st b hb
    exact Heap.lt_size e
  have st3 : tn 0 s3.heap := T.keep 0 _ _ st fun b _ o e => up3 b o e
  obtain ⟨W, ⟨m0, w0⟩, turn⟩ := rd _ hD
  refine wpAny_newFunctionEnv B.nocell (by intro y hy; simp at hy) (fun h₁ hns₁ hsb₁ => ?_) B.kind
  have hfC : ∀ b ∈ fp, b ≠ s3.heap.objs.size := fun b hb => Nat.ne_of_lt (by rw [sz3]; exact Nat.lt_succ_of_lt (ltf b hb))
  have up4 : ∀ b o, s3.heap.get? b = some o → h₁.get? b = some o := fun b o e => hsb₁.extBut b o (Nat.ne_of_lt (Heap.lt_size e)) (Heap.get?_push_of_some _ e)
  generalize hs4 : ({ s3 with heap := h₁, toks := s3.toks + ([] : List (Str × Value)).length } : Shared) = s4
  have h4 : s4.heap = h₁ := by rw [← hs4]
  have I4 : Inv (blk X x fv scope cl s3.heap.objs.size s3 (upd H s2.heap.objs.size (.lst [])) fp) [] (bst fv σ none) (upd H s2.heap.objs.size (.lst [])) s4 :=
    blk_start B I3 hf3 rfl hfC (by rw [← hs4]) (by rw [← hs4]) (fun b o e => by rw [h4]; exact up4 b o e) (by rw [h4]; exact hns₁)
  have st4 : tn 0 s4.heap := by rw [h4]; exact T.keep 0 _ _ st3 fun b _ o e => up4 b o e
  -- what stays true of the iterator's objects
  have stat : ∀ {H' : Hp}, (∀ b ∈ fp, H' b = none) → ∀ b ∈ fp, FpOk (blk X x fv scope cl s3.heap.objs.size s3 (upd H s2.heap.objs.size (.lst [])) fp) [] H' b := fun {H'} hn b hb => by
    obtain ⟨_, f1, f2, f3, f4, f5⟩ := hf b hb
    refine ⟨hn b hb, hfC b hb, fun z => ?_, .inl hb, fun y c e => f4 y c (B.sub y c e), fun p hp => absurd (show p ∈ ([] : List (Addr × Obj)) from hp) (by simp)⟩
    rcases List.mem_cons.mp (I.stkSub b z) with q | q
    · exact f1 q
    · exact f2 q
  have loop : codeAny (model X.prog X.w) X.A (.compLoop (.ListComp elt [⟨.Name x px, iter, [cnd], 0⟩] scope pos) 0 (.ref it) (.ref s2.heap.objs.size) (compEnvC scope cl s3.heap.objs.size X.env)) (RR (.ref s2.heap.objs.size) s3.heap.objs.size) s4 := by
    refine compLoop_if (fun n s' => ∃ i H' o, Inv (blk X x fv scope cl s3.heap.objs.size s3 (upd H s2.heap.objs.size (.lst [])) fp) [] (bst fv σ o) H' s' ∧ tn i s'.heap ∧ (∀ b ∈ fp, H' b = none) ∧ W i n H') ?_ m0
      ⟨0, _, none, I4, st4, fun b hb => (hf3 b hb).1, w0⟩
    rintro n s5 E' ⟨i, H5, o5, I5, st5, fr5, w5⟩
    rcases turn i n H5 w5 with ⟨stop, q⟩ | ⟨go, N, hN, step⟩
    · refine thn (T.done (blk X x fv scope cl s3.heap.objs.size s3 (upd H s2.heap.objs.size (.lst [])) fp) rfl rfl rfl hc i [] s5 _ H5 _ I5 (stat fr5) st5 stop) fun r s6 ⟨hr, I6⟩ => ?_
      subst hr
      obtain ⟨m6, hn6, _⟩ := I6.loc
      have un : Un (frs X.stack) fp H H5 s2.heap s6.heap := by
        have u1 : Un (frs X.stack) fp H (upd H s2.heap.objs.size (.lst [])) s2.heap s3.heap := Un.laid up3 (Nat.le_refl _) hD
        exact u1.trans I6.base
      have J6 : Inv X pins σ H5 s6 := by
        refine I.call' ?_ un I6.hok I6.bare fun b hb => ?_
        · have := I6.os
          rw [show (blk X x fv scope cl s3.heap.objs.size s3 (upd H s2.heap.objs.size (.lst [])) fp).s₀.os = s2.os by rw [← hs3]] at this
          exact this
        · obtain ⟨_, f1, f2, f3, f4, f5⟩ := hf b hb
          exact ⟨f3, f1, f4, f5⟩
      refine hRR _ _ s6 H5 m6 J6 ?_ hn6 q
      exact I3.fpOk (Nat.le_refl _) I6.free
    · refine thn (T.item (blk X x fv scope cl s3.heap.objs.size s3 (upd H s2.heap.objs.size (.lst [])) fp) rfl rfl rfl hc i [] s5 _ H5 _ I5 (stat fr5) st5 go) fun r s6 ⟨u, hr, h6⟩ => ?_
      subst hr
      refine thn h6 fun _ s7 ⟨v, H7, I7, r7, y7, st7, fr7⟩ => ?_
      have I7' := I7.pinned (stat fr7) (T.obj _ _ st7)
      refine blk_store B I7' r7 fun s8 I8 => ?_
      have c8 := hcn _ _ _ _ _ s8 _ H7 _ I8 (step v H7 y7)
      refine wpAny_mono c8 (fun bb sb ⟨Hb, Ib, qb⟩ => ?_) fun _ _ z => False.elim z
      cases bb with
      | false =>
        rw [if_neg (by decide)] at qb
        show (if false = true then _ else _)
        rw [if_neg (by decide)]
        obtain ⟨m', hm, w9⟩ := hN _ qb
        refine ⟨m', hm, i + 1, _, some v, Ib.unpinned, T.keep _ _ _ st7 fun b hb o e => (Ib.pin (b, o) (List.mem_append_right _ (List.mem_append_right _ (mem_pinsAt hb e)))).1, fun b hb => ?_, w9⟩
        obtain ⟨o, e, _⟩ := T.obj _ _ st7 b hb
        exact (Ib.pin (b, o) (List.mem_append_right _ (List.mem_append_right _ (mem_pinsAt hb e)))).2.1
      | true =>
        rw [if_pos rfl] at qb
        show (if true = true then _ else _)
        rw [if_pos rfl]
        have e8 := he _ _ _ _ _ sb _ Hb _ Ib qb
        refine wpAny_mono e8 (fun y s9 ⟨yv, H9, I9, r9, ys, hD9, hz, n9⟩ => ?_) fun _ _ z => False.elim z
        have a9 := mt_append (X := blk X x fv scope cl s3.heap.objs.size s3 (upd H s2.heap.objs.size (.lst [])) fp) _ s9 _ H9 (.ref s2.heap.objs.size) [yv] (.ref s2.heap.objs.size) [y] (fun _ H10 => H10 = upd H9 s2.heap.objs.size (.lst (ys ++ [yv]))) I9 rfl (.cons r9 .nil)
          ⟨_, ys, yv, rfl, rfl, hD9, hz, rfl⟩
        refine wpAny_mono a9 (fun _ s10 ⟨_, H10, I10, _, e10⟩ => ?_) fun _ _ z => False.elim z
        subst e10
        obtain ⟨m', hm, w9⟩ := hN _ n9
        refine ⟨m', hm, i + 1, _, some v, I10.unpinned, T.keep _ _ _ st7 fun b hb o e => (I10.pin (b, o) (List.mem_append_right _ (List.mem_append_right _ (mem_pinsAt hb e)))).1, fun b hb => ?_, w9⟩
        obtain ⟨o, e, _⟩ := T.obj _ _ st7 b hb
        exact (I10.pin (b, o) (List.mem_append_right _ (List.mem_append_right _ (mem_pinsAt hb e)))).2.1
  exact codeAny_compStart_list loop (T.self _ 0 _ _ _ st4 loop)
end
theorem a_compIf {fv : List (Nat × Str)} {wi : TI} {tt : TT} {te : TE} {σ : St} {H : Hp} {Q : VK} : tCompIf fv wi tt te σ H Q = wi σ H fun J H1 => ∀ D, H1 D = none → CLoopIf J fv tt te Q σ H1 D := rfl
theorem cl_listIf {K : PySem.W.Frag} {a : Addr} {xs : List V} {σ : St} {H1 : Hp} {fv : List (Nat × Str)} {tt : TT} {te : TE} {Q : VK} {L : Addr} (Pv : Nat → Hp → Prop) (h0 : Pv 0 (upd H1 L (.lst []))) (hl : ∀ i H, i ≤ xs.length → Pv i H → SqL K H a xs)
    (hs : ∀ i v H, xs[i]? = some v → Pv i H → tt (bst fv σ (some v)) H fun b Hb => if b = true then te (bst fv σ (some v)) Hb fun y H2 => ∃ ys, H2 L = some (.lst ys) ∧ ys.length < sizeLine ∧ Pv (i + 1) (upd H2 L (.lst (ys ++ [y]))) else Pv (i + 1) Hb) (hd : ∀ H, Pv xs.length H → Q (.ref L) H) :
    CLoopIf (Itl K a) fv tt te Q σ H1 L := by
  refine ⟨fun i m H => m = xs.length - i ∧ i ≤ xs.length ∧ Pv i H, ⟨xs.length, by simp, Nat.zero_le _, h0⟩, ?_⟩
  rintro i m H ⟨rfl, hi, p⟩
  have q := hl i H hi p
  by_cases hlt : i < xs.length
  · refine .inr ⟨⟨xs, xs[i], q, List.getElem?_eq_getElem hlt⟩, Pv (i + 1), fun H' p' => ⟨xs.length - (i + 1), by omega, rfl, hlt, p'⟩, fun v H' y => ?_⟩
    obtain ⟨e, y⟩ := y
    subst e
    exact hs i v _ (y xs q) p
  · have e : i = xs.length := by omega
    subst e
    exact .inl ⟨⟨xs, q, Nat.le_refl _⟩, hd H p⟩
end L2
namespace L2
open PySem PySem.Spec PyProof.Rows
/-! ### the least and the greatest of a list of ints, `is` of truths, a text with one number -/
theorem ints_are : ∀ {ns : List Int} {us : List Value}, Vals (ns.map V.int) us → IntsAre us ns
  | [], us, h => by
    cases h; exact .nil
  | n :: ns, us, h => by
    cases h with
    | cons r rr =>
      obtain ⟨t, rfl⟩ := r
      exact .cons n t (ints_are rr)
end L2
namespace L2
open PySem PySem.Spec PyProof.Rows
/-! ### a list comprehension of one clause with two names -/
/-- its block: the two variables in slots 0 and 1, the captured names behind them -/
@[reducible] def blk2 (X : Cx) (x z : Str) (fv : List (Nat × Str)) (scope : Scope) (cl : List (Str × Addr)) (C : Addr) (s : Shared) (H : Hp) (fp : List Addr) : Cx where
  prog := X.prog
  w := X.w
  K := X.K
  mg := X.mg
  base := X.base
  A := X.A
  N := x :: z :: fv.map (·.2)
  s₀ := s
  H₀ := H
  env := compEnvC scope cl C X.env
  outer := X.stack
  stack := X.stack
  ex := fp
  fn := fun _ => false
  calm := X.calm
  pn := []
  xe := fun _ _ => False
/-- the names' values in the block -/
def bst2 (fv : List (Nat × Str)) (σ : St) (v v2 : Option V) : St := v :: v2 :: fv.map fun p => (σ[p.1]?).getD none
/-- what its names must be -/
structure BlkOk2 (X : Cx) (x z : Str) (fv : List (Nat × Str)) (scope : Scope) (cl : List (Str × Addr)) : Prop where
  clos : closureFor scope X.env = pure cl
  nocell : ∀ y ∈ scope.names, y.2 ≠ .cell
  kind : scope.kind = .function
  names : ∀ y ∈ scope.names, y.2 = .local → scope.names.lookup y.1 = some .local
  here : scope.names.lookup x = some .local
  here2 : scope.names.lookup z = some .local
  nd : (x :: z :: fv.map (·.2)).Nodup
  sub : ∀ y c, cl.lookup y = some c → X.env.cells.lookup y = some c
  has : ∀ y, ((relabel scope X.env).names.lookup y = some .cell ∨ (relabel scope X.env).names.lookup y = some .free) → ∃ c, cl.lookup y = some c
  fvs : ∀ p ∈ fv, X.N[p.1]? = some p.2 ∧ (X.env.scope.names.lookup p.2 = some .cell ∨ X.env.scope.names.lookup p.2 = some .free) ∧
    ((relabel scope X.env).names.lookup p.2 = some .cell ∨ (relabel scope X.env).names.lookup p.2 = some .free) ∧ ∃ c, cl.lookup p.2 = some c

section
variable {X : Cx} {elt iter : Expr} {x z : Str} {px pz : Pos} {tk : Nat} {tpos : Pos} {fv : List (Nat × Str)} {scope : Scope} {cl : List (Str × Addr)} {pos : Pos} {te : TE} {wi : TI}
theorem blk_ok2 {pins : List (Addr × Obj)} {σ : St} {H : Hp} {s : Shared} {fp : List Addr} {C : Addr} (B : BlkOk2 X x z fv scope cl) (I : Inv X pins σ H s) (hf : ∀ b ∈ fp, FpOk X pins H b) (hC : s.heap.objs.size ≤ C) (hfC : ∀ b ∈ fp, b ≠ C) :
    (blk2 X x z fv scope cl C s H fp).Ok where
  mod := I.ok.mod
  kind := B.kind
  glob := I.ok.glob
  blt := I.ok.blt
  above := hC
  inj := fun y y' c h1 h2 => I.ok.inj y y' c (B.sub y c h1) (B.sub y' c h2)
  has := fun y hy => B.has y hy
  cab := fun y c h => nomatch h
  hd := I.ok.hd
  frames := I.ok.frames
  stk := .inl rfl
  exf := fun b hb => ⟨hfC b hb, fun y c e => (hf b hb).2.2.2.2.1 y c (B.sub y c e)⟩
  bs := I.bs
  bsz := Nat.le_trans I.ok.bsz I.sz
  noex := fun b o e hb => by
    obtain ⟨_, _, _, f3, _⟩ := hf b hb
    rcases f3 with z' | z'
    · exact I.ok.noex b o e z'
    · exact absurd (Nat.lt_of_lt_of_le (Heap.lt_size e) (Nat.le_trans I.ok.bsz z')) (Nat.lt_irrefl _)
  exfs := fun b hb hs => by
    obtain ⟨_, f1, f2, _⟩ := hf b hb
    rcases List.mem_cons.mp (I.stkSub b hs) with z | z
    · exact f1 z
    · exact f2 z
  funs := I.stack
  frf := I.stkFree

theorem bst_get2 {fv : List (Nat × Str)} {σ : St} {o o2 : Option V} {j : Nat} {y : Str} {v : V} (h1 : (x :: z :: fv.map (·.2))[j + 2]? = some y) (h2 : (bst2 fv σ o o2)[j + 2]? = some (some v)) : ∃ p ∈ fv, p.2 = y ∧ σ[p.1]? = some (some v) := by
  have e1 : (fv.map (·.2))[j]? = some y := by simpa using h1
  have e2 : (fv.map fun p => (σ[p.1]?).getD none)[j]? = some (some v) := by simpa [bst2] using h2
  rw [List.getElem?_map] at e1 e2
  cases q : fv[j]? with
  | none => rw [q] at e1; cases e1
  | some p =>
    rw [q] at e1 e2
    refine ⟨p, List.mem_of_getElem? q, Option.some.inj e1, ?_⟩
    have e3 : (σ[p.1]?).getD none = some v := Option.some.inj e2
    cases r : σ[p.1]? with
    | none => rw [r] at e3; cases e3
    | some w => rw [r] at e3; exact congrArg some e3

/-- the block's start, behind the new namespace -/
theorem blk_start2 {pins : List (Addr × Obj)} {σ : St} {H : Hp} {s s4 : Shared} {fp : List Addr} {C : Addr} {m : Str → Option Value} (B : BlkOk2 X x z fv scope cl) (I : Inv X pins σ H s) (hf : ∀ b ∈ fp, FpOk X pins H b) (hC : C = s.heap.objs.size)
    (hfC : ∀ b ∈ fp, b ≠ C) (os : s4.os = s.os) (gens : s4.gens = s.gens) (keep : ∀ b o, s.heap.get? b = some o → s4.heap.get? b = some o) (ns : s4.heap.Ns C m) :
    Inv (blk2 X x z fv scope cl C s H fp) [] (bst2 fv σ none none) H s4 := by
  subst hC
  refine ⟨blk_ok2 B I hf (Nat.le_refl _) hfC, os, by rw [gens]; exact I.bare, Un.kept keep, ⟨m, ns, fun i y v h1 h2 h3 => ?_⟩, fun y c e => ?_, I.hok.fresh (Nat.le_refl _), fun y c e => I.freeC y c (B.sub y c e), fun p hp => absurd (show p ∈ ([] : List (Addr × Obj)) from hp) (by simp), I.hok.kept keep, by simp [bst2]⟩
  · cases i with
    | zero => simp [bst2] at h2
    | succ j =>
     cases j with
     | zero => simp [bst2] at h2
     | succ j =>
      obtain ⟨p, hp, rfl, hv⟩ := bst_get2 h1 h2
      obtain ⟨hN, hk, hk2, c, hc⟩ := B.fvs p hp
      obtain ⟨m0, _, hl⟩ := I.loc
      have vis : Vis X.env.scope p.2 := hk.elim (fun z => .inr (.inl z)) fun z => .inr (.inr z)
      obtain ⟨u, r, l⟩ := hl p.1 p.2 v hN hv vis
      refine ⟨u, r, .inr ⟨hk2, c, hc, ?_⟩⟩
      rcases l with ⟨z, _⟩ | ⟨_, c', hc', o, ho, hd⟩
      · have z' : X.env.scope.names.lookup p.2 = some .local := z
        rcases hk with k | k <;> (rw [k] at z'; cases z')
      · have := B.sub p.2 c hc
        rw [hc'] at this; cases this
        exact ⟨o, keep _ o ho, hd⟩
  · obtain ⟨v, o, ho, hd⟩ := I.cell y c (B.sub y c e)
    exact ⟨v, o, keep c o ho, hd⟩

/-- the block's two variables are stored -/
theorem blk_store2 {s : Shared} {H0 : Hp} {fp : List Addr} {C : Addr} (hc : X.calm = true) (B : BlkOk2 X x z fv scope cl) :
    PG (blk2 X x z fv scope cl C s H0 fp) (.Tuple [.Name x px, .Name z pz] tk tpos) (gTup X.K 2 (gCons (gName 0) (gCons (gName 1) gNil))) := by
  have h1 : (relabel scope X.env).names.lookup x = some .local := lookup_relabel_local B.here
  have h2 : (relabel scope X.env).names.lookup z = some .local := lookup_relabel_local B.here2
  exact pg_tup (X := blk2 X x z fv scope cl C s H0 fp) hc (pgs_cons (pg_name (i := 0) B.nd rfl (.inl h1) (.inr h1)) (pgs_cons (pg_name (i := 1) B.nd rfl (.inl h2) (.inr h2)) pgs_nil))
/-- the whole block, from the state behind pyIter -/
theorem blk_run2 {pins : List (Addr × Obj)} {σ : St} {H : Hp} {s2 : Shared} {it : Addr} {fp : List Addr} {tn : Nat → Heap → Prop} {J : It} {Q : VK} {E : Value → Shared → Prop} {RR : Value → Addr → Result → Shared → Prop}
    (hc : X.calm = true) (B : BlkOk2 X x z fv scope cl) (he : ∀ C s H fp, PE (blk2 X x z fv scope cl C s H fp) elt te) (I : Inv X pins σ H s2) (T : Turn X.prog X.w X.K (.Tuple [.Name x px, .Name z pz] tk tpos) J fp it tn) (st : tn 0 s2.heap) (hf : ∀ b ∈ fp, FpOk X pins H b)
    (rd : ∀ D, H D = none → ∃ W : Nat → Nat → Hp → Prop, (∃ m, W 0 m (upd H D (.lst []))) ∧ ∀ i m H, W i m H →
      (J.stop i H ∧ Q (.ref D) H) ∨ (J.go i H ∧ ∃ N : Hp → Prop, (∀ H', N H' → ∃ m', m' < m ∧ W (i + 1) m' H') ∧ ∀ v H', J.yld i H v H' → ∃ q x1 x2, v = .ref q ∧ SqT X.K H' q [x1, x2] ∧ te (bst2 fv σ (some x1) (some x2)) H' fun y H2 => ∃ ys, H2 D = some (.lst ys) ∧ ys.length < sizeLine ∧ N (upd H2 D (.lst (ys ++ [y])))))
    (hRR : ∀ D C s' H' m', Inv X pins σ H' s' → FpOk X pins H' C → s'.heap.Ns C m' → Q (.ref D) H' → RR (.ref D) C (.ok .next) s') :
    wpAny (model X.prog X.w) X.A (newList []) (fun acc s₃ => wpAny (model X.prog X.w) X.A (newFunctionEnv scope X.env.globals cl [] X.env.qual none .none (some X.env)) (fun cenv s₄ =>
      codeAny (model X.prog X.w) X.A (.compStart (.ListComp elt [⟨(.Tuple [.Name x px, .Name z pz] tk tpos), iter, [], 0⟩] scope pos) 0 (.ref it) acc { cenv with scope := relabel scope X.env }) (RR acc cenv.locals) s₄) E s₃) E s2 := by
  refine wpAny_newObj_type ?_ (by show 0 ≤ sizeLine; exact Nat.zero_le _)
  have hD : H s2.heap.objs.size = none := I.hok.fresh (Nat.le_refl _)
  have I3 := I.lnew (ys := []) (its := []) (t' := s2.toks) .nil (Nat.zero_le _)
  generalize hs3 : ({ s2 with heap := s2.heap.push { cls := .type "list", data := .seq ([] : List Value).toArray }, toks := s2.toks } : Shared) = s3 at I3
  have sz3 : s3.heap.objs.size = s2.heap.objs.size + 1 := by rw [← hs3]; exact Heap.size_push ..
  have up3 : ∀ b o, s2.heap.get? b = some o → s3.heap.get? b = some o := fun b o e => by rw [← hs3]; exact Heap.get?_push_of_some _ e
  have hf3 : ∀ b ∈ fp, FpOk X pins (upd H s2.heap.objs.size (.lst [])) b := fun b hb => by
    obtain ⟨f0, r⟩ := hf b hb
    refine ⟨?_, r⟩
    obtain ⟨o, e, _⟩ := T.obj 0 _ st b hb
    rw [upd_ne (Nat.ne_of_lt (Heap.lt_size e))]; exact f0
  have ltf : ∀ b ∈ fp, b < s2.heap.objs.size := fun b hb => by
    obtain ⟨o, e, _⟩ := T.obj 0 _ st b hb
    exact Heap.lt_size e
  have st3 : tn 0 s3.heap := T.keep 0 _ _ st fun b _ o e => up3 b o e
  obtain ⟨W, ⟨m0, w0⟩, turn⟩ := rd _ hD
  refine wpAny_newFunctionEnv B.nocell (by intro y hy; simp at hy) (fun h₁ hns₁ hsb₁ => ?_) B.kind
  have hfC : ∀ b ∈ fp, b ≠ s3.heap.objs.size := fun b hb => Nat.ne_of_lt (by rw [sz3]; exact Nat.lt_succ_of_lt (ltf b hb))
  have up4 : ∀ b o, s3.heap.get? b = some o → h₁.get? b = some o := fun b o e => hsb₁.extBut b o (Nat.ne_of_lt (Heap.lt_size e)) (Heap.get?_push_of_some _ e)
  generalize hs4 : ({ s3 with heap := h₁, toks := s3.toks + ([] : List (Str × Value)).length } : Shared) = s4
  have h4 : s4.heap = h₁ := by rw [← hs4]
  have I4 : Inv (blk2 X x z fv scope cl s3.heap.objs.size s3 (upd H s2.heap.objs.size (.lst [])) fp) [] (bst2 fv σ none none) (upd H s2.heap.objs.size (.lst [])) s4 :=
    blk_start2 B I3 hf3 rfl hfC (by rw [← hs4]) (by rw [← hs4]) (fun b o e => by rw [h4]; exact up4 b o e) (by rw [h4]; exact hns₁)
  have st4 : tn 0 s4.heap := by rw [h4]; exact T.keep 0 _ _ st3 fun b _ o e => up4 b o e
  -- what stays true of the iterator's objects
  have stat : ∀ {H' : Hp}, (∀ b ∈ fp, H' b = none) → ∀ b ∈ fp, FpOk (blk2 X x z fv scope cl s3.heap.objs.size s3 (upd H s2.heap.objs.size (.lst [])) fp) [] H' b := fun {H'} hn b hb => by
    obtain ⟨_, f1, f2, f3, f4, f5⟩ := hf b hb
    refine ⟨hn b hb, hfC b hb, fun z' => ?_, .inl hb, fun y c e => f4 y c (B.sub y c e), fun p hp => absurd (show p ∈ ([] : List (Addr × Obj)) from hp) (by simp)⟩
    rcases List.mem_cons.mp (I.stkSub b z') with q | q
    · exact f1 q
    · exact f2 q
  have loop : codeAny (model X.prog X.w) X.A (.compLoop (.ListComp elt [⟨(.Tuple [.Name x px, .Name z pz] tk tpos), iter, [], 0⟩] scope pos) 0 (.ref it) (.ref s2.heap.objs.size) (compEnvC scope cl s3.heap.objs.size X.env)) (RR (.ref s2.heap.objs.size) s3.heap.objs.size) s4 := by
    refine compLoop_one (fun n s' => ∃ i H' o o2, Inv (blk2 X x z fv scope cl s3.heap.objs.size s3 (upd H s2.heap.objs.size (.lst [])) fp) [] (bst2 fv σ o o2) H' s' ∧ tn i s'.heap ∧ (∀ b ∈ fp, H' b = none) ∧ W i n H') ?_ m0
      ⟨0, _, none, none, I4, st4, fun b hb => (hf3 b hb).1, w0⟩
    rintro n s5 E' ⟨i, H5, o5, o6, I5, st5, fr5, w5⟩
    rcases turn i n H5 w5 with ⟨stop, q⟩ | ⟨go, N, hN, step⟩
    · refine thn (T.done (blk2 X x z fv scope cl s3.heap.objs.size s3 (upd H s2.heap.objs.size (.lst [])) fp) rfl rfl rfl hc i [] s5 _ H5 _ I5 (stat fr5) st5 stop) fun r s6 ⟨hr, I6⟩ => ?_
      subst hr
      obtain ⟨m6, hn6, _⟩ := I6.loc
      have un : Un (frs X.stack) fp H H5 s2.heap s6.heap := by
        have u1 : Un (frs X.stack) fp H (upd H s2.heap.objs.size (.lst [])) s2.heap s3.heap := Un.laid up3 (Nat.le_refl _) hD
        exact u1.trans I6.base
      have J6 : Inv X pins σ H5 s6 := by
        refine I.call' ?_ un I6.hok I6.bare fun b hb => ?_
        · have := I6.os
          rw [show (blk2 X x z fv scope cl s3.heap.objs.size s3 (upd H s2.heap.objs.size (.lst [])) fp).s₀.os = s2.os by rw [← hs3]] at this
          exact this
        · obtain ⟨_, f1, f2, f3, f4, f5⟩ := hf b hb
          exact ⟨f3, f1, f4, f5⟩
      refine hRR _ _ s6 H5 m6 J6 ?_ hn6 q
      exact I3.fpOk (Nat.le_refl _) I6.free
    · refine thn (T.item (blk2 X x z fv scope cl s3.heap.objs.size s3 (upd H s2.heap.objs.size (.lst [])) fp) rfl rfl rfl hc i [] s5 _ H5 _ I5 (stat fr5) st5 go) fun r s6 ⟨u, hr, h6⟩ => ?_
      subst hr
      refine thn h6 fun _ s7 ⟨v, H7, I7, r7, y7, st7, fr7⟩ => ?_
      have I7' := I7.pinned (stat fr7) (T.obj _ _ st7)
      obtain ⟨q7, x1, x2, ev, sq7, rd7⟩ := step v H7 y7
      refine wpAny_mono (blk_store2 (px := px) (pz := pz) (tk := tk) (tpos := tpos) hc B _ s7 _ H7 v u (fun σ' H' => σ' = bst2 fv σ (some x1) (some x2) ∧ H' = H7) I7' r7 ⟨q7, [x1, x2], ev, sq7, rfl, x1, [x2], rfl, x2, [], rfl, rfl, rfl, rfl⟩) (fun _ s8 ⟨σ8, H8, I8, e8a, e8b⟩ => ?_) fun _ _ z => False.elim z
      subst e8a e8b
      have e8 := he _ _ _ _ _ s8 _ _ _ I8 rd7
      refine wpAny_mono e8 (fun y s9 ⟨yv, H9, I9, r9, ys, hD9, hz, n9⟩ => ?_) fun _ _ z => False.elim z
      have a9 := mt_append (X := blk2 X x z fv scope cl s3.heap.objs.size s3 (upd H s2.heap.objs.size (.lst [])) fp) _ s9 _ H9 (.ref s2.heap.objs.size) [yv] (.ref s2.heap.objs.size) [y] (fun _ H10 => H10 = upd H9 s2.heap.objs.size (.lst (ys ++ [yv]))) I9 rfl (.cons r9 .nil)
        ⟨_, ys, yv, rfl, rfl, hD9, hz, rfl⟩
      refine wpAny_mono a9 (fun _ s10 ⟨_, H10, I10, _, e10⟩ => ?_) fun _ _ z => False.elim z
      subst e10
      obtain ⟨m', hm, w9⟩ := hN _ n9
      refine ⟨m', hm, i + 1, _, some x1, some x2, I10.unpinned, T.keep _ _ _ st7 fun b hb o e => (I10.pin (b, o) (List.mem_append_right _ (List.mem_append_right _ (mem_pinsAt hb e)))).1, fun b hb => ?_, w9⟩
      obtain ⟨o, e, _⟩ := T.obj _ _ st7 b hb
      exact (I10.pin (b, o) (List.mem_append_right _ (List.mem_append_right _ (mem_pinsAt hb e)))).2.1
  exact codeAny_compStart_list loop (T.self _ 0 _ _ _ st4 loop)
/-- the reading -/
def CLoop2 (K : PySem.W.Frag) (J : It) (fv : List (Nat × Str)) (te : TE) (Q : VK) (σ : St) (H1 : Hp) (D : Addr) : Prop := ∃ W : Nat → Nat → Hp → Prop, (∃ m, W 0 m (upd H1 D (.lst []))) ∧ ∀ i m H, W i m H →
  (J.stop i H ∧ Q (.ref D) H) ∨ (J.go i H ∧ ∃ N : Hp → Prop, (∀ H', N H' → ∃ m', m' < m ∧ W (i + 1) m' H') ∧ ∀ v H', J.yld i H v H' → ∃ q x1 x2, v = .ref q ∧ SqT K H' q [x1, x2] ∧ te (bst2 fv σ (some x1) (some x2)) H' fun y H2 => ∃ ys, H2 D = some (.lst ys) ∧ ys.length < sizeLine ∧ N (upd H2 D (.lst (ys ++ [y]))))
def tComp2 (K : PySem.W.Frag) (fv : List (Nat × Str)) (wi : TI) (te : TE) : TE := fun σ H Q => wi σ H fun J H1 => ∀ D, H1 D = none → CLoop2 K J fv te Q σ H1 D
theorem a_tComp2 {K : PySem.W.Frag} {σ : St} {H : Hp} {Q : VK} : tComp2 K fv wi te σ H Q = wi σ H fun J H1 => ∀ D, H1 D = none → CLoop2 K J fv te Q σ H1 D := rfl
/-- [elt for x, z in iter] as a value -/
theorem pe_lcomp2 (hc : X.calm = true) (B : BlkOk2 X x z fv scope cl) (hi : PI X (.Tuple [.Name x px, .Name z pz] tk tpos) iter wi) (he : ∀ C s H fp, PE (blk2 X x z fv scope cl C s H fp) elt te)
    (hs : ∀ v, foldedSetIterable iter X.env v = pure v := by intro _; rfl) : PE X (.ListComp elt [⟨.Tuple [.Name x px, .Name z pz] tk tpos, iter, [], 0⟩] scope pos) (tComp2 X.K fv wi te) := by
  intro pins s σ H Q I h
  rw [eval_ListComp]
  refine wpAny_comprehension_free (use := none) rfl hs B.clos B.kind B.names (thn (hi pins s σ H _ I h) fun v s1 h1 => thn h1 fun itv s2 h2 => ?_)
  obtain ⟨it, fp, tn, J, H2, e, I2, T, st2, f2, rd⟩ := h2
  subst e
  refine blk_run2 (RR := fun acc C => compPost (model X.prog X.w) X.A X.xe none (EP X pins σ Q) acc C) hc B he I2 T st2 f2 rd ?_
  intro D C s' H' m' I' fC hn q
  exact ⟨m', hn, fun h' sb => ⟨.ref D, H', I'.turned (t' := s'.toks) (fun b o hb e => (sb.2 b hb).trans e) fC.1 fC.2.1 fC.2.2.2.1 fC.2.2.2.2.1 fC.2.2.2.2.2, rfl, q⟩⟩
def FvOk2 (X : Cx) (scope : Scope) (cl : List (Str × Addr)) (fv : List (Nat × Str)) : Prop := ∀ p ∈ fv, X.N[p.1]? = some p.2 ∧ (X.env.scope.names.lookup p.2 = some .cell ∨ X.env.scope.names.lookup p.2 = some .free) ∧
    ((relabel scope X.env).names.lookup p.2 = some .cell ∨ (relabel scope X.env).names.lookup p.2 = some .free) ∧ ∃ c, cl.lookup p.2 = some c
theorem fv_nil2 {X : Cx} {scope : Scope} {cl : List (Str × Addr)} : FvOk2 X scope cl [] := fun _ h => nomatch h
theorem fv_cons2 {X : Cx} {scope : Scope} {cl : List (Str × Addr)} {fv : List (Nat × Str)} (i : Nat) (y : Str) (h2 : X.N[i]? = some y) (h3 : X.env.scope.names.lookup y = some .cell ∨ X.env.scope.names.lookup y = some .free)
    (h4 : (relabel scope X.env).names.lookup y = some .cell ∨ (relabel scope X.env).names.lookup y = some .free) (h5 : ∃ c, cl.lookup y = some c) (r : FvOk2 X scope cl fv) : FvOk2 X scope cl ((i, y) :: fv) := fun p hp => by
  rcases List.mem_cons.mp hp with rfl | hp
  · exact ⟨h2, h3, h4, h5⟩
  · exact r p hp
theorem blkok2 {X : Cx} {x z : Str} {fv : List (Nat × Str)} {scope : Scope} {cl : List (Str × Addr)} (clos : closureFor scope X.env = pure cl) (sub : ∀ y c, cl.lookup y = some c → X.env.cells.lookup y = some c) (fvs : FvOk2 X scope cl fv)
    (nd : (x :: z :: fv.map (·.2)).Nodup := by decide) (kind : scope.kind = .function := by rfl) (here : scope.names.lookup x = some .local := by rfl) (here2 : scope.names.lookup z = some .local := by rfl) (nocell : ∀ y ∈ scope.names, y.2 ≠ .cell := by decide +kernel)
    (names : ∀ y ∈ scope.names, y.2 = .local → scope.names.lookup y.1 = some .local := by decide +kernel)
    (has : ((relabel scope X.env).names.all fun p => (p.2 != .cell && p.2 != .free) || (cl.lookup p.1).isSome) = true := by rfl) : BlkOk2 X x z fv scope cl :=
  ⟨clos, nocell, kind, names, here, here2, nd, sub, has_of has, fvs⟩
end
/-! ### zip(xs, ys) -/
/-- (x_0, y_0), (x_1, y_1) .. of the lists at a and b: each a new tuple -/
def Itz (K : PySem.W.Frag) (a b : Addr) : It :=
  ⟨fun i H => ∃ xs ys x y, SqL K H a xs ∧ SqL K H b ys ∧ xs[i]? = some x ∧ ys[i]? = some y, fun i H v H' => ∃ p x y, H p = none ∧ v = .ref p ∧ H' = upd H p (.tup [x, y]) ∧ (∀ xs, SqL K H a xs → xs[i]? = some x) ∧ ∀ ys, SqL K H b ys → ys[i]? = some y,
    fun i H => ∃ xs ys, SqL K H a xs ∧ SqL K H b ys ∧ (xs.length ≤ i ∨ ys.length ≤ i)⟩
theorem turn_zip {P : Program} {w : World} {K : PySem.W.Frag} {elts : List Expr} {tk : Nat} {tpos : Pos} (a b z TI TO i1 i2 : Addr) (D : ZipApart z TI TO i1 i2 a b) :
    Turn P w K (.Tuple elts tk tpos) (Itz K a b) [z, TI, TO, i1, i2] z (fun i h => IsZip h z TI TO .none ∧ IsPair h TI (.ref i1) (.ref i2) ∧ (∃ u v, IsPair h TO u v) ∧ h.IsListIter i1 a i ∧ h.IsListIter i2 b i) where
  mem := by simp
  obj := fun i h st c hb => by
    obtain ⟨hz, hTI, ⟨u, v, hTO⟩, ⟨o1, e1, c1, d1⟩, ⟨o2, e2, c2, d2⟩⟩ := st
    simp only [List.mem_cons, List.not_mem_nil, or_false] at hb
    rcases hb with rfl | rfl | rfl | rfl | rfl
    · exact ⟨_, hz, fun v z => by
        have z' : Data.fields _ = Data.cell v := z
        cases z'⟩
    · exact ⟨_, hTI, fun v z => by
        have z' : Data.seq _ = Data.cell v := z
        cases z'⟩
    · exact ⟨_, hTO, fun v z => by
        have z' : Data.seq _ = Data.cell v := z
        cases z'⟩
    · exact ⟨o1, e1, fun v z => by rw [d1] at z; cases z⟩
    · exact ⟨o2, e2, fun v z => by rw [d2] at z; cases z⟩
  keep := fun i h h' st k => by
    obtain ⟨hz, hTI, ⟨u, v, hTO⟩, h1, h2⟩ := st
    exact ⟨k z (by simp) _ hz, k TI (by simp) _ hTI, ⟨u, v, k TO (by simp) _ hTO⟩, h1.at fun o q => k i1 (by simp) o q, h2.at fun o q => k i2 (by simp) o q⟩
  item := by
    intro X hP hw hK hc i pins s σ H E I hf st hg
    subst hP hw hK
    obtain ⟨xs, ys, x, y, hq1, hq2, hx, hy⟩ := hg
    obtain ⟨its1, rv1, pl1, hz1⟩ := I.list hq1
    obtain ⟨its2, rv2, pl2, hz2⟩ := I.list hq2
    obtain ⟨u1, hu1, ru1⟩ := rv1.get hx
    obtain ⟨u2, hu2, ru2⟩ := rv2.get hy
    obtain ⟨hz, hTI, ⟨_, _, hTO⟩, hit1, hit2⟩ := st
    refine wpAny_pyNext_zip_item D hz hTI hTO hit1 hit2 pl1.isList pl2.isList (x := u1) (y := u2) (by simpa using hu1) (by simpa using hu2) fun h1 ho hTO1 hi1 hi2 hT hsz hk => ?_
    refine ⟨_, rfl, wpAny_letOwnedTupleGo_zip ho fun h2 he2 hs2 => ?_⟩
    have hp : H s.heap.objs.size = none := I.hok.fresh (Nat.le_refl _)
    have hpz : s.heap.objs.size ≠ z := Nat.ne_of_gt (Heap.lt_size hz)
    have k2 : ∀ c o, c ∉ [z, TI, TO, i1, i2] → s.heap.get? c = some o → h2.get? c = some o := fun c o hb q =>
      (hs2.2 c fun e => hb (by simp [e])).trans (hk c o (fun e => hb (by simp [e])) (fun e => hb (by simp [e])) (fun e => hb (by simp [e])) (fun e => hb (by simp [e])) q)
    have hT2 : h2.get? s.heap.objs.size = some { cls := .type "tuple", data := .seq #[u1, u2] } := (hs2.2 _ hpz).trans hT
    have nch : ∀ c u, H c = some u → c ∉ [z, TI, TO, i1, i2] := fun c u q hb => by
      rw [(hf c hb).1] at q; cases q
    have up : ∀ c, c < s.heap.objs.size → c ≠ s.heap.objs.size := fun c hb => Nat.ne_of_lt hb
    have I2 : Inv X pins σ (upd H s.heap.objs.size (.tup [x, y])) { s with heap := h2 } := by
      refine I.step (g' := s.gens) (d' := s.drawn) (t' := s.toks) (ch := [z, TI, TO, i1, i2]) (fun c hb => ?_) (fun c o _ _ hc q _ => k2 c o hc q) (fun c o _ _ hc q _ => ⟨o.slots, k2 c o hc q⟩)
        (fun c o _ q n => by rw [upd_ne (up c (Heap.lt_size q))]; exact n) (fun c o hc q => ⟨o, k2 c o hc q⟩) (fun c ys q => by rw [upd_ne (ne_of_none q hp)]; exact q) (fun c o v q => by rw [upd_ne (ne_of_none q hp)]; exact q)
        (fun c ps q => ⟨#[], by rw [upd_ne (ne_of_none q hp), q]; simp⟩) (fun m hm => ?_) (fun c v q => ?_) I.bare
      · obtain ⟨f0, f1, f2, f3, f4, f5⟩ := hf c hb
        exact ⟨f3, f1, f4, f5⟩
      · obtain ⟨o, es, ep, q, r⟩ := hm
        refine ⟨o, es, ep, k2 _ o (fun e => ?_) q, r⟩
        exact (hf _ e).2.1 rfl
      · by_cases hb : c = s.heap.objs.size
        · subst hb
          rw [upd_same] at q; cases q
          exact ⟨by show 2 ≤ sizeLine; decide, [u1, u2], .cons ru1 (.cons ru2 .nil), ⟨_, hT2, rfl, _, rfl⟩⟩
        · rw [upd_ne hb] at q
          refine (I.hok c v q).stay (fun c' o hc r => k2 c' o ?_ r) (fun c' r => by rw [upd_ne (ne_of_none r hp)]; exact r) fun c' ys r => by rw [upd_ne (ne_of_none r hp)]; exact r
          rcases hc with e | e
          · rw [e]; exact nch c v q
          · exact nch c' _ e
    refine ⟨.ref s.heap.objs.size, _, I2, rfl, ⟨_, x, y, hp, rfl, rfl, fun zs hz' => by rw [I.list_inj hz' hq1]; exact hx, fun zs hz' => by rw [I.list_inj hz' hq2]; exact hy⟩,
      ⟨he2, (hs2.2 TI D.TIz).trans (hk TI _ D.TIz D.TITO D.TIi1 D.TIi2 hTI), ⟨_, _, (hs2.2 TO D.TOz).trans hTO1⟩, hi1.at fun o q => (hs2.2 i1 D.i1z).trans q, hi2.at fun o q => (hs2.2 i2 D.i2z).trans q⟩, fun c hb => ?_⟩
    have lb : c < s.heap.objs.size := by
      simp only [List.mem_cons, List.not_mem_nil, or_false] at hb
      rcases hb with rfl | rfl | rfl | rfl | rfl
      · exact Heap.lt_size hz
      · exact Heap.lt_size hTI
      · exact Heap.lt_size hTO
      · obtain ⟨_, q, _⟩ := hit1; exact Heap.lt_size q
      · obtain ⟨_, q, _⟩ := hit2; exact Heap.lt_size q
    rw [upd_ne (up c lb)]
    exact (hf c hb).1
  done := by
    intro X hP hw hK hc i pins s σ H E I hf st hg
    subst hP hw hK
    obtain ⟨xs, ys, hq1, hq2, hx⟩ := hg
    obtain ⟨its1, rv1, pl1, hz1⟩ := I.list hq1
    obtain ⟨its2, rv2, pl2, hz2⟩ := I.list hq2
    obtain ⟨hz, hTI, ⟨_, _, hTO⟩, hit1, hit2⟩ := st
    have hl1 := rv1.length
    have hl2 := rv2.length
    refine wpAny_pyNext_zip_end (I.ok.hd hc) D hz hTI hTO hit1 hit2 pl1.isList pl2.isList (by rcases hx with e | e; exact .inl (by simp; omega); exact .inr (by simp; omega)) fun h' eb => ⟨rfl, ?_⟩
    have k2 : ∀ c o, c ∉ [z, TI, TO, i1, i2] → s.heap.get? c = some o → h'.get? c = some o := fun c o hb q => eb c o (fun e => hb (by simp [e])) (fun e => hb (by simp [e])) (fun e => hb (by simp [e])) (fun e => hb (by simp [e])) q
    refine I.step (g' := s.gens) (d' := s.drawn) (t' := s.toks) (ch := [z, TI, TO, i1, i2]) (fun c hb => ?_) (fun c o _ _ hc q _ => k2 c o hc q) (fun c o _ _ hc q _ => ⟨o.slots, k2 c o hc q⟩)
      (fun c o _ q n => n) (fun c o hc q => ⟨o, k2 c o hc q⟩) (fun c ys q => q) (fun c o v q => q) (fun c ps q => ⟨#[], by rw [q]; simp⟩) (fun m hm => ?_) (fun c v q => ?_) I.bare
    · obtain ⟨f0, f1, f2, f3, f4, f5⟩ := hf c hb
      exact ⟨f3, f1, f4, f5⟩
    · obtain ⟨o, es, ep, q, r⟩ := hm
      exact ⟨o, es, ep, k2 _ o (fun e => (hf _ e).2.1 rfl) q, r⟩
    · refine (I.hok c v q).stay (fun c' o hc r => k2 c' o ?_ r) (fun c' r => r) fun c' ys r => r
      have nch : ∀ c u, H c = some u → c ∉ [z, TI, TO, i1, i2] := fun c u q hb => by
        rw [(hf c hb).1] at q; cases q
      rcases hc with e | e
      · rw [e]; exact nch c v q
      · exact nch c' _ e
  self := fun _ _ _ _ _ st h => wpAny_pyIter_zip st.1 h
section
variable {X : Cx}
def iZip (K : PySem.W.Frag) (ta : TA) : TI := fun σ H R => ta σ H fun vs H1 => ∃ a b xs ys, vs = [.ref a, .ref b] ∧ SqL K H1 a xs ∧ SqL K H1 b ys ∧ R (Itz K a b) H1
theorem pi_zip {elts : List Expr} {tk : Nat} {tpos : Pos} {a b : Expr} {ta : TA} {p pos : Pos} (hg : Gl X "zip") (hm : X.mg "zip" = none) (ha : PA X [a, b] ta) (hs : starEach [a, b] X.env = [(false, eval a X.env), (false, eval b X.env)] := by rfl)
    (hs2 : starEach [b] X.env = [(false, eval b X.env)] := by rfl) :
    PI X (.Tuple elts tk tpos) (.Call (.Name "zip" p) [a, b] [] pos) (iZip X.K ta) := by
  intro pins s σ H R I h
  refine Call_ (ld_blt I hg hm boot_zip (PyProof.Rows.callWith_type1 (thn (ha pos pins s σ H _ I h) fun us s1 ⟨vs, H1, I1, r1, q1⟩ => ?_) (by rw [hs, hs2]) (by rw [hs2]; rfl)))
  obtain ⟨a, b, xs, ys, e, hq1, hq2, q⟩ := q1
  subst e
  cases r1 with
  | cons r rr =>
   cases rr with
   | cons r' rr =>
    cases rr
    cases r
    cases r'
    obtain ⟨its1, rv1, pl1, hz1⟩ := I1.list hq1
    obtain ⟨its2, rv2, pl2, hz2⟩ := I1.list hq2
    have a1 : a < s1.heap.objs.size := by obtain ⟨_, e, _⟩ := pl1.isList; exact Heap.lt_size e
    have a2 : b < s1.heap.objs.size := by obtain ⟨_, e, _⟩ := pl2.isList; exact Heap.lt_size e
    refine call_zip_2 pl1.isList pl2.isList fun h1 hz hTI hTO hi1 hi2 hsz hk => ?_
    have I2 : Inv X pins σ H1 { s1 with heap := h1 } := I1.kept (t' := s1.toks) hk
    refine wpAny_pyIter_zip hz ?_
    refine ⟨s1.heap.objs.size + 4, [s1.heap.objs.size + 4, s1.heap.objs.size + 2, s1.heap.objs.size + 3, s1.heap.objs.size, s1.heap.objs.size + 1], _, _, H1, rfl, I2, turn_zip a b _ _ _ _ _ (zipApart_new a1 a2), ⟨hz, hTI, ⟨_, _, hTO⟩, hi1, hi2⟩, fun c hb => ?_, q⟩
    have hb' : s1.heap.objs.size ≤ c := by
      simp only [List.mem_cons, List.not_mem_nil, or_false] at hb
      rcases hb with rfl | rfl | rfl | rfl | rfl <;> omega
    exact I1.fpOk hb' (I1.hok.fresh hb')
end
theorem a_izip {K : PySem.W.Frag} {ta : TA} {σ : St} {H : Hp} {R : It → Hp → Prop} : iZip K ta σ H R = ta σ H fun vs H1 => ∃ a b xs ys, vs = [.ref a, .ref b] ∧ SqL K H1 a xs ∧ SqL K H1 b ys ∧ R (Itz K a b) H1 := rfl
theorem cl_zip {K : PySem.W.Frag} {a b : Addr} {xs ys : List V} {fv : List (Nat × Str)} {te : TE} {Q : VK} {σ : St} {H1 : Hp} {D : Addr} (Pv : Nat → Hp → Prop) (h0 : Pv 0 (upd H1 D (.lst []))) (hl : ∀ i H, i ≤ xs.length → i ≤ ys.length → Pv i H → SqL K H a xs ∧ SqL K H b ys)
    (hs : ∀ i v1 v2 p H, xs[i]? = some v1 → ys[i]? = some v2 → Pv i H → H p = none → te (bst2 fv σ (some v1) (some v2)) (upd H p (.tup [v1, v2])) fun y H2 => ∃ zs, H2 D = some (.lst zs) ∧ zs.length < sizeLine ∧ Pv (i + 1) (upd H2 D (.lst (zs ++ [y]))))
    (hd : ∀ H, Pv (min xs.length ys.length) H → Q (.ref D) H) : CLoop2 K (Itz K a b) fv te Q σ H1 D := by
  refine ⟨fun i m H => m = min xs.length ys.length - i ∧ i ≤ min xs.length ys.length ∧ Pv i H, ⟨_, rfl, Nat.zero_le _, h0⟩, ?_⟩
  rintro i m H ⟨rfl, hi, p⟩
  obtain ⟨q1, q2⟩ := hl i H (by omega) (by omega) p
  by_cases hlt : i < min xs.length ys.length
  · have l1 : i < xs.length := by omega
    have l2 : i < ys.length := by omega
    refine .inr ⟨⟨xs, ys, xs[i], ys[i], q1, q2, List.getElem?_eq_getElem l1, List.getElem?_eq_getElem l2⟩, Pv (i + 1), fun H' p' => ⟨min xs.length ys.length - (i + 1), by omega, rfl, hlt, p'⟩, fun v H' y => ?_⟩
    obtain ⟨pa, x1, x2, hn, e1, e2, y1, y2⟩ := y
    subst e1 e2
    exact ⟨pa, x1, x2, rfl, .inl (.inl upd_same), hs i x1 x2 pa H (y1 xs q1) (y2 ys q2) p hn⟩
  · have e : i = min xs.length ys.length := by omega
    refine .inl ⟨⟨xs, ys, q1, q2, by omega⟩, ?_⟩
    rw [e] at p
    exact hd H p
end L2
namespace L2
open PySem PySem.Spec PyProof.Rows
/-! ### x *= y of ints, the sum of a list of ints -/
section
variable {X : Cx}
def ipC (C : Int → Int → Prop) (f : Int → Int → Int) : TIp := fun x y H Q => ∃ i j, x = .int i ∧ y = .int j ∧ C i j ∧ Q (.int (f i j)) H
theorem a_ipC {C : Int → Int → Prop} {f : Int → Int → Int} {x y : V} {H : Hp} {Q : VK} : ipC C f x y H Q = ∃ i j, x = .int i ∧ y = .int j ∧ C i j ∧ Q (.int (f i j)) H := rfl
theorem ip_mulZ : PIp X .Mult (ipC IntMulOk fun i j => i * j) := by
  intro pins s σ H x y v u Q I r1 r2 h
  obtain ⟨i, j, e1, e2, hm, q⟩ := h
  subst e1; subst e2
  obtain ⟨t, rfl⟩ := r1
  obtain ⟨t', rfl⟩ := r2
  exact imul_int ⟨.int _, H, I.tok _, ⟨_, rfl⟩, q⟩ hm
theorem call_sumL (hc : X.calm = true) : CallR X (.builtin "sum") (fun xs H Q => ∃ (p : Addr) (ns : List Int), xs = [.ref p] ∧ SqL X.K H p (ns.map V.int) ∧ Q (.int ns.sum) H) := by
  intro pins s σ H xs us Q I r h
  obtain ⟨p, ns, rfl, hq, q⟩ := h
  obtain ⟨u, rfl, rx⟩ := vals1 r
  cases rx
  obtain ⟨its, r', pl, hz⟩ := I.list hq
  have hi := ints_are r'
  obtain ⟨zs, e⟩ := hi.allInts.items
  have hns : ns = zs.toList.map (·.1) := by rw [← hi.numsOf, ← nums_intItems, ← e]
  have hl := pl.isList
  rw [e] at hl
  refine sum_intListG (I.ok.hd hc) hl fun h' tk t' hk => ?_
  have es : preSum (numAt zs) zs.size = ns.sum := by rw [preSum_eq, hns, List.take_of_length_le (by simp)]
  rw [es]
  exact ⟨.int _, H, I.kept hk, ⟨t', rfl⟩, q⟩
end
section
variable {X : Cx} {elt iter cnd : Expr} {x : Str} {px : Pos} {fv : List (Nat × Str)} {scope : Scope} {cl : List (Str × Addr)} {pos : Pos} {te : TE} {tt : TT} {wi : TI}
/-- y = [elt for x in iter if cnd], y a plain local -/
theorem ps_setCIf {i : Nat} {y : Str} {py spos : Pos} (hc : X.calm = true) (B : BlkOk X x fv scope cl) (hi : PI X (.Name x px) iter wi) (hcn : ∀ C s H fp, PT (blk X x fv scope cl C s H fp) cnd tt) (he : ∀ C s H fp, PE (blk X x fv scope cl C s H fp) elt te)
    (hN : X.N.Nodup) (hiy : X.N[i]? = some y) (hy : X.env.scope.names.lookup y = some .local)
    (hsw : swapsWith (.ListComp elt [⟨.Name x px, iter, [cnd], 0⟩] scope pos) (some (.Name y py)) spos.line X.env = pure true := by rfl)
    (hs : ∀ v, foldedSetIterable iter X.env v = pure v := by intro _; rfl) :
    PS X (.Assign [.Name y py] (.ListComp elt [⟨.Name x px, iter, [cnd], 0⟩] scope pos) spos) (tAsg (tCompIf fv wi tt te) (gName i)) := by
  intro pins s σ H D I h
  rw [exec_Assign_Name_used _ _ _ _ hsw]
  refine wpAny_bind (wpAny_standAt (wpAny_bind ?_))
  show wpAny _ X.A (do let _ ← comprehension (.ListComp elt [⟨.Name x px, iter, [cnd], 0⟩] scope pos) scope X.env _ (newList []) false (eval iter X.env) (some (assign (.Name y py) X.env))) _ _ s
  refine wpAny_bind (wpAny_mono (wpAny_comprehension_free (use := some (assign (.Name y py) X.env)) (Q := fun _ s' => SP X pins D .next s') rfl hs B.clos B.kind B.names
    (thn (hi pins s σ H _ I h) fun v s1 h1 => thn h1 fun itv s2 h2 => ?_)) (fun _ s' hq => wpAny_pure (wpAny_pure hq)) fun _ _ e => e)
  obtain ⟨it, fp, tn, J, H2, e, I2, T, st2, f2, rd⟩ := h2
  subst e
  refine blk_runIf (Q := fun x H1 => gName i x σ H1 D.nx) (RR := fun acc C => compPost (model X.prog X.w) X.A X.xe (some (assign (.Name y py) X.env)) (fun _ s' => SP X pins D .next s') acc C) hc B hcn he I2 T st2 f2 rd ?_
  intro Dl C s' H' m' I' fC hn q
  show wpAny _ X.A (assign (.Name y py) X.env (.ref Dl)) _ _ _
  refine wpAny_assign_Name (store_ok2 I' hN hiy (.inl hy) (v := .ref Dl) rfl (fun s'' I'' hab => ?_) (.inr hy))
  obtain ⟨a, sb, ha⟩ := hab
  have hCa : C ≠ a := by
    rcases ha with rfl | e
    · exact fC.2.1
    · exact Ne.symm (fC.2.2.2.2.1 _ _ e)
  exact ⟨m', hn.sameBut sb hCa, fun h' sb' => ⟨_, H', I''.turned (t' := s''.toks) (fun b o hb e => (sb'.2 b hb).trans e) fC.1 fC.2.1 fC.2.2.2.1 fC.2.2.2.2.1 fC.2.2.2.2.2, q⟩⟩
end
end L2
namespace My
/-! ### lists of numbers as polynomials -/
def trim (xs : List Int) : List Int := (xs.reverse.dropWhile (· == 0)).reverse
theorem trim_nil : trim [] = [] := rfl
theorem trim_zero (xs : List Int) : trim (xs ++ [0]) = trim xs := by
  unfold trim; rw [List.reverse_append]; rfl
theorem trim_ne (xs : List Int) {a : Int} (h : a ≠ 0) : trim (xs ++ [a]) = xs ++ [a] := by
  unfold trim
  rw [List.reverse_append]
  have : ([a].reverse ++ xs.reverse).dropWhile (· == 0) = a :: xs.reverse := by
    show (a :: xs.reverse).dropWhile (· == 0) = _
    rw [List.dropWhile_cons]
    simp [h]
  rw [this]; simp
def co (xs : List Int) (k : Nat) : Int := xs.getD k 0
theorem co_nil (k : Nat) : co [] k = 0 := rfl
theorem co_ge {xs : List Int} {k : Nat} (h : xs.length ≤ k) : co xs k = 0 := by
  unfold co; rw [List.getD_eq_getElem?_getD, List.getElem?_eq_none h]; rfl
theorem co_lt {xs : List Int} {k : Nat} (h : k < xs.length) : co xs k = xs[k] := by
  unfold co; rw [List.getD_eq_getElem?_getD, List.getElem?_eq_getElem h]; rfl
theorem co_snoc (xs : List Int) (a : Int) (k : Nat) : co (xs ++ [a]) k = if k = xs.length then a else co xs k := by
  by_cases h : k < xs.length
  · rw [if_neg (by omega)]
    unfold co; rw [List.getD_eq_getElem?_getD, List.getD_eq_getElem?_getD, List.getElem?_append_left h]
  · by_cases h2 : k = xs.length
    · subst h2; rw [if_pos rfl]; unfold co; rw [List.getD_eq_getElem?_getD, List.getElem?_append_right (Nat.le_refl _)]; simp
    · rw [if_neg h2, co_ge (by simp; omega), co_ge (by omega)]
theorem snoc_ind {P : List Int → Prop} (h0 : P []) (h1 : ∀ xs a, P xs → P (xs ++ [a])) (xs : List Int) : P xs := by
  have : ∀ ys : List Int, P ys.reverse := fun ys => by
    induction ys with
    | nil => exact h0
    | cons a r ih => rw [List.reverse_cons]; exact h1 _ _ ih
  have := this xs.reverse
  rwa [List.reverse_reverse] at this
theorem trim_co (xs : List Int) (k : Nat) : co (trim xs) k = co xs k := by
  refine snoc_ind (P := fun xs => co (trim xs) k = co xs k) rfl (fun xs a ih => ?_) xs
  by_cases h : a = 0
  · subst h; rw [trim_zero, ih, co_snoc]
    by_cases h2 : k = xs.length
    · rw [if_pos h2, co_ge (by omega)]
    · rw [if_neg h2]
  · rw [trim_ne _ h]
/-- no nought at its end -/
def Nml (xs : List Int) : Prop := ∀ a ys, xs = ys ++ [a] → a ≠ 0
theorem trim_nml (xs : List Int) : Nml (trim xs) := by
  refine snoc_ind (P := fun xs => Nml (trim xs)) (fun a ys h => ?_) (fun xs a ih => ?_) xs
  · rw [trim_nil] at h; simp at h
  · by_cases h : a = 0
    · subst h; rw [trim_zero]; exact ih
    · rw [trim_ne _ h]
      intro b ys e
      have := List.append_inj' e rfl
      have e2 : a = b := by simpa using this.2
      rw [← e2]; exact h
theorem nml_trim {xs : List Int} (h : Nml xs) : trim xs = xs := by
  rcases List.eq_nil_or_concat xs with rfl | ⟨ys, a, rfl⟩
  · rfl
  · rw [List.concat_eq_append] at *; exact trim_ne _ (h a ys rfl)
theorem nml_len {xs : List Int} (h : Nml xs) {n : Nat} (hz : ∀ k, n ≤ k → co xs k = 0) : xs.length ≤ n := by
  rcases List.eq_nil_or_concat xs with rfl | ⟨ys, a, rfl⟩
  · exact Nat.zero_le _
  · rw [List.concat_eq_append] at *
    have ha := h a ys rfl
    by_cases hn : (ys ++ [a]).length ≤ n
    · exact hn
    · have := hz ys.length (by simp at hn; omega)
      rw [co_snoc, if_pos rfl] at this
      exact absurd this ha
theorem co_ext {xs ys : List Int} (hl : xs.length = ys.length) (h : ∀ k, k < xs.length → co xs k = co ys k) : xs = ys := by
  refine List.ext_getElem hl fun k h1 h2 => ?_
  have := h k h1
  rw [co_lt h1, co_lt h2] at this; exact this
theorem trim_len (xs : List Int) : (trim xs).length ≤ xs.length := nml_len (trim_nml _) fun k hk => by rw [trim_co, co_ge hk]
end My
namespace My
/-! ### products -/
def sumN : Nat → (Nat → Int) → Int
  | 0, _ => 0
  | n + 1, f => sumN n f + f n
theorem sumN_congr {n : Nat} {f g : Nat → Int} (h : ∀ j, j < n → f j = g j) : sumN n f = sumN n g := by
  induction n with
  | zero => rfl
  | succ n ih => simp only [sumN]; rw [ih fun j hj => h j (by omega), h n (by omega)]
theorem sumN_zero {n : Nat} {f : Nat → Int} (h : ∀ j, j < n → f j = 0) : sumN n f = 0 := by
  induction n with
  | zero => rfl
  | succ n ih => simp only [sumN]; rw [ih fun j hj => h j (by omega), h n (by omega)]; rfl
/-- the number at k - j, nought where that is none -/
def cz (xs : List Int) (k j : Nat) : Int := if j ≤ k then co xs (k - j) else 0
/-- the part of the product at k that the first l numbers of one give -/
def cv (one other : List Int) (l k : Nat) : Int := sumN l fun j => co one j * cz other k j
/-! ### sums and differences -/
theorem co_set (xs : List Int) (i k : Nat) (v : Int) (h : i < xs.length) : co (xs.set i v) k = if k = i then v else co xs k := by
  by_cases hk : k < xs.length
  · rw [co_lt (by simpa using hk), List.getElem_set, co_lt hk]
    by_cases e : k = i
    · rw [if_pos e, if_pos e.symm]
    · rw [if_neg e, if_neg (Ne.symm e)]
  · rw [co_ge (by simp; omega), if_neg (by omega), co_ge (by omega)]
end My
namespace My
/-! ### values and shifts -/
def val (n : Int) : List Int → Int
  | [] => 0
  | c :: r => c + n * val n r
def hd (xs : List Int) : Int := xs.headD 0
def synth (b : Int) : List Int → List Int
  | [] => []
  | c :: r => (c + b * hd (synth b r)) :: synth b r
theorem synth_len (b : Int) : ∀ xs, (synth b xs).length = xs.length
  | [] => rfl
  | _ :: r => by simp [synth, synth_len b r]
def shiftN (b : Int) : Nat → List Int → List Int
  | 0, _ => []
  | n + 1, xs => hd (synth b xs) :: shiftN b n (synth b xs).tail
def shiftL (b : Int) (xs : List Int) : List Int := shiftN b xs.length xs
theorem val_split (b x : Int) : ∀ xs, val x xs = hd (synth b xs) + (x - b) * val x (synth b xs).tail
  | [] => by simp [val, synth, hd]
  | c :: r => by
    have ih := val_split b x r
    cases e : synth b r with
    | nil =>
      rw [e] at ih
      simp only [hd, List.headD_nil, List.tail_nil, val, Int.mul_zero, Int.add_zero] at ih
      simp only [val, synth, e, hd, List.headD_nil, List.headD_cons, List.tail_cons, ih, Int.mul_zero, Int.add_zero]
    | cons h q =>
      rw [e] at ih
      simp only [hd, List.headD_cons, List.tail_cons] at ih
      simp only [val, synth, e, hd, List.headD_cons, List.tail_cons, ih]
      simp only [Int.mul_add, Int.sub_mul, Int.mul_sub]
      have : x * (x * val x q) - x * (b * val x q) = x * (x * val x q) - b * (x * val x q) := by
        rw [← Int.mul_assoc x b, Int.mul_comm x b, Int.mul_assoc b x]
      omega
theorem val_shiftN (b n : Int) : ∀ (k : Nat) (xs : List Int), xs.length = k → val n (shiftN b k xs) = val (n + b) xs
  | 0, xs, h => by
    have : xs = [] := List.eq_nil_of_length_eq_zero h
    subst this; rfl
  | k + 1, xs, h => by
    show hd (synth b xs) + n * val n (shiftN b k (synth b xs).tail) = _
    rw [val_shiftN b n k _ (by rw [List.length_tail, synth_len, h]; rfl), val_split b (n + b) xs]
    have : n + b - b = n := by omega
    rw [this]
theorem val_shift (b n : Int) (xs : List Int) : val n (shiftL b xs) = val (n + b) xs := val_shiftN b n _ xs rfl
theorem shiftN_len (b : Int) : ∀ (k : Nat) (xs : List Int), (shiftN b k xs).length = k
  | 0, _ => rfl
  | k + 1, xs => by simp [shiftN, shiftN_len b k]
theorem shift_len (b : Int) (xs : List Int) : (shiftL b xs).length = xs.length := shiftN_len b _ xs
/-- far enough out a value of nought tells noughts -/
theorem val_zero : ∀ (xs : List Int) (M : Int), (∀ n, M < n → val n xs = 0) → ∀ x ∈ xs, x = 0
  | [], _, _, _, h => nomatch h
  | c :: r, M, h, x, hx => by
    have hc : c = 0 := by
      have h1 := h (max M 0 + c.natAbs + 1) (by omega)
      simp only [val] at h1
      have hd : (max M 0 + c.natAbs + 1) ∣ c := ⟨-(val (max M 0 + c.natAbs + 1) r), by rw [Int.mul_neg]; omega⟩
      by_cases hz : c = 0
      · exact hz
      · have := Int.natAbs_dvd_natAbs.mpr hd
        have := Nat.le_of_dvd (by omega) this
        omega
    have hr : ∀ n, max M 0 < n → val n r = 0 := fun n hn => by
      have h1 := h n (by omega)
      simp only [val, hc, Int.zero_add] at h1
      rcases Int.mul_eq_zero.mp h1 with z | z
      · omega
      · exact z
    rcases List.mem_cons.mp hx with rfl | hx
    · exact hc
    · exact val_zero r _ hr x hx
theorem val_sub (n : Int) : ∀ (xs ys : List Int), xs.length = ys.length → val n (List.zipWith (· - ·) xs ys) = val n xs - val n ys
  | [], [], _ => rfl
  | x :: xs, y :: ys, h => by
    have ih := val_sub n xs ys (by simpa using h)
    simp only [List.zipWith_cons_cons, val, ih, Int.mul_sub]; omega
theorem zip_zero : ∀ (xs ys : List Int), xs.length = ys.length → (∀ d ∈ List.zipWith (· - ·) xs ys, d = 0) → xs = ys
  | [], [], _, _ => rfl
  | x :: xs, y :: ys, h, hz => by
    have h1 := hz (x - y) (by simp)
    have h2 := zip_zero xs ys (by simpa using h) fun d hd => hz d (by simp [hd])
    rw [h2, show x = y by omega]
theorem val_ext {xs ys : List Int} (hl : xs.length = ys.length) (h : ∀ n, val n xs = val n ys) : xs = ys :=
  zip_zero xs ys hl (val_zero _ 0 fun n _ => by rw [val_sub n xs ys hl, h n]; omega)
end My
namespace My
/-! ### the shift, step by step in one list -/
end My
namespace My
theorem nml_last {xs : List Int} : Nml xs ↔ ∀ a, xs.getLast? = some a → a ≠ 0 := by
  constructor
  · intro h a e
    rcases List.eq_nil_or_concat xs with rfl | ⟨ys, b, rfl⟩
    · simp at e
    · rw [List.concat_eq_append] at *
      rw [List.getLast?_concat] at e
      rw [← Option.some.inj e]; exact h b ys rfl
  · intro h a ys e
    exact h a (by rw [e, List.getLast?_concat])
end My
namespace My
/-! ### fractions -/
theorem gcd_split {t b s : Int} (hb : b ≠ 0) (hs : s = if b < 0 then -((Nat.gcd t.natAbs b.natAbs : Nat) : Int) else ((Nat.gcd t.natAbs b.natAbs : Nat) : Int)) :
    s ≠ 0 ∧ s.natAbs = Nat.gcd t.natAbs b.natAbs ∧ t = s * t.fdiv s ∧ b = s * b.fdiv s ∧ 1 ≤ b.fdiv s ∧ Nat.gcd (t.fdiv s).natAbs (b.fdiv s).natAbs = 1 := by
  have gp : 0 < Nat.gcd t.natAbs b.natAbs := Nat.gcd_pos_of_pos_right _ (by omega)
  have sa : s.natAbs = Nat.gcd t.natAbs b.natAbs := by
    rw [hs]; split
    · rw [Int.natAbs_neg, Int.natAbs_natCast]
    · rw [Int.natAbs_natCast]
  have s0 : s ≠ 0 := by intro z; rw [z] at sa; simp at sa; omega
  have dt : s ∣ t := Int.natAbs_dvd_natAbs.mp (by rw [sa]; exact Nat.gcd_dvd_left _ _)
  have db : s ∣ b := Int.natAbs_dvd_natAbs.mp (by rw [sa]; exact Nat.gcd_dvd_right _ _)
  obtain ⟨c, hc⟩ := dt
  obtain ⟨d, hd⟩ := db
  have ec : t.fdiv s = c := by rw [hc]; exact Int.mul_fdiv_cancel_left c s0
  have ed : b.fdiv s = d := by rw [hd]; exact Int.mul_fdiv_cancel_left d s0
  rw [ec, ed]
  refine ⟨s0, sa, hc, hd, ?_, ?_⟩
  · by_cases hn : b < 0
    · rw [if_pos hn] at hs
      have : s < 0 := by omega
      rcases Int.lt_or_le 0 d with h | h
      · omega
      · have := Int.mul_nonneg_of_nonpos_of_nonpos (Int.le_of_lt this) h
        omega
    · rw [if_neg hn] at hs
      have : 0 < s := by omega
      rcases Int.lt_or_le 0 d with h | h
      · omega
      · have := Int.mul_nonpos_of_nonneg_of_nonpos (Int.le_of_lt this) h
        omega
  · have e1 : t.natAbs = s.natAbs * c.natAbs := by rw [← Int.natAbs_mul, ← hc]
    have e2 : b.natAbs = s.natAbs * d.natAbs := by rw [← Int.natAbs_mul, ← hd]
    have e3 := sa
    rw [e1, e2, Nat.gcd_mul_left] at e3
    have sp : 0 < s.natAbs := by omega
    exact Nat.eq_of_mul_eq_mul_left sp (by omega)
theorem abs_nat' (a : Int) : (if a < 0 then -a else a) = ((a.natAbs : Nat) : Int) := by split <;> omega
theorem fdiv_le {t s : Int} (s0 : s ≠ 0) (h : t = s * t.fdiv s) : (t.fdiv s).natAbs ≤ t.natAbs := by
  have e : t.natAbs = s.natAbs * (t.fdiv s).natAbs := by rw [← Int.natAbs_mul, ← h]
  rw [e]
  exact Nat.le_mul_of_pos_left _ (by omega)
end My
namespace My
/-! ### products by places, of any two rows of numbers -/
def pm (f g : Nat → Int) (k : Nat) : Int := sumN (k + 1) fun j => f j * g (k - j)
theorem sumN_one {n i : Nat} {f : Nat → Int} (hi : i < n) (h : ∀ j, j < n → j ≠ i → f j = 0) : sumN n f = f i := by
  induction n with
  | zero => omega
  | succ n ih =>
    simp only [sumN]
    by_cases e : i = n
    · subst e
      rw [sumN_zero fun j hj => h j (by omega) (by omega)]; omega
    · rw [ih (by omega) fun j hj hne => h j (by omega) hne, h n (by omega) (Ne.symm e)]; omega
/-- the topmost place -/
theorem pm_top {g d : Nat → Int} {m t : Nat} (hg : ∀ j, m + 1 ≤ j → g j = 0) (hd : ∀ j, t + 1 ≤ j → d j = 0) : pm g d (t + m) = g m * d t := by
  unfold pm
  rw [sumN_one (i := m) (by omega) fun j hj hne => ?_]
  · rw [show t + m - m = t by omega]
  · by_cases h : j < m
    · rw [hd (t + m - j) (by omega)]; simp
    · rw [hg j (by omega)]; simp
theorem co_last {xs : List Int} (h : Nml xs) (hne : xs ≠ []) : co xs (xs.length - 1) ≠ 0 := by
  rcases List.eq_nil_or_concat xs with rfl | ⟨ys, a, rfl⟩
  · exact absurd rfl hne
  · rw [List.concat_eq_append] at *
    rw [show (ys ++ [a]).length - 1 = ys.length by simp, co_snoc, if_pos rfl]
    exact h a ys rfl
theorem co_over {xs : List Int} (j : Nat) (h : xs.length - 1 + 1 ≤ j) : co xs j = 0 := co_ge (by omega)
/-! ### the division, step by step -/
end My
namespace My
theorem nml_nil : Nml [] := fun a ys e => by simp at e
end My
namespace My
/-! ### moved by Horner's steps; clear -/
theorem val_add (n : Int) : ∀ (xs ys : List Int), xs.length = ys.length → val n (List.zipWith (· + ·) xs ys) = val n xs + val n ys
  | [], [], _ => rfl
  | x :: xs, y :: ys, h => by
    have ih := val_add n xs ys (by simpa using h)
    simp only [List.zipWith_cons_cons, val, ih, Int.mul_add]; omega
theorem val_scaled (n b : Int) : ∀ xs : List Int, val n (xs.map (fun x => b * x) ++ [0]) = b * val n xs
  | [] => by simp [val]
  | x :: xs => by
    have ih := val_scaled n b xs
    simp only [List.map_cons, List.cons_append, val, ih, Int.mul_add]
    rw [← Int.mul_assoc n b, Int.mul_comm n b, Int.mul_assoc]
def hstep (b c : Int) (f : List Int) : List Int := List.zipWith (· + ·) (c :: f) (f.map (fun x => b * x) ++ [0])
theorem hstep_len (b c : Int) (f : List Int) : (hstep b c f).length = f.length + 1 := by simp [hstep]
theorem val_hstep (n b c : Int) (f : List Int) : val n (hstep b c f) = c + (n + b) * val n f := by
  unfold hstep
  rw [val_add n _ _ (by simp), val_scaled]
  simp only [val, Int.add_mul]; omega
def movedL (b : Int) : List Int → List Int
  | [] => []
  | c :: r => hstep b c (movedL b r)
theorem moved_len (b : Int) : ∀ xs, (movedL b xs).length = xs.length
  | [] => rfl
  | c :: r => by rw [movedL, hstep_len, moved_len b r]; rfl
theorem val_moved (b n : Int) : ∀ xs, val n (movedL b xs) = val (n + b) xs
  | [] => rfl
  | c :: r => by rw [movedL, val_hstep, val_moved b n r]; rfl
theorem moved_eq (b : Int) (xs : List Int) : movedL b xs = shiftL b xs := val_ext (by rw [moved_len, shift_len]) fun n => by rw [val_moved, val_shift]
theorem co_cons (c : Int) (f : List Int) (j : Nat) : co (c :: f) j = if j = 0 then c else co f (j - 1) := by
  cases j with
  | zero => rfl
  | succ j => rw [if_neg (by omega)]; rfl
theorem co_zip (xs ys : List Int) (h : xs.length = ys.length) (j : Nat) : co (List.zipWith (· + ·) xs ys) j = co xs j + co ys j := by
  by_cases hj : j < xs.length
  · rw [co_lt (by simp; omega), co_lt hj, co_lt (by omega)]; simp
  · rw [co_ge (by simp; omega), co_ge (by omega), co_ge (by omega)]; rfl
theorem co_scaled (b : Int) (f : List Int) (j : Nat) : co (f.map (fun x => b * x) ++ [0]) j = b * co f j := by
  rw [co_snoc]
  by_cases e : j = (f.map fun x => b * x).length
  · rw [if_pos e, co_ge (xs := f) (by rw [e]; simp)]; simp
  · rw [if_neg e]
    by_cases hj : j < f.length
    · rw [co_lt (by simpa using hj), co_lt hj]; simp
    · rw [co_ge (by simp; omega), co_ge (by omega)]; simp
theorem co_hstep (b c : Int) (f : List Int) (j : Nat) : co (hstep b c f) j = (if j = 0 then c else co f (j - 1)) + b * co f j := by
  unfold hstep
  rw [co_zip _ _ (by simp), co_cons, co_scaled]
end My
namespace My
open PySem PySem.Spec PyProof.Rows L2
def top (i : Nat) : Stmt := PySem.Challenge.pw_sumcraft_k12_values_that_keep_a_rule.main.body.getD i (.Pass ⟨0, 0, 0, 0⟩)
abbrev s_poly_value : Stmt := top 13
theorem sc_poly_value : FnScope ["poly", "n", "answer", "number"] ["poly", "n"] (defScope s_poly_value) := ⟨rfl, rfl, rfl, by decide +kernel, rfl, by decide +kernel, by decide +kernel⟩
abbrev s_divisor : Stmt := top 18
theorem sc_divisor : FnScope ["one", "other", "big", "small", "pair", "rest"] ["one", "other"] (defScope s_divisor) := ⟨rfl, rfl, rfl, by decide +kernel, rfl, by decide +kernel, by decide +kernel⟩
abbrev s_ratio : Stmt := top 19
theorem sc_ratio : FnScope ["top", "bottom", "shared"] ["top", "bottom"] (defScope s_ratio) := ⟨rfl, rfl, rfl, by decide +kernel, rfl, by decide +kernel, by decide +kernel⟩
abbrev s_order_of : Stmt := top 21
theorem sc_order_of : FnScope ["rule", "poly"] ["rule"] (defScope s_order_of) := ⟨rfl, rfl, rfl, by decide +kernel, rfl, by decide +kernel, by decide +kernel⟩
abbrev s_weighted : Stmt := top 22
theorem sc_weighted : FnScope ["weight", "fraction", "shared"] ["weight", "fraction"] (defScope s_weighted) := ⟨rfl, rfl, rfl, by decide +kernel, rfl, by decide +kernel, by decide +kernel⟩
abbrev s_total : Stmt := top 23
theorem sc_total : FnScope ["fractions", "live", "bottom", "fraction"] ["fractions"] (defScope s_total) := ⟨rfl, rfl, rfl, by decide +kernel, rfl, by decide +kernel, by decide +kernel⟩
abbrev s_rule_sum : Stmt := top 24
theorem sc_rule_sum : FnScope ["rule", "values", "n", "ahead"] ["rule", "values", "n"] (defScope s_rule_sum) := ⟨rfl, rfl, rfl, by decide +kernel, rfl, by decide +kernel, by decide +kernel⟩
abbrev s_keeps : Stmt := top 25
theorem sc_keeps : FnScope ["rule", "values", "n", "order"] ["rule", "values", "n"] (defScope s_keeps) := ⟨rfl, rfl, rfl, by decide +kernel, rfl, by decide +kernel, by decide +kernel⟩
abbrev s__law_cell_at : Stmt := top 27
theorem sc__law_cell_at : FnScope ["_law_script", "_law_k"] ["_law_script", "_law_k"] (defScope s__law_cell_at) := ⟨rfl, rfl, rfl, by decide +kernel, rfl, by decide +kernel, by decide +kernel⟩
abbrev s__law_number : Stmt := top 28
theorem sc__law_number : FnScope ["_law_cell", "_law_most"] ["_law_cell", "_law_most"] (defScope s__law_number) := ⟨rfl, rfl, rfl, by decide +kernel, rfl, by decide +kernel, by decide +kernel⟩
abbrev s__law_cut : Stmt := top 29
theorem sc__law_cut : FnScope ["_law_numbers", "_law_found"] ["_law_numbers"] (defScope s__law_cut) := ⟨rfl, rfl, rfl, by decide +kernel, rfl, by decide +kernel, by decide +kernel⟩
abbrev s__law_product : Stmt := top 30
theorem sc__law_product : FnScope ["_law_one", "_law_other", "_law_found", "_law_i", "_law_j"] ["_law_one", "_law_other"] (defScope s__law_product) := ⟨rfl, rfl, rfl, by decide +kernel, rfl, by decide +kernel, by decide +kernel⟩
abbrev s__law_moved : Stmt := top 31
theorem sc__law_moved : FnScope ["_law_poly_here", "_law_by", "_law_found", "_law_number_here", "_law_more", "_law_k"] ["_law_poly_here", "_law_by"] (defScope s__law_moved) := ⟨rfl, rfl, rfl, by decide +kernel, rfl, by decide +kernel, by decide +kernel⟩
abbrev s__law_value : Stmt := top 32
theorem sc__law_value : FnScope ["_law_poly_here", "_law_n", "_law_found", "_law_number_here"] ["_law_poly_here", "_law_n"] (defScope s__law_value) := ⟨rfl, rfl, rfl, by decide +kernel, rfl, by decide +kernel, by decide +kernel⟩
abbrev s__law_divisor : Stmt := top 33
theorem sc__law_divisor : FnScope ["_law_one", "_law_other", "_law_rest"] ["_law_one", "_law_other"] (defScope s__law_divisor) := ⟨rfl, rfl, rfl, by decide +kernel, rfl, by decide +kernel, by decide +kernel⟩
abbrev s__law_lowest : Stmt := top 34
theorem sc__law_lowest : FnScope ["_law_top", "_law_bottom", "_law_by"] ["_law_top", "_law_bottom"] (defScope s__law_lowest) := ⟨rfl, rfl, rfl, by decide +kernel, rfl, by decide +kernel, by decide +kernel⟩
abbrev s__law_fraction : Stmt := top 35
theorem sc__law_fraction : FnScope ["_law_cell", "_law_number_here", "_law_bottom"] ["_law_cell"] (defScope s__law_fraction) := ⟨rfl, rfl, rfl, by decide +kernel, rfl, by decide +kernel, by decide +kernel⟩
abbrev s__law_weighed : Stmt := top 36
theorem sc__law_weighed : FnScope ["_law_rule_here", "_law_values_here", "_law_n", "_law_top", "_law_bottom", "_law_i"] ["_law_rule_here", "_law_values_here", "_law_n"] (defScope s__law_weighed) := ⟨rfl, rfl, rfl, by decide +kernel, rfl, by decide +kernel, by decide +kernel⟩
abbrev s__law_poly : Stmt := top 37
theorem sc__law_poly : FnScope ["_law_cells", "_law_other", "_law_found"] ["_law_cells", "_law_other"] (defScope s__law_poly) := ⟨rfl, rfl, rfl, by decide +kernel, rfl, by decide +kernel, by decide +kernel⟩
abbrev s__law_less : Stmt := top 38
theorem sc__law_less : FnScope ["_law_one", "_law_other", "_law_found", "_law_k"] ["_law_one", "_law_other"] (defScope s__law_less) := ⟨rfl, rfl, rfl, by decide +kernel, rfl, by decide +kernel, by decide +kernel⟩
abbrev s__law_rule : Stmt := top 39
theorem sc__law_rule : FnScope ["_law_script", "_law_poly_here", "_law_size", "_law_rule_here", "_law_i", "_law_one"] ["_law_script", "_law_poly_here"] (defScope s__law_rule) := ⟨rfl, rfl, rfl, by decide +kernel, rfl, by decide +kernel, by decide +kernel⟩
abbrev s__law_values : Stmt := top 40
theorem sc__law_values : FnScope ["_law_script", "_law_rule_here", "_law_poly_here", "_law_by", "_law_values_here", "_law_n", "_law_cell", "_law_one", "_law_more"] ["_law_script", "_law_rule_here", "_law_poly_here"] (defScope s__law_values) := ⟨rfl, rfl, rfl, by decide +kernel, rfl, by decide +kernel, by decide +kernel⟩
abbrev s__law_is : Stmt := top 41
theorem sc__law_is : FnScope ["_law_caught", "_law_at", "_law_told_here"] ["_law_caught", "_law_at"] (defScope s__law_is) := ⟨rfl, rfl, rfl, by decide +kernel, rfl, by decide +kernel, by decide +kernel⟩
abbrev s__law_told : Stmt := top 42
theorem sc__law_told : FnScope ["_law_rule_here", "_law_values_here", "_law_n", "_law_told_here", "_law_caught", "e"] ["_law_rule_here", "_law_values_here", "_law_n"] (defScope s__law_told) := ⟨rfl, rfl, rfl, by decide +kernel, rfl, by decide +kernel, by decide +kernel⟩
abbrev s__law_all : Stmt := top 43
theorem sc__law_all : FnScope ["_law_rule_here", "_law_values_here", "_law_far", "_law_n", "_law_told_here"] ["_law_rule_here", "_law_values_here"] (defScope s__law_all) := ⟨rfl, rfl, rfl, by decide +kernel, rfl, by decide +kernel, by decide +kernel⟩
abbrev s_law : Stmt := top 44
theorem sc_law : FnScope ["_law_script", "_law_poly_here", "_law_rule_here", "_law_values_here", "_law_handed", "_law_at"] ["_law_script"] (defScope s_law) := ⟨rfl, rfl, rfl, by decide +kernel, rfl, by decide +kernel, by decide +kernel⟩
set_option genInjectivity false in
set_option genSizeOf false in
structure Tx (K : PySem.W.Frag) (mg : Str → Option Value) where
  a_poly_value : Addr
  fd_poly_value : FuncData
  F_poly_value : Fun K "poly_value" "poly_value" s_poly_value a_poly_value fd_poly_value
  m_poly_value : mg "poly_value" = some (.ref a_poly_value)
  b_poly_value : Binds K fd_poly_value ["poly", "n"] []
  a_divisor : Addr
  fd_divisor : FuncData
  F_divisor : Fun K "divisor" "divisor" s_divisor a_divisor fd_divisor
  m_divisor : mg "divisor" = some (.ref a_divisor)
  b_divisor : Binds K fd_divisor ["one", "other"] []
  a_ratio : Addr
  fd_ratio : FuncData
  F_ratio : Fun K "ratio" "ratio" s_ratio a_ratio fd_ratio
  m_ratio : mg "ratio" = some (.ref a_ratio)
  b_ratio : Binds K fd_ratio ["top", "bottom"] []
  a_order_of : Addr
  fd_order_of : FuncData
  F_order_of : Fun K "order_of" "order_of" s_order_of a_order_of fd_order_of
  m_order_of : mg "order_of" = some (.ref a_order_of)
  b_order_of : Binds K fd_order_of ["rule"] []
  a_weighted : Addr
  fd_weighted : FuncData
  F_weighted : Fun K "weighted" "weighted" s_weighted a_weighted fd_weighted
  m_weighted : mg "weighted" = some (.ref a_weighted)
  b_weighted : Binds K fd_weighted ["weight", "fraction"] []
  a_total : Addr
  fd_total : FuncData
  F_total : Fun K "total" "total" s_total a_total fd_total
  m_total : mg "total" = some (.ref a_total)
  b_total : Binds K fd_total ["fractions"] []
  a_rule_sum : Addr
  fd_rule_sum : FuncData
  F_rule_sum : Fun K "rule_sum" "rule_sum" s_rule_sum a_rule_sum fd_rule_sum
  m_rule_sum : mg "rule_sum" = some (.ref a_rule_sum)
  b_rule_sum : Binds K fd_rule_sum ["rule", "values", "n"] []
  a_keeps : Addr
  fd_keeps : FuncData
  F_keeps : Fun K "keeps" "keeps" s_keeps a_keeps fd_keeps
  m_keeps : mg "keeps" = some (.ref a_keeps)
  b_keeps : Binds K fd_keeps ["rule", "values", "n"] []
  a__law_cell_at : Addr
  fd__law_cell_at : FuncData
  F__law_cell_at : Fun K "_law_cell_at" "_law_cell_at" s__law_cell_at a__law_cell_at fd__law_cell_at
  m__law_cell_at : mg "_law_cell_at" = some (.ref a__law_cell_at)
  b__law_cell_at : Binds K fd__law_cell_at ["_law_script", "_law_k"] []
  a__law_number : Addr
  fd__law_number : FuncData
  F__law_number : Fun K "_law_number" "_law_number" s__law_number a__law_number fd__law_number
  m__law_number : mg "_law_number" = some (.ref a__law_number)
  b__law_number : Binds K fd__law_number ["_law_cell", "_law_most"] []
  a__law_cut : Addr
  fd__law_cut : FuncData
  F__law_cut : Fun K "_law_cut" "_law_cut" s__law_cut a__law_cut fd__law_cut
  m__law_cut : mg "_law_cut" = some (.ref a__law_cut)
  b__law_cut : Binds K fd__law_cut ["_law_numbers"] []
  a__law_product : Addr
  fd__law_product : FuncData
  F__law_product : Fun K "_law_product" "_law_product" s__law_product a__law_product fd__law_product
  m__law_product : mg "_law_product" = some (.ref a__law_product)
  b__law_product : Binds K fd__law_product ["_law_one", "_law_other"] []
  a__law_moved : Addr
  fd__law_moved : FuncData
  F__law_moved : Fun K "_law_moved" "_law_moved" s__law_moved a__law_moved fd__law_moved
  m__law_moved : mg "_law_moved" = some (.ref a__law_moved)
  b__law_moved : Binds K fd__law_moved ["_law_poly_here", "_law_by"] []
  a__law_value : Addr
  fd__law_value : FuncData
  F__law_value : Fun K "_law_value" "_law_value" s__law_value a__law_value fd__law_value
  m__law_value : mg "_law_value" = some (.ref a__law_value)
  b__law_value : Binds K fd__law_value ["_law_poly_here", "_law_n"] []
  a__law_divisor : Addr
  fd__law_divisor : FuncData
  F__law_divisor : Fun K "_law_divisor" "_law_divisor" s__law_divisor a__law_divisor fd__law_divisor
  m__law_divisor : mg "_law_divisor" = some (.ref a__law_divisor)
  b__law_divisor : Binds K fd__law_divisor ["_law_one", "_law_other"] []
  a__law_lowest : Addr
  fd__law_lowest : FuncData
  F__law_lowest : Fun K "_law_lowest" "_law_lowest" s__law_lowest a__law_lowest fd__law_lowest
  m__law_lowest : mg "_law_lowest" = some (.ref a__law_lowest)
  b__law_lowest : Binds K fd__law_lowest ["_law_top", "_law_bottom"] []
  a__law_fraction : Addr
  fd__law_fraction : FuncData
  F__law_fraction : Fun K "_law_fraction" "_law_fraction" s__law_fraction a__law_fraction fd__law_fraction
  m__law_fraction : mg "_law_fraction" = some (.ref a__law_fraction)
  b__law_fraction : Binds K fd__law_fraction ["_law_cell"] []
  a__law_weighed : Addr
  fd__law_weighed : FuncData
  F__law_weighed : Fun K "_law_weighed" "_law_weighed" s__law_weighed a__law_weighed fd__law_weighed
  m__law_weighed : mg "_law_weighed" = some (.ref a__law_weighed)
  b__law_weighed : Binds K fd__law_weighed ["_law_rule_here", "_law_values_here", "_law_n"] []
  a__law_poly : Addr
  fd__law_poly : FuncData
  F__law_poly : Fun K "_law_poly" "_law_poly" s__law_poly a__law_poly fd__law_poly
  m__law_poly : mg "_law_poly" = some (.ref a__law_poly)
  b__law_poly : Binds K fd__law_poly ["_law_cells", "_law_other"] []
  a__law_less : Addr
  fd__law_less : FuncData
  F__law_less : Fun K "_law_less" "_law_less" s__law_less a__law_less fd__law_less
  m__law_less : mg "_law_less" = some (.ref a__law_less)
  b__law_less : Binds K fd__law_less ["_law_one", "_law_other"] []
  a__law_rule : Addr
  fd__law_rule : FuncData
  F__law_rule : Fun K "_law_rule" "_law_rule" s__law_rule a__law_rule fd__law_rule
  m__law_rule : mg "_law_rule" = some (.ref a__law_rule)
  b__law_rule : Binds K fd__law_rule ["_law_script", "_law_poly_here"] []
  a__law_values : Addr
  fd__law_values : FuncData
  F__law_values : Fun K "_law_values" "_law_values" s__law_values a__law_values fd__law_values
  m__law_values : mg "_law_values" = some (.ref a__law_values)
  b__law_values : Binds K fd__law_values ["_law_script", "_law_rule_here", "_law_poly_here"] []
  a__law_is : Addr
  fd__law_is : FuncData
  F__law_is : Fun K "_law_is" "_law_is" s__law_is a__law_is fd__law_is
  m__law_is : mg "_law_is" = some (.ref a__law_is)
  b__law_is : Binds K fd__law_is ["_law_caught", "_law_at"] []
  a__law_told : Addr
  fd__law_told : FuncData
  F__law_told : Fun K "_law_told" "_law_told" s__law_told a__law_told fd__law_told
  m__law_told : mg "_law_told" = some (.ref a__law_told)
  b__law_told : Binds K fd__law_told ["_law_rule_here", "_law_values_here", "_law_n"] []
  a__law_all : Addr
  fd__law_all : FuncData
  F__law_all : Fun K "_law_all" "_law_all" s__law_all a__law_all fd__law_all
  m__law_all : mg "_law_all" = some (.ref a__law_all)
  b__law_all : Binds K fd__law_all ["_law_rule_here", "_law_values_here"] []
  a_law : Addr
  fd_law : FuncData
  F_law : Fun K "law" "law" s_law a_law fd_law
  m_law : mg "law" = some (.ref a_law)
  b_law : Binds K fd_law ["_law_script"] []
  c_NoNumber : Addr
  mc_NoNumber : mg "NoNumber" = some (.ref c_NoNumber)
  xc_NoNumber : PySem.W.excIn K c_NoNumber bmV "ValueError.__new__" = true
  c_NoRule : Addr
  mc_NoRule : mg "NoRule" = some (.ref c_NoRule)
  xc_NoRule : PySem.W.excIn K c_NoRule bmV "ValueError.__new__" = true
  c_NoPlace : Addr
  mc_NoPlace : mg "NoPlace" = some (.ref c_NoPlace)
  xc_NoPlace : PySem.W.excIn K c_NoPlace bmV "ValueError.__new__" = true
  c_SumError : Addr
  mc_SumError : mg "SumError" = some (.ref c_SumError)
  xc_SumError : PySem.W.excIn K c_SumError bmV "ValueError.__new__" = true
  c_TooFew : Addr
  mc_TooFew : mg "TooFew" = some (.ref c_TooFew)
  c_NotKept : Addr
  mc_NotKept : mg "NotKept" = some (.ref c_NotKept)
  c_TooGreat : Addr
  mc_TooGreat : mg "TooGreat" = some (.ref c_TooGreat)
  c_NoTerm : Addr
  mc_NoTerm : mg "NoTerm" = some (.ref c_NoTerm)
  c_NoEnds : Addr
  mc_NoEnds : mg "NoEnds" = some (.ref c_NoEnds)
  c_NoLine : Addr
  mc_NoLine : mg "NoLine" = some (.ref c_NoLine)
  c_NoName : Addr
  mc_NoName : mg "NoName" = some (.ref c_NoName)
  kc_NoRule_SumError : Catches K c_NoRule c_SumError
  kc_NoPlace_SumError : Catches K c_NoPlace c_SumError
  ec_NoRule : ExCls K c_NoRule
  ec_NoPlace : ExCls K c_NoPlace
  ki_NoRule_TooGreat : PySem.W.kitOne K (.ref c_NoRule) (.ref c_TooGreat) = some false
  ki_NoRule_TooFew : PySem.W.kitOne K (.ref c_NoRule) (.ref c_TooFew) = some false
  ki_NoRule_NotKept : PySem.W.kitOne K (.ref c_NoRule) (.ref c_NotKept) = some false
  ki_NoRule_NoNumber : PySem.W.kitOne K (.ref c_NoRule) (.ref c_NoNumber) = some false
  ki_NoRule_NoTerm : PySem.W.kitOne K (.ref c_NoRule) (.ref c_NoTerm) = some false
  ki_NoRule_NoEnds : PySem.W.kitOne K (.ref c_NoRule) (.ref c_NoEnds) = some false
  ki_NoRule_NoLine : PySem.W.kitOne K (.ref c_NoRule) (.ref c_NoLine) = some false
  ki_NoRule_NoName : PySem.W.kitOne K (.ref c_NoRule) (.ref c_NoName) = some false
  ki_NoPlace_TooGreat : PySem.W.kitOne K (.ref c_NoPlace) (.ref c_TooGreat) = some false
  ki_NoPlace_TooFew : PySem.W.kitOne K (.ref c_NoPlace) (.ref c_TooFew) = some false
  ki_NoPlace_NotKept : PySem.W.kitOne K (.ref c_NoPlace) (.ref c_NotKept) = some false
  ki_NoPlace_NoNumber : PySem.W.kitOne K (.ref c_NoPlace) (.ref c_NoNumber) = some false
  ki_NoPlace_NoTerm : PySem.W.kitOne K (.ref c_NoPlace) (.ref c_NoTerm) = some false
  ki_NoPlace_NoEnds : PySem.W.kitOne K (.ref c_NoPlace) (.ref c_NoEnds) = some false
  ki_NoPlace_NoLine : PySem.W.kitOne K (.ref c_NoPlace) (.ref c_NoLine) = some false
  ki_NoPlace_NoName : PySem.W.kitOne K (.ref c_NoPlace) (.ref c_NoName) = some false
  ki_NoRule_NoRule : PySem.W.kitOne K (.ref c_NoRule) (.ref c_NoRule) = some true
  ki_NoRule_NoPlace : PySem.W.kitOne K (.ref c_NoRule) (.ref c_NoPlace) = some false
  ki_NoPlace_NoPlace : PySem.W.kitOne K (.ref c_NoPlace) (.ref c_NoPlace) = some true
  ki_NoPlace_NoRule : PySem.W.kitOne K (.ref c_NoPlace) (.ref c_NoRule) = some false
  ki_NoRule_ValueError : PySem.W.kitOne K (.ref c_NoRule) (.type "ValueError") = some true
  ki_NoPlace_ValueError : PySem.W.kitOne K (.ref c_NoPlace) (.type "ValueError") = some true
  z_reversed : mg "reversed" = none
  z_abs : mg "abs" = none
  z_len : mg "len" = none
  z_sum : mg "sum" = none
  z_zip : mg "zip" = none
  z_list : mg "list" = none
  z_range : mg "range" = none
  z_max : mg "max" = none
  z_enumerate : mg "enumerate" = none
  z_isinstance : mg "isinstance" = none
  z_ValueError : mg "ValueError" = none
  z_bool : mg "bool" = none
  g_LONG : { t : Tok // mg "LONG" = some (.int 4000 t) }
/-! #### divisors -/
theorem abs_nat (a : Int) : (if a < 0 then -a else a) = ((a.natAbs : Nat) : Int) := by split <;> omega
def spGcd : Sp := fun vs H Q _ => ∃ a b : Int, vs = [.int a, .int b] ∧ b.natAbs < 2 ^ 4000 ∧ Q (.int (Nat.gcd a.natAbs b.natAbs : Nat)) H
theorem bits_le {b : Int} (h : b.natAbs < 2 ^ 4000) : ¬ (4000 : Int) < ((Builtin.Int.intBits ((b.natAbs : Nat) : Int) : Nat) : Int) := by
  have := intBits_le_of (i := ((b.natAbs : Nat) : Int)) (k := 4000) (by rw [Int.natAbs_natCast]; exact h)
  omega
theorem ok_divisor {P : Program} {w : World} {K : PySem.W.Frag} {mg : Str → Option Value} {base : Heap} (T : Tx K mg) : FnOk P w K mg base CX0 1 T.a_divisor T.fd_divisor ["one", "other"] spGcd := by
  refine T.F_divisor.ok sc_divisor (fun vs H Q E h => ?_) (fun cdv A outer s H vs Q E hr h => ?_)
  · obtain ⟨a, b, rfl, _⟩ := h
    rfl
  obtain ⟨a, b, rfl, hb, q⟩ := h
  refine ⟨_, ((pss_cons (ps_set (i := 2) sc_divisor.nd rfl (Or.inl rfl) (pe_callB call_abs rfl T.z_abs bt_abs (pa_cons (pv 0) pa_nil)))
    (pss_cons (ps_set (i := 3) sc_divisor.nd rfl (Or.inl rfl) (pe_callB call_abs rfl T.z_abs bt_abs (pa_cons (pv 1) pa_nil)))
    (pss_cons (ps_while PassesOwn.never (pt_cmpR op_gt (pe_bm0 PySem.F.plainAttrs_int PySem.F.slot_int_bit_length PySem.F.type_int_bit_length mt_bitlen (pv 3)) (pe_glob (v := .int 4000) rfl T.g_LONG.2 ⟨_, rfl⟩) (nomark _)) pss_never)
    (pss_cons (ps_while PassesOwn.never (pt_cmpR op_ne (pv 3) pe_int (nomark _)) (pss_cons (ps_set (i := 5) sc_divisor.nd rfl (Or.inl rfl) (pe_op op_mod (pv 2) (pv 3)))
    (pss_cons (ps_set (i := 2) sc_divisor.nd rfl (Or.inl rfl) (pv 3))
    (pss_one (ps_set (i := 3) sc_divisor.nd rfl (Or.inl rfl) (pv 5))))))
    (pss_one (ps_ret (pv 2)))))))), ?_⟩
  (try dsimp only [a_ipC, a_izip, a_tComp2, a_tryAs, a_drop_nx, a_raise, a_try, a_compIf, a_seq, a_next, a_brk, a_cnt, a_drop, a_ret, a_retN, a_if, a_asg, a_gname, a_gsub, a_gtup, a_gnil, a_gcons, a_aug, a_augS, a_ipI, a_var, a_c, a_op, a_un, a_rI, a_rI0, a_rU, a_eqI, a_neI, a_eqB, a_neB, a_tB, a_test, a_and, a_or, a_not, a_andV, a_orV, a_notV, a_ifE, a_chain, a_nil, a_cons, a_lst, a_tup, a_call, a_cb, a_bm0, a_bm, a_sl, a_nopart, a_part, a_tyI, a_for, a_comp, a_ilist, a_itup, a_irng1, a_irng2, a_irng3, a_cxK, a_irev, a_ienum, a_cat, a_rep, a_pop, a_clear, a_rslL, a_ixL, a_ixT, a_setL, a_app]); (try simp only [a_ipC, a_izip, a_tComp2, a_tryAs, a_drop_nx, a_raise, a_try, a_compIf, a_seq, a_next, a_brk, a_cnt, a_drop, a_ret, a_retN, a_if, a_asg, a_gname, a_gsub, a_gtup, a_gnil, a_gcons, a_aug, a_augS, a_ipI, a_var, a_c, a_op, a_un, a_rI, a_rI0, a_rU, a_eqI, a_neI, a_eqB, a_neB, a_tB, a_test, a_and, a_or, a_not, a_andV, a_orV, a_notV, a_ifE, a_chain, a_nil, a_cons, a_lst, a_tup, a_call, a_cb, a_bm0, a_bm, a_sl, a_nopart, a_part, a_tyI, a_for, a_comp, a_ilist, a_itup, a_irng1, a_irng2, a_irng3, a_cxK, and_assoc, a_irev, a_ienum, a_cat, a_rep, a_pop, a_clear, a_rslL, a_ixL, a_ixT, a_setL, a_app,
    List.getElem?_cons_zero, List.getElem?_cons_succ, List.set_cons_zero, List.set_cons_succ, Option.some.injEq, V.int.injEq, V.bl.injEq, V.ref.injEq, V.ty.injEq, exists_eq_left', exists_eq_left, exists_and_left, decide_eq_true_eq, List.cons_append, List.nil_append, List.append_nil, List.cons.injEq, and_true, true_and, Bool.not_eq_true', decide_eq_false_iff_not, ite_true, ite_false, Bool.false_eq_true, if_true, if_false, List.length_cons, List.length_nil, L2.start, List.map_cons, List.map_nil, List.replicate_succ, List.replicate_zero, abs_nat])
  refine while_of (fun m σ H' => σ = [some (V.int a), some (V.int b), some (V.int a.natAbs), some (V.int b.natAbs), none, none] ∧ H' = H) 0 ⟨rfl, rfl⟩ ?_
  rintro m σ H' ⟨rfl, rfl⟩
  (try dsimp only [a_ipC, a_izip, a_tComp2, a_tryAs, a_drop_nx, a_raise, a_try, a_compIf, a_seq, a_next, a_brk, a_cnt, a_drop, a_ret, a_retN, a_if, a_asg, a_gname, a_gsub, a_gtup, a_gnil, a_gcons, a_aug, a_augS, a_ipI, a_var, a_c, a_op, a_un, a_rI, a_rI0, a_rU, a_eqI, a_neI, a_eqB, a_neB, a_tB, a_test, a_and, a_or, a_not, a_andV, a_orV, a_notV, a_ifE, a_chain, a_nil, a_cons, a_lst, a_tup, a_call, a_cb, a_bm0, a_bm, a_sl, a_nopart, a_part, a_tyI, a_for, a_comp, a_ilist, a_itup, a_irng1, a_irng2, a_irng3, a_cxK, a_irev, a_ienum, a_cat, a_rep, a_pop, a_clear, a_rslL, a_ixL, a_ixT, a_setL, a_app]); (try simp only [a_ipC, a_izip, a_tComp2, a_tryAs, a_drop_nx, a_raise, a_try, a_compIf, a_seq, a_next, a_brk, a_cnt, a_drop, a_ret, a_retN, a_if, a_asg, a_gname, a_gsub, a_gtup, a_gnil, a_gcons, a_aug, a_augS, a_ipI, a_var, a_c, a_op, a_un, a_rI, a_rI0, a_rU, a_eqI, a_neI, a_eqB, a_neB, a_tB, a_test, a_and, a_or, a_not, a_andV, a_orV, a_notV, a_ifE, a_chain, a_nil, a_cons, a_lst, a_tup, a_call, a_cb, a_bm0, a_bm, a_sl, a_nopart, a_part, a_tyI, a_for, a_comp, a_ilist, a_itup, a_irng1, a_irng2, a_irng3, a_cxK, and_assoc, a_irev, a_ienum, a_cat, a_rep, a_pop, a_clear, a_rslL, a_ixL, a_ixT, a_setL, a_app,
    List.getElem?_cons_zero, List.getElem?_cons_succ, List.set_cons_zero, List.set_cons_succ, Option.some.injEq, V.int.injEq, V.bl.injEq, V.ref.injEq, V.ty.injEq, exists_eq_left', exists_eq_left, exists_and_left, decide_eq_true_eq, List.cons_append, List.nil_append, List.append_nil, List.cons.injEq, and_true, true_and, Bool.not_eq_true', decide_eq_false_iff_not, ite_true, ite_false, Bool.false_eq_true, if_true, if_false, List.length_cons, List.length_nil, L2.start, List.map_cons, List.map_nil, List.replicate_succ, List.replicate_zero])
  rw [if_neg (bits_le hb)]
  refine while_of (fun m σ H1 => ∃ (x y : Nat) (r : Option V), σ = [some (V.int a), some (V.int b), some (.int x), some (.int y), none, r] ∧ H1 = H' ∧ m = y ∧ Nat.gcd x y = Nat.gcd a.natAbs b.natAbs) b.natAbs ⟨a.natAbs, b.natAbs, none, rfl, rfl, rfl, rfl⟩ ?_
  rintro m σ H1 ⟨x, y, r, rfl, rfl, rfl, hg⟩
  (try dsimp only [a_ipC, a_izip, a_tComp2, a_tryAs, a_drop_nx, a_raise, a_try, a_compIf, a_seq, a_next, a_brk, a_cnt, a_drop, a_ret, a_retN, a_if, a_asg, a_gname, a_gsub, a_gtup, a_gnil, a_gcons, a_aug, a_augS, a_ipI, a_var, a_c, a_op, a_un, a_rI, a_rI0, a_rU, a_eqI, a_neI, a_eqB, a_neB, a_tB, a_test, a_and, a_or, a_not, a_andV, a_orV, a_notV, a_ifE, a_chain, a_nil, a_cons, a_lst, a_tup, a_call, a_cb, a_bm0, a_bm, a_sl, a_nopart, a_part, a_tyI, a_for, a_comp, a_ilist, a_itup, a_irng1, a_irng2, a_irng3, a_cxK, a_irev, a_ienum, a_cat, a_rep, a_pop, a_clear, a_rslL, a_ixL, a_ixT, a_setL, a_app]); (try simp only [a_ipC, a_izip, a_tComp2, a_tryAs, a_drop_nx, a_raise, a_try, a_compIf, a_seq, a_next, a_brk, a_cnt, a_drop, a_ret, a_retN, a_if, a_asg, a_gname, a_gsub, a_gtup, a_gnil, a_gcons, a_aug, a_augS, a_ipI, a_var, a_c, a_op, a_un, a_rI, a_rI0, a_rU, a_eqI, a_neI, a_eqB, a_neB, a_tB, a_test, a_and, a_or, a_not, a_andV, a_orV, a_notV, a_ifE, a_chain, a_nil, a_cons, a_lst, a_tup, a_call, a_cb, a_bm0, a_bm, a_sl, a_nopart, a_part, a_tyI, a_for, a_comp, a_ilist, a_itup, a_irng1, a_irng2, a_irng3, a_cxK, and_assoc, a_irev, a_ienum, a_cat, a_rep, a_pop, a_clear, a_rslL, a_ixL, a_ixT, a_setL, a_app,
    List.getElem?_cons_zero, List.getElem?_cons_succ, List.set_cons_zero, List.set_cons_succ, Option.some.injEq, V.int.injEq, V.bl.injEq, V.ref.injEq, V.ty.injEq, exists_eq_left', exists_eq_left, exists_and_left, decide_eq_true_eq, List.cons_append, List.nil_append, List.append_nil, List.cons.injEq, and_true, true_and, Bool.not_eq_true', decide_eq_false_iff_not, ite_true, ite_false, Bool.false_eq_true, if_true, if_false, List.length_cons, List.length_nil, L2.start, List.map_cons, List.map_nil, List.replicate_succ, List.replicate_zero])
  refine ite2 (fun h => ?_) (fun h => ?_)
  · refine ⟨fun σ' H2 => σ' = [some (V.int a), some (V.int b), some (V.int m), some (V.int ((x : Int) % (m : Int))), none, some (V.int ((x : Int) % (m : Int)))] ∧ H2 = H1, ?_, by omega, rfl, rfl⟩
    rintro σ' H2 ⟨rfl, rfl⟩
    refine ⟨x % m, Nat.mod_lt _ (by omega), m, x % m, _, by rw [← Int.natCast_emod], rfl, rfl, ?_⟩
    rw [Nat.gcd_comm m, ← Nat.gcd_rec, Nat.gcd_comm]; exact hg
  · have h0 : m = 0 := by omega
    subst h0
    rw [Nat.gcd_zero_right] at hg
    rw [hg]; exact q

def spGcdL : Sp := fun vs H Q _ => ∃ a b : Int, vs = [.int a, .int b] ∧ Q (.int (Nat.gcd a.natAbs b.natAbs : Nat)) H
theorem ok__law_divisor {P : Program} {w : World} {K : PySem.W.Frag} {mg : Str → Option Value} {base : Heap} (T : Tx K mg) : FnOk P w K mg base CX0 1 T.a__law_divisor T.fd__law_divisor ["_law_one", "_law_other"] spGcdL := by
  refine T.F__law_divisor.ok sc__law_divisor (fun vs H Q E h => ?_) (fun cdv A outer s H vs Q E hr h => ?_)
  · obtain ⟨a, b, rfl, _⟩ := h
    rfl
  obtain ⟨a, b, rfl, q⟩ := h
  refine ⟨_, ((pss_cons (ps_set (i := 0) sc__law_divisor.nd rfl (Or.inl rfl) (pe_callB call_abs rfl T.z_abs bt_abs (pa_cons (pv 0) pa_nil)))
    (pss_cons (ps_set (i := 1) sc__law_divisor.nd rfl (Or.inl rfl) (pe_callB call_abs rfl T.z_abs bt_abs (pa_cons (pv 1) pa_nil)))
    (pss_cons (ps_while PassesOwn.never (pt_cmpR op_ne (pv 0) pe_int (nomark _)) (pss_cons (ps_set (i := 2) sc__law_divisor.nd rfl (Or.inl rfl) (pe_op op_mod (pv 1) (pv 0)))
    (pss_cons (ps_set (i := 1) sc__law_divisor.nd rfl (Or.inl rfl) (pv 0))
    (pss_one (ps_set (i := 0) sc__law_divisor.nd rfl (Or.inl rfl) (pv 2))))))
    (pss_one (ps_ret (pv 1))))))), ?_⟩
  (try dsimp only [a_ipC, a_izip, a_tComp2, a_tryAs, a_drop_nx, a_raise, a_try, a_compIf, a_seq, a_next, a_brk, a_cnt, a_drop, a_ret, a_retN, a_if, a_asg, a_gname, a_gsub, a_gtup, a_gnil, a_gcons, a_aug, a_augS, a_ipI, a_var, a_c, a_op, a_un, a_rI, a_rI0, a_rU, a_eqI, a_neI, a_eqB, a_neB, a_tB, a_test, a_and, a_or, a_not, a_andV, a_orV, a_notV, a_ifE, a_chain, a_nil, a_cons, a_lst, a_tup, a_call, a_cb, a_bm0, a_bm, a_sl, a_nopart, a_part, a_tyI, a_for, a_comp, a_ilist, a_itup, a_irng1, a_irng2, a_irng3, a_cxK, a_irev, a_ienum, a_cat, a_rep, a_pop, a_clear, a_rslL, a_ixL, a_ixT, a_setL, a_app]); (try simp only [a_ipC, a_izip, a_tComp2, a_tryAs, a_drop_nx, a_raise, a_try, a_compIf, a_seq, a_next, a_brk, a_cnt, a_drop, a_ret, a_retN, a_if, a_asg, a_gname, a_gsub, a_gtup, a_gnil, a_gcons, a_aug, a_augS, a_ipI, a_var, a_c, a_op, a_un, a_rI, a_rI0, a_rU, a_eqI, a_neI, a_eqB, a_neB, a_tB, a_test, a_and, a_or, a_not, a_andV, a_orV, a_notV, a_ifE, a_chain, a_nil, a_cons, a_lst, a_tup, a_call, a_cb, a_bm0, a_bm, a_sl, a_nopart, a_part, a_tyI, a_for, a_comp, a_ilist, a_itup, a_irng1, a_irng2, a_irng3, a_cxK, and_assoc, a_irev, a_ienum, a_cat, a_rep, a_pop, a_clear, a_rslL, a_ixL, a_ixT, a_setL, a_app,
    List.getElem?_cons_zero, List.getElem?_cons_succ, List.set_cons_zero, List.set_cons_succ, Option.some.injEq, V.int.injEq, V.bl.injEq, V.ref.injEq, V.ty.injEq, exists_eq_left', exists_eq_left, exists_and_left, decide_eq_true_eq, List.cons_append, List.nil_append, List.append_nil, List.cons.injEq, and_true, true_and, Bool.not_eq_true', decide_eq_false_iff_not, ite_true, ite_false, Bool.false_eq_true, if_true, if_false, List.length_cons, List.length_nil, L2.start, List.map_cons, List.map_nil, List.replicate_succ, List.replicate_zero, abs_nat])
  refine while_of (fun m σ H' => ∃ (x y : Nat) (r : Option V), σ = [some (.int x), some (.int y), r] ∧ H' = H ∧ m = x ∧ Nat.gcd x y = Nat.gcd a.natAbs b.natAbs) a.natAbs ⟨a.natAbs, b.natAbs, none, rfl, rfl, rfl, rfl⟩ ?_
  rintro m σ H' ⟨x, y, r, rfl, rfl, rfl, hg⟩
  (try dsimp only [a_ipC, a_izip, a_tComp2, a_tryAs, a_drop_nx, a_raise, a_try, a_compIf, a_seq, a_next, a_brk, a_cnt, a_drop, a_ret, a_retN, a_if, a_asg, a_gname, a_gsub, a_gtup, a_gnil, a_gcons, a_aug, a_augS, a_ipI, a_var, a_c, a_op, a_un, a_rI, a_rI0, a_rU, a_eqI, a_neI, a_eqB, a_neB, a_tB, a_test, a_and, a_or, a_not, a_andV, a_orV, a_notV, a_ifE, a_chain, a_nil, a_cons, a_lst, a_tup, a_call, a_cb, a_bm0, a_bm, a_sl, a_nopart, a_part, a_tyI, a_for, a_comp, a_ilist, a_itup, a_irng1, a_irng2, a_irng3, a_cxK, a_irev, a_ienum, a_cat, a_rep, a_pop, a_clear, a_rslL, a_ixL, a_ixT, a_setL, a_app]); (try simp only [a_ipC, a_izip, a_tComp2, a_tryAs, a_drop_nx, a_raise, a_try, a_compIf, a_seq, a_next, a_brk, a_cnt, a_drop, a_ret, a_retN, a_if, a_asg, a_gname, a_gsub, a_gtup, a_gnil, a_gcons, a_aug, a_augS, a_ipI, a_var, a_c, a_op, a_un, a_rI, a_rI0, a_rU, a_eqI, a_neI, a_eqB, a_neB, a_tB, a_test, a_and, a_or, a_not, a_andV, a_orV, a_notV, a_ifE, a_chain, a_nil, a_cons, a_lst, a_tup, a_call, a_cb, a_bm0, a_bm, a_sl, a_nopart, a_part, a_tyI, a_for, a_comp, a_ilist, a_itup, a_irng1, a_irng2, a_irng3, a_cxK, and_assoc, a_irev, a_ienum, a_cat, a_rep, a_pop, a_clear, a_rslL, a_ixL, a_ixT, a_setL, a_app,
    List.getElem?_cons_zero, List.getElem?_cons_succ, List.set_cons_zero, List.set_cons_succ, Option.some.injEq, V.int.injEq, V.bl.injEq, V.ref.injEq, V.ty.injEq, exists_eq_left', exists_eq_left, exists_and_left, decide_eq_true_eq, List.cons_append, List.nil_append, List.append_nil, List.cons.injEq, and_true, true_and, Bool.not_eq_true', decide_eq_false_iff_not, ite_true, ite_false, Bool.false_eq_true, if_true, if_false, List.length_cons, List.length_nil, L2.start, List.map_cons, List.map_nil, List.replicate_succ, List.replicate_zero])
  refine ite2 (fun h => ?_) (fun h => ?_)
  · refine ⟨fun σ' H1 => σ' = [some (V.int ((y : Int) % (m : Int))), some (V.int m), some (V.int ((y : Int) % (m : Int)))] ∧ H1 = H', ?_, by omega, rfl, rfl⟩
    rintro σ' H1 ⟨rfl, rfl⟩
    refine ⟨y % m, Nat.mod_lt _ (by omega), y % m, m, _, by rw [← Int.natCast_emod], rfl, rfl, ?_⟩
    rw [← Nat.gcd_rec]; exact hg
  · have h0 : m = 0 := by omega
    subst h0
    rw [Nat.gcd_zero_left] at hg
    rw [hg]; exact q

/-! #### poly_value -/
def spValue (K : PySem.W.Frag) : Sp := fun vs H Q _ => ∃ (a : Addr) (xs : List Int) (n : Int) (k l : Nat), vs = [.ref a, .int n] ∧ SqL K H a (xs.map V.int) ∧ xs.length ≤ 64 ∧ (∀ x ∈ xs, Bd k x) ∧ Bd l n ∧ k + l * 100 ≤ 60000000 ∧ Q (.int (val n xs)) H
theorem val_drop (n : Int) (xs : List Int) (i : Nat) (h : i < xs.length) : val n (xs.drop (xs.length - 1 - i)) = val n (xs.drop (xs.length - i)) * n + xs[xs.length - 1 - i] := by
  rw [List.drop_eq_getElem_cons (by omega), show xs.length - 1 - i + 1 = xs.length - i by omega]
  simp only [val]
  rw [Int.mul_comm]; omega
theorem ok_poly_value {P : Program} {w : World} {K : PySem.W.Frag} {mg : Str → Option Value} {base : Heap} (T : Tx K mg) : FnOk P w K mg base CX0 1 T.a_poly_value T.fd_poly_value ["poly", "n"] (spValue K) := by
  refine T.F_poly_value.ok sc_poly_value (fun vs H Q E h => ?_) (fun cdv A outer s H vs Q E hr h => ?_)
  · obtain ⟨a, xs, n, k, l, rfl, _⟩ := h
    rfl
  obtain ⟨a, xs, n, k, l, rfl, hS, hl, hk, hb, hf, q⟩ := h
  refine ⟨_, ((pss_cons (ps_set (i := 2) sc_poly_value.nd rfl (Or.inl rfl) pe_int)
    (pss_cons (ps_for PassesOwn.never rfl (pi_rev rfl T.z_reversed (pa_cons (pv 0) pa_nil)) (pg_name (i := 3) sc_poly_value.nd rfl (Or.inl rfl)) (pss_one (ps_set (i := 2) sc_poly_value.nd rfl (Or.inl rfl) (pe_op op_add (pe_op op_mulZ (pv 2) (pv 1)) (pv 3)))))
    (pss_one (ps_ret (pv 2)))))), ?_⟩
  (try dsimp only [a_ipC, a_izip, a_tComp2, a_tryAs, a_drop_nx, a_raise, a_try, a_compIf, a_seq, a_next, a_brk, a_cnt, a_drop, a_ret, a_retN, a_if, a_asg, a_gname, a_gsub, a_gtup, a_gnil, a_gcons, a_aug, a_augS, a_ipI, a_var, a_c, a_op, a_un, a_rI, a_rI0, a_rU, a_eqI, a_neI, a_eqB, a_neB, a_tB, a_test, a_and, a_or, a_not, a_andV, a_orV, a_notV, a_ifE, a_chain, a_nil, a_cons, a_lst, a_tup, a_call, a_cb, a_bm0, a_bm, a_sl, a_nopart, a_part, a_tyI, a_for, a_comp, a_ilist, a_itup, a_irng1, a_irng2, a_irng3, a_cxK, a_irev, a_ienum, a_cat, a_rep, a_pop, a_clear, a_rslL, a_ixL, a_ixT, a_setL, a_app]); (try simp only [a_ipC, a_izip, a_tComp2, a_tryAs, a_drop_nx, a_raise, a_try, a_compIf, a_seq, a_next, a_brk, a_cnt, a_drop, a_ret, a_retN, a_if, a_asg, a_gname, a_gsub, a_gtup, a_gnil, a_gcons, a_aug, a_augS, a_ipI, a_var, a_c, a_op, a_un, a_rI, a_rI0, a_rU, a_eqI, a_neI, a_eqB, a_neB, a_tB, a_test, a_and, a_or, a_not, a_andV, a_orV, a_notV, a_ifE, a_chain, a_nil, a_cons, a_lst, a_tup, a_call, a_cb, a_bm0, a_bm, a_sl, a_nopart, a_part, a_tyI, a_for, a_comp, a_ilist, a_itup, a_irng1, a_irng2, a_irng3, a_cxK, and_assoc, a_irev, a_ienum, a_cat, a_rep, a_pop, a_clear, a_rslL, a_ixL, a_ixT, a_setL, a_app,
    List.getElem?_cons_zero, List.getElem?_cons_succ, List.set_cons_zero, List.set_cons_succ, Option.some.injEq, V.int.injEq, V.bl.injEq, V.ref.injEq, V.ty.injEq, exists_eq_left', exists_eq_left, exists_and_left, decide_eq_true_eq, List.cons_append, List.nil_append, List.append_nil, List.cons.injEq, and_true, true_and, Bool.not_eq_true', decide_eq_false_iff_not, ite_true, ite_false, Bool.false_eq_true, if_true, if_false, List.length_cons, List.length_nil, L2.start, List.map_cons, List.map_nil, List.replicate_succ, List.replicate_zero])
  refine ⟨_, hS, ?_⟩
  obtain ⟨Pv, hPv⟩ : ∃ Pv : Nat → L2.St → Hp → Prop, ∀ i σ H', Pv i σ H' ↔ (∃ r, σ = [some (V.ref a), some (V.int n), some (V.int (val n (xs.drop (xs.length - i)))), r]) ∧ Bd (k + (l + 1) * i) (val n (xs.drop (xs.length - i))) ∧ H' = H := ⟨_, fun _ _ _ => Iff.rfl⟩
  refine lp_rev Pv ((hPv _ _ _).mpr ⟨⟨none, by simp [val]⟩, by simp [val, Bd.zero], rfl⟩) (fun i σ H' _ z => by rw [((hPv i σ H').mp z).2.2]; exact hS) ?_ ?_
  · intro i v σ H' hi hv hp
    obtain ⟨⟨r, rfl⟩, hbd, rfl⟩ := (hPv _ _ _).mp hp
    rw [List.length_map] at hi hv
    rw [List.getElem?_map, List.getElem?_eq_getElem (by omega)] at hv
    obtain rfl : V.int xs[xs.length - 1 - i] = v := Option.some.inj hv
    (try dsimp only [a_ipC, a_izip, a_tComp2, a_tryAs, a_drop_nx, a_raise, a_try, a_compIf, a_seq, a_next, a_brk, a_cnt, a_drop, a_ret, a_retN, a_if, a_asg, a_gname, a_gsub, a_gtup, a_gnil, a_gcons, a_aug, a_augS, a_ipI, a_var, a_c, a_op, a_un, a_rI, a_rI0, a_rU, a_eqI, a_neI, a_eqB, a_neB, a_tB, a_test, a_and, a_or, a_not, a_andV, a_orV, a_notV, a_ifE, a_chain, a_nil, a_cons, a_lst, a_tup, a_call, a_cb, a_bm0, a_bm, a_sl, a_nopart, a_part, a_tyI, a_for, a_comp, a_ilist, a_itup, a_irng1, a_irng2, a_irng3, a_cxK, a_irev, a_ienum, a_cat, a_rep, a_pop, a_clear, a_rslL, a_ixL, a_ixT, a_setL, a_app]); (try simp only [a_ipC, a_izip, a_tComp2, a_tryAs, a_drop_nx, a_raise, a_try, a_compIf, a_seq, a_next, a_brk, a_cnt, a_drop, a_ret, a_retN, a_if, a_asg, a_gname, a_gsub, a_gtup, a_gnil, a_gcons, a_aug, a_augS, a_ipI, a_var, a_c, a_op, a_un, a_rI, a_rI0, a_rU, a_eqI, a_neI, a_eqB, a_neB, a_tB, a_test, a_and, a_or, a_not, a_andV, a_orV, a_notV, a_ifE, a_chain, a_nil, a_cons, a_lst, a_tup, a_call, a_cb, a_bm0, a_bm, a_sl, a_nopart, a_part, a_tyI, a_for, a_comp, a_ilist, a_itup, a_irng1, a_irng2, a_irng3, a_cxK, and_assoc, a_irev, a_ienum, a_cat, a_rep, a_pop, a_clear, a_rslL, a_ixL, a_ixT, a_setL, a_app,
    List.getElem?_cons_zero, List.getElem?_cons_succ, List.set_cons_zero, List.set_cons_succ, Option.some.injEq, V.int.injEq, V.bl.injEq, V.ref.injEq, V.ty.injEq, exists_eq_left', exists_eq_left, exists_and_left, decide_eq_true_eq, List.cons_append, List.nil_append, List.append_nil, List.cons.injEq, and_true, true_and, Bool.not_eq_true', decide_eq_false_iff_not, ite_true, ite_false, Bool.false_eq_true, if_true, if_false, List.length_cons, List.length_nil, L2.start, List.map_cons, List.map_nil, List.replicate_succ, List.replicate_zero])
    have hx : Bd k xs[xs.length - 1 - i] := hk _ (List.getElem_mem _)
    have e : xs.length - (i + 1) = xs.length - 1 - i := by omega
    have i64 : (l + 1) * i ≤ l * 64 + 64 := by have := Nat.mul_le_mul_left (l + 1) (by omega : i ≤ 64); omega
    refine ⟨hbd.fits hb (by omega), (hPv _ _ _).mpr ⟨⟨_, by rw [e, val_drop n xs i hi]⟩, ?_, rfl⟩⟩
    rw [e, val_drop n xs i hi]
    refine ((hbd.mul hb).add (hx.mono (by omega : k ≤ k + (l + 1) * i + l))).mono ?_
    rw [Nat.mul_succ]; omega
  · intro σ H' hp
    obtain ⟨⟨r, rfl⟩, _, rfl⟩ := (hPv _ _ _).mp hp
    (try dsimp only [a_ipC, a_izip, a_tComp2, a_tryAs, a_drop_nx, a_raise, a_try, a_compIf, a_seq, a_next, a_brk, a_cnt, a_drop, a_ret, a_retN, a_if, a_asg, a_gname, a_gsub, a_gtup, a_gnil, a_gcons, a_aug, a_augS, a_ipI, a_var, a_c, a_op, a_un, a_rI, a_rI0, a_rU, a_eqI, a_neI, a_eqB, a_neB, a_tB, a_test, a_and, a_or, a_not, a_andV, a_orV, a_notV, a_ifE, a_chain, a_nil, a_cons, a_lst, a_tup, a_call, a_cb, a_bm0, a_bm, a_sl, a_nopart, a_part, a_tyI, a_for, a_comp, a_ilist, a_itup, a_irng1, a_irng2, a_irng3, a_cxK, a_irev, a_ienum, a_cat, a_rep, a_pop, a_clear, a_rslL, a_ixL, a_ixT, a_setL, a_app]); (try simp only [a_ipC, a_izip, a_tComp2, a_tryAs, a_drop_nx, a_raise, a_try, a_compIf, a_seq, a_next, a_brk, a_cnt, a_drop, a_ret, a_retN, a_if, a_asg, a_gname, a_gsub, a_gtup, a_gnil, a_gcons, a_aug, a_augS, a_ipI, a_var, a_c, a_op, a_un, a_rI, a_rI0, a_rU, a_eqI, a_neI, a_eqB, a_neB, a_tB, a_test, a_and, a_or, a_not, a_andV, a_orV, a_notV, a_ifE, a_chain, a_nil, a_cons, a_lst, a_tup, a_call, a_cb, a_bm0, a_bm, a_sl, a_nopart, a_part, a_tyI, a_for, a_comp, a_ilist, a_itup, a_irng1, a_irng2, a_irng3, a_cxK, and_assoc, a_irev, a_ienum, a_cat, a_rep, a_pop, a_clear, a_rslL, a_ixL, a_ixT, a_setL, a_app,
    List.getElem?_cons_zero, List.getElem?_cons_succ, List.set_cons_zero, List.set_cons_succ, Option.some.injEq, V.int.injEq, V.bl.injEq, V.ref.injEq, V.ty.injEq, exists_eq_left', exists_eq_left, exists_and_left, decide_eq_true_eq, List.cons_append, List.nil_append, List.append_nil, List.cons.injEq, and_true, true_and, Bool.not_eq_true', decide_eq_false_iff_not, ite_true, ite_false, Bool.false_eq_true, if_true, if_false, List.length_cons, List.length_nil, L2.start, List.map_cons, List.map_nil, List.replicate_succ, List.replicate_zero])
    rw [List.length_map, Nat.sub_self, List.drop_zero]
    exact q

/-! #### fractions -/
def mkT (H : Hp) (Q : VK) (x y : Int) : Prop := ∀ p, H p = none → Q (.ref p) (upd H p (.tup [.int x, .int y]))
def spRatio (c : Addr) : Sp := fun vs H Q E => ∃ t b : Int, vs = [.int t, .int b] ∧ Bd 3000 b ∧
  ((b ≠ 0 ∧ ∀ x y : Int, 1 ≤ y → Nat.gcd x.natAbs y.natAbs = 1 → x * b = t * y → x.natAbs ≤ t.natAbs → y.natAbs ≤ b.natAbs → mkT H Q x y) ∨ (b = 0 ∧ E (.ref c) none H))
theorem ok_ratio {P : Program} {w : World} {K : PySem.W.Frag} {mg : Str → Option Value} {base : Heap} (T : Tx K mg) : FnOk P w K mg base (CXE P w) 2 T.a_ratio T.fd_ratio ["top", "bottom"] (spRatio T.c_NoNumber) := by
  refine T.F_ratio.okE sc_ratio (fun vs H Q E h => ?_) (fun cdv A outer s H vs Q E hr h => ?_)
  · obtain ⟨t, b, rfl, _⟩ := h
    rfl
  obtain ⟨t, b, rfl, hb, q⟩ := h
  refine ⟨_, ((pss_cons (ps_if (PT.nox (pt_cmpR op_eq (pv 1) pe_int (nomark _))) (pss_one (ps_raise rfl throwE rfl T.mc_NoNumber T.xc_NoNumber (pa_cons pe_str pa_nil))) pss_nil)
    (pss_cons (PS.nox (ps_set (i := 2) sc_ratio.nd rfl (Or.inl rfl) (pe_call (FnOk.mono (ok_divisor T) (by decide)) hr rfl T.m_divisor T.F_divisor.kp T.b_divisor .nil pass0 (pa_cons (pv 0) (pa_cons (pv 1) pa_nil)))))
    (pss_cons (PS.nox (ps_if (pt_cmpR op_lt (pv 1) pe_int (nomark _)) (pss_one (ps_set (i := 2) sc_ratio.nd rfl (Or.inl rfl) (pe_un un_neg (pv 2)))) pss_nil))
    (pss_one (PS.nox (ps_ret (pe_tup (pa_cons (pe_op op_fdivB (pv 0) (pv 2)) (pa_cons (pe_op op_fdivB (pv 1) (pv 2)) pa_nil)))))))))), ?_⟩
  (try dsimp only [a_ipC, a_izip, a_tComp2, a_tryAs, a_drop_nx, a_raise, a_try, a_compIf, a_seq, a_next, a_brk, a_cnt, a_drop, a_ret, a_retN, a_if, a_asg, a_gname, a_gsub, a_gtup, a_gnil, a_gcons, a_aug, a_augS, a_ipI, a_var, a_c, a_op, a_un, a_rI, a_rI0, a_rU, a_eqI, a_neI, a_eqB, a_neB, a_tB, a_test, a_and, a_or, a_not, a_andV, a_orV, a_notV, a_ifE, a_chain, a_nil, a_cons, a_lst, a_tup, a_call, a_cb, a_bm0, a_bm, a_sl, a_nopart, a_part, a_tyI, a_for, a_comp, a_ilist, a_itup, a_irng1, a_irng2, a_irng3, a_cxK, a_irev, a_ienum, a_cat, a_rep, a_pop, a_clear, a_rslL, a_ixL, a_ixT, a_setL, a_app]); (try simp only [a_ipC, a_izip, a_tComp2, a_tryAs, a_drop_nx, a_raise, a_try, a_compIf, a_seq, a_next, a_brk, a_cnt, a_drop, a_ret, a_retN, a_if, a_asg, a_gname, a_gsub, a_gtup, a_gnil, a_gcons, a_aug, a_augS, a_ipI, a_var, a_c, a_op, a_un, a_rI, a_rI0, a_rU, a_eqI, a_neI, a_eqB, a_neB, a_tB, a_test, a_and, a_or, a_not, a_andV, a_orV, a_notV, a_ifE, a_chain, a_nil, a_cons, a_lst, a_tup, a_call, a_cb, a_bm0, a_bm, a_sl, a_nopart, a_part, a_tyI, a_for, a_comp, a_ilist, a_itup, a_irng1, a_irng2, a_irng3, a_cxK, and_assoc, a_irev, a_ienum, a_cat, a_rep, a_pop, a_clear, a_rslL, a_ixL, a_ixT, a_setL, a_app,
    List.getElem?_cons_zero, List.getElem?_cons_succ, List.set_cons_zero, List.set_cons_succ, Option.some.injEq, V.int.injEq, V.bl.injEq, V.ref.injEq, V.ty.injEq, exists_eq_left', exists_eq_left, exists_and_left, decide_eq_true_eq, List.cons_append, List.nil_append, List.append_nil, List.cons.injEq, and_true, true_and, Bool.not_eq_true', decide_eq_false_iff_not, ite_true, ite_false, Bool.false_eq_true, if_true, if_false, List.length_cons, List.length_nil, L2.start, List.map_cons, List.map_nil, List.replicate_succ, List.replicate_zero])
  refine ite2 (fun h0 => ?_) (fun h0 => ?_)
  · rcases q with ⟨hn, _⟩ | ⟨_, q⟩
    · exact absurd h0 hn
    · exact ⟨by decide, q⟩
  · obtain ⟨hn, q⟩ := q.resolve_right fun z => h0 z.1
    refine ⟨t, b, rfl, Nat.lt_of_lt_of_le hb (Nat.pow_le_pow_right (by decide) (by decide)), ?_⟩
    have small : ∀ s : Int, s.natAbs = Nat.gcd t.natAbs b.natAbs → s.natAbs < 2 ^ 9000 := fun s e => by
      rw [e]
      exact Nat.lt_of_le_of_lt (Nat.gcd_le_right _ (by omega)) (Nat.lt_of_lt_of_le hb (Nat.pow_le_pow_right (by decide) (by decide)))
    have fin : ∀ s : Int, (s = if b < 0 then -((Nat.gcd t.natAbs b.natAbs : Nat) : Int) else ((Nat.gcd t.natAbs b.natAbs : Nat) : Int)) → (s ≠ 0 ∧ s.natAbs < 2 ^ 9000) ∧ (s ≠ 0 ∧ s.natAbs < 2 ^ 9000) ∧ mkT H Q (t.fdiv s) (b.fdiv s) := fun s e => by
      obtain ⟨g1, g2, g3, g4, g5, g6⟩ := gcd_split hn e
      refine ⟨⟨g1, small s g2⟩, ⟨g1, small s g2⟩, q _ _ g5 g6 ?_ (fdiv_le g1 g3) (fdiv_le g1 g4)⟩
      rw [Int.mul_comm, g4, Int.mul_assoc, ← g4]
      generalize b.fdiv s = y at *
      generalize t.fdiv s = x at *
      rw [g3, Int.mul_assoc, Int.mul_comm x y]
    refine ite2 (fun hneg => ?_) (fun hneg => ?_)
    · obtain ⟨f1, f2, f3⟩ := fin _ (by rw [if_pos hneg])
      exact ⟨_, rfl, f1.1, f1.2, f2.1, f2.2, by decide, f3⟩
    · obtain ⟨f1, f2, f3⟩ := fin _ (by rw [if_neg hneg])
      exact ⟨_, rfl, f1.1, f1.2, _, rfl, f2.1, f2.2, by decide, f3⟩

/-! #### list and len within a comprehension -/
theorem call_list_ofK {X : Cx} {K : PySem.W.Frag} (hK : X.K = K) : CallR X (.type "list") (fun xs H Q => ∃ p ys, xs = [.ref p] ∧ (SqL K H p ys ∨ SqT K H p ys) ∧ ∀ l, H l = none → Q (.ref l) (upd H l (.lst ys))) := by subst hK; exact call_list_of
theorem ix_tupK {X : Cx} {K : PySem.W.Frag} (hK : X.K = K) : IxR X (rIxT K) := by subst hK; exact ix_tup
/-! #### lists of lists, rules -/
structure LL (K : PySem.W.Frag) (H : Hp) (as : List Addr) (ps : List (List Int)) : Prop where
  len : as.length = ps.length
  get : ∀ (i : Nat) (a : Addr) (p : List Int), as[i]? = some a → ps[i]? = some p → SqL K H a (p.map V.int)
theorem LL.same {K : PySem.W.Frag} {H H' : Hp} {as : List Addr} {ps : List (List Int)} (h : LL K H as ps) (s : Same H H') : LL K H' as ps := ⟨h.len, fun i a p h1 h2 => s.seq (h.get i a p h1 h2)⟩
theorem LL.nth {K : PySem.W.Frag} {H : Hp} {as : List Addr} {ps : List (List Int)} (h : LL K H as ps) {i : Nat} {v : V} (hv : (as.map V.ref)[i]? = some v) : ∃ a p, v = .ref a ∧ as[i]? = some a ∧ ps[i]? = some p ∧ SqL K H a (p.map V.int) := by
  rw [List.getElem?_map] at hv
  obtain ⟨a, ha, rfl⟩ := Option.map_eq_some_iff.mp hv
  have hi := (List.getElem?_eq_some_iff.mp ha).1
  have hp : i < ps.length := by rw [← h.len]; exact hi
  exact ⟨a, ps[i], rfl, ha, List.getElem?_eq_getElem hp, h.get i a _ ha (List.getElem?_eq_getElem hp)⟩
theorem LL.lastAt {K : PySem.W.Frag} {H : Hp} {as : List Addr} {ps : List (List Int)} (h : LL K H as ps) (hne : ps ≠ []) : ∃ a p, atI (as.map V.ref) (-1) = some (.ref a) ∧ as.getLast? = some a ∧ ps.getLast? = some p ∧ SqL K H a (p.map V.int) := by
  have hl : ps.length ≠ 0 := fun z => hne (List.eq_nil_of_length_eq_zero z)
  have ha : as.length - 1 < as.length := by have := h.len; omega
  have hp : as.length - 1 < ps.length := by have := h.len; omega
  refine ⟨as[as.length - 1], ps[as.length - 1], ?_, ?_, ?_, h.get (as.length - 1) _ _ (List.getElem?_eq_getElem ha) (List.getElem?_eq_getElem hp)⟩
  · have e := ixN_neg (n := (as.map V.ref).length) (i := 1) (by decide) (by rw [List.length_map]; omega)
    have e1 : (-((1 : Nat) : Int)) = -1 := rfl
    rw [e1] at e
    unfold atI
    rw [e]
    show (as.map V.ref)[(as.map V.ref).length - 1]? = _
    rw [List.getElem?_map, List.length_map, List.getElem?_eq_getElem ha]; rfl
  · rw [List.getLast?_eq_getElem?, List.getElem?_eq_getElem ha]
  · rw [List.getLast?_eq_getElem?, ← h.len, List.getElem?_eq_getElem hp]
def dL (p : List Int) : PyData := .list (p.map PyData.int)
theorem dvs_ll {K : PySem.W.Frag} {H : Hp} : ∀ (as : List Addr) (ps : List (List Int)), LL K H as ps → DVs K H (as.map V.ref) (ps.map dL)
  | [], [], _ => .nil
  | a :: as, p :: ps, h => .cons (DV.ints (h.get 0 a p rfl rfl)) (dvs_ll as ps ⟨by have := h.len; simpa using this, fun i b r h1 h2 => h.get (i + 1) b r (by simpa using h1) (by simpa using h2)⟩)
  | [], _ :: _, h => by have := h.len; simp at this
  | _ :: _, [], h => by have := h.len; simp at this
theorem dv_ll {K : PySem.W.Frag} {H : Hp} {R : Addr} {as : List Addr} {ps : List (List Int)} (hR : SqL K H R (as.map V.ref)) (h : LL K H as ps) : DV K H (.ref R) (.list (ps.map dL)) := .lst hR (dvs_ll as ps h)
theorem dep_ll (ps : List (List Int)) : PyData.depth (.list (ps.map dL)) ≤ 64 := by
  have h : ∀ ps : List (List Int), PyData.depthAll (ps.map dL) ≤ 1 := fun ps => by
    induction ps with
    | nil => exact Nat.zero_le _
    | cons p ps ih => simp [PyData.depthAll, PyData.depth, depth_ints, dL]; omega
  have := h ps
  simp [PyData.depth]; omega
theorem eqvAll_ll (ps : List (List Int)) : PyData.eqvAll (ps.map dL) (ps.map dL) = true := by
  induction ps with
  | nil => rfl
  | cons p ps ih => simp [PyData.eqvAll, PyData.eqv, eqvAll_ints, dL, ih]
theorem layAll_ll (ps : List (List Int)) : PyData.canLayAll0 (ps.map dL) = true := by
  induction ps with
  | nil => rfl
  | cons p ps ih => simp [PyData.canLayAll0, PyData.canLay0, lay_ints, dL, ih]
theorem depAll_ll (ps : List (List Int)) : PyData.depthAll (ps.map dL) ≤ 1 := by
  induction ps with
  | nil => exact Nat.zero_le _
  | cons p ps ih => simp [PyData.depthAll, PyData.depth, depth_ints, dL]; omega

/-! #### order_of -/
def IsRule (ps : List (List Int)) : Prop := ps ≠ [] ∧ (∀ p, ps.getLast? = some p → p ≠ []) ∧ ∀ p ∈ ps, Nml p
def spOrder (K : PySem.W.Frag) (c : Addr) : Sp := fun vs H Q E => ∃ (R : Addr) (as : List Addr) (ps : List (List Int)), vs = [.ref R] ∧ SqL K H R (as.map V.ref) ∧ LL K H as ps ∧ ps.length ≤ 1000 ∧
  ((IsRule ps ∧ Q (.int ((ps.length : Int) - 1)) H) ∨ (¬ IsRule ps ∧ E (.ref c) none H))
theorem ok_order_of {P : Program} {w : World} {K : PySem.W.Frag} {mg : Str → Option Value} {base : Heap} (T : Tx K mg) : FnOk P w K mg base (CXE P w) 1 T.a_order_of T.fd_order_of ["rule"] (spOrder K T.c_NoRule) := by
  refine T.F_order_of.okE sc_order_of (fun vs H Q E h => ?_) (fun cdv A outer s H vs Q E hr h => ?_)
  · obtain ⟨R, as, ps, rfl, _⟩ := h
    rfl
  obtain ⟨R, as, ps, rfl, hR, hL, hl, q⟩ := h
  refine ⟨_, ((pss_cons (ps_if (PT.nox (PW.pt (pw_or (pt_cmpR op_eq (pe_callB call_len_seq rfl T.z_len bt_len (pa_cons (pv 0) pa_nil)) pe_int (nomark _)) (pw_or1 (pt_cmpR op_eq (pe_callB call_len_seq rfl T.z_len bt_len (pa_cons (pe_ix ix_list (pv 0) (pe_un un_neg pe_int) (fun _ _ => rfl)) pa_nil)) pe_int (nomark _)))))) (pss_one (ps_raise rfl throwE rfl T.mc_NoRule T.xc_NoRule (pa_cons pe_str pa_nil))) pss_nil)
    (pss_cons (ps_for PassesOwn.leaving rfl (pi_list (pv 0)) (pg_name (i := 1) sc_order_of.nd rfl (Or.inl rfl)) (pss_one (ps_if (PT.nox (PW.pt (pw_and (pt_cmpR op_gt (pe_callB call_len_seq rfl T.z_len bt_len (pa_cons (pv 1) pa_nil)) pe_int (nomark _)) (pw_and1 (pt_cmpR op_eq (pe_ix ix_list (pv 1) (pe_un un_neg pe_int) (fun _ _ => rfl)) pe_int (nomark _)))))) (pss_one (ps_raise rfl throwE rfl T.mc_NoRule T.xc_NoRule (pa_cons pe_str pa_nil))) pss_nil)))
    (pss_one (PS.nox (ps_ret (pe_op op_sub (pe_callB call_len_seq rfl T.z_len bt_len (pa_cons (pv 0) pa_nil)) pe_int))))))), ?_⟩
  (try dsimp only [a_ipC, a_izip, a_tComp2, a_tryAs, a_drop_nx, a_raise, a_try, a_compIf, a_seq, a_next, a_brk, a_cnt, a_drop, a_ret, a_retN, a_if, a_asg, a_gname, a_gsub, a_gtup, a_gnil, a_gcons, a_aug, a_augS, a_ipI, a_var, a_c, a_op, a_un, a_rI, a_rI0, a_rU, a_eqI, a_neI, a_eqB, a_neB, a_tB, a_test, a_and, a_or, a_not, a_andV, a_orV, a_notV, a_ifE, a_chain, a_nil, a_cons, a_lst, a_tup, a_call, a_cb, a_bm0, a_bm, a_sl, a_nopart, a_part, a_tyI, a_for, a_comp, a_ilist, a_itup, a_irng1, a_irng2, a_irng3, a_cxK, a_irev, a_ienum, a_cat, a_rep, a_pop, a_clear, a_rslL, a_ixL, a_ixT, a_setL, a_app]); (try simp only [a_ipC, a_izip, a_tComp2, a_tryAs, a_drop_nx, a_raise, a_try, a_compIf, a_seq, a_next, a_brk, a_cnt, a_drop, a_ret, a_retN, a_if, a_asg, a_gname, a_gsub, a_gtup, a_gnil, a_gcons, a_aug, a_augS, a_ipI, a_var, a_c, a_op, a_un, a_rI, a_rI0, a_rU, a_eqI, a_neI, a_eqB, a_neB, a_tB, a_test, a_and, a_or, a_not, a_andV, a_orV, a_notV, a_ifE, a_chain, a_nil, a_cons, a_lst, a_tup, a_call, a_cb, a_bm0, a_bm, a_sl, a_nopart, a_part, a_tyI, a_for, a_comp, a_ilist, a_itup, a_irng1, a_irng2, a_irng3, a_cxK, and_assoc, a_irev, a_ienum, a_cat, a_rep, a_pop, a_clear, a_rslL, a_ixL, a_ixT, a_setL, a_app,
    List.getElem?_cons_zero, List.getElem?_cons_succ, List.set_cons_zero, List.set_cons_succ, Option.some.injEq, V.int.injEq, V.bl.injEq, V.ref.injEq, V.ty.injEq, exists_eq_left', exists_eq_left, exists_and_left, decide_eq_true_eq, List.cons_append, List.nil_append, List.append_nil, List.cons.injEq, and_true, true_and, Bool.not_eq_true', decide_eq_false_iff_not, ite_true, ite_false, Bool.false_eq_true, if_true, if_false, List.length_cons, List.length_nil, L2.start, List.map_cons, List.map_nil, List.replicate_succ, List.replicate_zero])
  refine ⟨_, .inl hR, ?_⟩
  rw [List.length_map]
  have ql : ¬ IsRule ps → E (.ref T.c_NoRule) none H := fun h => (q.resolve_left fun z => h z.1).2
  refine ite2 (fun h => ?_) (fun h => ?_)
  · exact ⟨by decide, ql fun z => z.1 (List.eq_nil_of_length_eq_zero (by rw [← hL.len]; omega))⟩
  have hne : ps ≠ [] := by intro z; have := hL.len; rw [z] at this; simp at this; rw [this] at h; simp at h
  obtain ⟨a, p, e1, e2, e3, hp⟩ := hL.lastAt hne
  refine ⟨_, hR, _, e1, ?_⟩
  (try dsimp only [a_ipC, a_izip, a_tComp2, a_tryAs, a_drop_nx, a_raise, a_try, a_compIf, a_seq, a_next, a_brk, a_cnt, a_drop, a_ret, a_retN, a_if, a_asg, a_gname, a_gsub, a_gtup, a_gnil, a_gcons, a_aug, a_augS, a_ipI, a_var, a_c, a_op, a_un, a_rI, a_rI0, a_rU, a_eqI, a_neI, a_eqB, a_neB, a_tB, a_test, a_and, a_or, a_not, a_andV, a_orV, a_notV, a_ifE, a_chain, a_nil, a_cons, a_lst, a_tup, a_call, a_cb, a_bm0, a_bm, a_sl, a_nopart, a_part, a_tyI, a_for, a_comp, a_ilist, a_itup, a_irng1, a_irng2, a_irng3, a_cxK, a_irev, a_ienum, a_cat, a_rep, a_pop, a_clear, a_rslL, a_ixL, a_ixT, a_setL, a_app]); (try simp only [a_ipC, a_izip, a_tComp2, a_tryAs, a_drop_nx, a_raise, a_try, a_compIf, a_seq, a_next, a_brk, a_cnt, a_drop, a_ret, a_retN, a_if, a_asg, a_gname, a_gsub, a_gtup, a_gnil, a_gcons, a_aug, a_augS, a_ipI, a_var, a_c, a_op, a_un, a_rI, a_rI0, a_rU, a_eqI, a_neI, a_eqB, a_neB, a_tB, a_test, a_and, a_or, a_not, a_andV, a_orV, a_notV, a_ifE, a_chain, a_nil, a_cons, a_lst, a_tup, a_call, a_cb, a_bm0, a_bm, a_sl, a_nopart, a_part, a_tyI, a_for, a_comp, a_ilist, a_itup, a_irng1, a_irng2, a_irng3, a_cxK, and_assoc, a_irev, a_ienum, a_cat, a_rep, a_pop, a_clear, a_rslL, a_ixL, a_ixT, a_setL, a_app,
    List.getElem?_cons_zero, List.getElem?_cons_succ, List.set_cons_zero, List.set_cons_succ, Option.some.injEq, V.int.injEq, V.bl.injEq, V.ref.injEq, V.ty.injEq, exists_eq_left', exists_eq_left, exists_and_left, decide_eq_true_eq, List.cons_append, List.nil_append, List.append_nil, List.cons.injEq, and_true, true_and, Bool.not_eq_true', decide_eq_false_iff_not, ite_true, ite_false, Bool.false_eq_true, if_true, if_false, List.length_cons, List.length_nil, L2.start, List.map_cons, List.map_nil, List.replicate_succ, List.replicate_zero])
  refine ⟨_, .inl hp, ?_⟩
  rw [List.length_map]
  refine ite2 (fun h2 => ⟨by decide, ql fun z => z.2.1 p e3 (List.eq_nil_of_length_eq_zero (by omega))⟩) (fun h2 => ⟨⟨_, hR⟩, ?_⟩)
  have hp0 : p ≠ [] := by intro z; rw [z] at h2; simp at h2
  obtain ⟨Pv, hPv⟩ : ∃ Pv : Nat → L2.St → Hp → Prop, ∀ i σ H', Pv i σ H' ↔ ∃ r : Option V, σ = [some (V.ref R), r] ∧ H' = H ∧ ∀ x ∈ ps.take i, Nml x := ⟨_, fun _ _ _ => Iff.rfl⟩
  refine lp_list (xs := as.map V.ref) Pv ((hPv _ _ _).mpr ⟨_, rfl, rfl, by simp⟩) (fun i σ H' _ z => by obtain ⟨_, _, rfl, _⟩ := (hPv i σ H').mp z; exact hR) ?_ ?_
  · intro i v σ H' hv hp'
    obtain ⟨r, rfl, rfl, hn⟩ := (hPv _ _ _).mp hp'
    obtain ⟨a', p', rfl, ha, hp2, hA⟩ := hL.nth hv
    have nxt : Nml p' → Pv (i + 1) [some (V.ref R), some (V.ref a')] H' := fun h => (hPv _ _ _).mpr ⟨_, rfl, rfl, fun x hx => by
      rw [List.take_succ, hp2] at hx
      rcases List.mem_append.mp hx with z | z
      · exact hn x z
      · rw [show x = p' by simpa using z]; exact h⟩
    (try dsimp only [a_ipC, a_izip, a_tComp2, a_tryAs, a_drop_nx, a_raise, a_try, a_compIf, a_seq, a_next, a_brk, a_cnt, a_drop, a_ret, a_retN, a_if, a_asg, a_gname, a_gsub, a_gtup, a_gnil, a_gcons, a_aug, a_augS, a_ipI, a_var, a_c, a_op, a_un, a_rI, a_rI0, a_rU, a_eqI, a_neI, a_eqB, a_neB, a_tB, a_test, a_and, a_or, a_not, a_andV, a_orV, a_notV, a_ifE, a_chain, a_nil, a_cons, a_lst, a_tup, a_call, a_cb, a_bm0, a_bm, a_sl, a_nopart, a_part, a_tyI, a_for, a_comp, a_ilist, a_itup, a_irng1, a_irng2, a_irng3, a_cxK, a_irev, a_ienum, a_cat, a_rep, a_pop, a_clear, a_rslL, a_ixL, a_ixT, a_setL, a_app]); (try simp only [a_ipC, a_izip, a_tComp2, a_tryAs, a_drop_nx, a_raise, a_try, a_compIf, a_seq, a_next, a_brk, a_cnt, a_drop, a_ret, a_retN, a_if, a_asg, a_gname, a_gsub, a_gtup, a_gnil, a_gcons, a_aug, a_augS, a_ipI, a_var, a_c, a_op, a_un, a_rI, a_rI0, a_rU, a_eqI, a_neI, a_eqB, a_neB, a_tB, a_test, a_and, a_or, a_not, a_andV, a_orV, a_notV, a_ifE, a_chain, a_nil, a_cons, a_lst, a_tup, a_call, a_cb, a_bm0, a_bm, a_sl, a_nopart, a_part, a_tyI, a_for, a_comp, a_ilist, a_itup, a_irng1, a_irng2, a_irng3, a_cxK, and_assoc, a_irev, a_ienum, a_cat, a_rep, a_pop, a_clear, a_rslL, a_ixL, a_ixT, a_setL, a_app,
    List.getElem?_cons_zero, List.getElem?_cons_succ, List.set_cons_zero, List.set_cons_succ, Option.some.injEq, V.int.injEq, V.bl.injEq, V.ref.injEq, V.ty.injEq, exists_eq_left', exists_eq_left, exists_and_left, decide_eq_true_eq, List.cons_append, List.nil_append, List.append_nil, List.cons.injEq, and_true, true_and, Bool.not_eq_true', decide_eq_false_iff_not, ite_true, ite_false, Bool.false_eq_true, if_true, if_false, List.length_cons, List.length_nil, L2.start, List.map_cons, List.map_nil, List.replicate_succ, List.replicate_zero])
    refine ⟨_, .inl hA, ?_⟩
    rw [List.length_map]
    refine ite2 (fun h3 => ?_) (fun h3 => nxt (by rw [List.eq_nil_of_length_eq_zero (show p'.length = 0 by omega)]; exact nml_nil))
    have hne' : p' ≠ [] := by intro z; rw [z] at h3; simp at h3
    refine ⟨_, hA, _, at_last hne', ?_⟩
    (try dsimp only [a_ipC, a_izip, a_tComp2, a_tryAs, a_drop_nx, a_raise, a_try, a_compIf, a_seq, a_next, a_brk, a_cnt, a_drop, a_ret, a_retN, a_if, a_asg, a_gname, a_gsub, a_gtup, a_gnil, a_gcons, a_aug, a_augS, a_ipI, a_var, a_c, a_op, a_un, a_rI, a_rI0, a_rU, a_eqI, a_neI, a_eqB, a_neB, a_tB, a_test, a_and, a_or, a_not, a_andV, a_orV, a_notV, a_ifE, a_chain, a_nil, a_cons, a_lst, a_tup, a_call, a_cb, a_bm0, a_bm, a_sl, a_nopart, a_part, a_tyI, a_for, a_comp, a_ilist, a_itup, a_irng1, a_irng2, a_irng3, a_cxK, a_irev, a_ienum, a_cat, a_rep, a_pop, a_clear, a_rslL, a_ixL, a_ixT, a_setL, a_app]); (try simp only [a_ipC, a_izip, a_tComp2, a_tryAs, a_drop_nx, a_raise, a_try, a_compIf, a_seq, a_next, a_brk, a_cnt, a_drop, a_ret, a_retN, a_if, a_asg, a_gname, a_gsub, a_gtup, a_gnil, a_gcons, a_aug, a_augS, a_ipI, a_var, a_c, a_op, a_un, a_rI, a_rI0, a_rU, a_eqI, a_neI, a_eqB, a_neB, a_tB, a_test, a_and, a_or, a_not, a_andV, a_orV, a_notV, a_ifE, a_chain, a_nil, a_cons, a_lst, a_tup, a_call, a_cb, a_bm0, a_bm, a_sl, a_nopart, a_part, a_tyI, a_for, a_comp, a_ilist, a_itup, a_irng1, a_irng2, a_irng3, a_cxK, and_assoc, a_irev, a_ienum, a_cat, a_rep, a_pop, a_clear, a_rslL, a_ixL, a_ixT, a_setL, a_app,
    List.getElem?_cons_zero, List.getElem?_cons_succ, List.set_cons_zero, List.set_cons_succ, Option.some.injEq, V.int.injEq, V.bl.injEq, V.ref.injEq, V.ty.injEq, exists_eq_left', exists_eq_left, exists_and_left, decide_eq_true_eq, List.cons_append, List.nil_append, List.append_nil, List.cons.injEq, and_true, true_and, Bool.not_eq_true', decide_eq_false_iff_not, ite_true, ite_false, Bool.false_eq_true, if_true, if_false, List.length_cons, List.length_nil, L2.start, List.map_cons, List.map_nil, List.replicate_succ, List.replicate_zero])
    refine ite2 (fun h0 => ⟨by decide, ql fun z => nml_last.mp (z.2.2 p' (List.mem_of_getElem? hp2)) _ (List.getLast?_eq_some_getLast hne') h0⟩) (fun h0 => nxt (nml_last.mpr fun x hx => ?_))
    rw [List.getLast?_eq_some_getLast hne'] at hx
    rw [← Option.some.inj hx]; exact h0
  · intro σ H' hp'
    obtain ⟨r, rfl, rfl, hn⟩ := (hPv _ _ _).mp hp'
    rw [List.length_map, hL.len, List.take_length] at hn
    (try dsimp only [a_ipC, a_izip, a_tComp2, a_tryAs, a_drop_nx, a_raise, a_try, a_compIf, a_seq, a_next, a_brk, a_cnt, a_drop, a_ret, a_retN, a_if, a_asg, a_gname, a_gsub, a_gtup, a_gnil, a_gcons, a_aug, a_augS, a_ipI, a_var, a_c, a_op, a_un, a_rI, a_rI0, a_rU, a_eqI, a_neI, a_eqB, a_neB, a_tB, a_test, a_and, a_or, a_not, a_andV, a_orV, a_notV, a_ifE, a_chain, a_nil, a_cons, a_lst, a_tup, a_call, a_cb, a_bm0, a_bm, a_sl, a_nopart, a_part, a_tyI, a_for, a_comp, a_ilist, a_itup, a_irng1, a_irng2, a_irng3, a_cxK, a_irev, a_ienum, a_cat, a_rep, a_pop, a_clear, a_rslL, a_ixL, a_ixT, a_setL, a_app]); (try simp only [a_ipC, a_izip, a_tComp2, a_tryAs, a_drop_nx, a_raise, a_try, a_compIf, a_seq, a_next, a_brk, a_cnt, a_drop, a_ret, a_retN, a_if, a_asg, a_gname, a_gsub, a_gtup, a_gnil, a_gcons, a_aug, a_augS, a_ipI, a_var, a_c, a_op, a_un, a_rI, a_rI0, a_rU, a_eqI, a_neI, a_eqB, a_neB, a_tB, a_test, a_and, a_or, a_not, a_andV, a_orV, a_notV, a_ifE, a_chain, a_nil, a_cons, a_lst, a_tup, a_call, a_cb, a_bm0, a_bm, a_sl, a_nopart, a_part, a_tyI, a_for, a_comp, a_ilist, a_itup, a_irng1, a_irng2, a_irng3, a_cxK, and_assoc, a_irev, a_ienum, a_cat, a_rep, a_pop, a_clear, a_rslL, a_ixL, a_ixT, a_setL, a_app,
    List.getElem?_cons_zero, List.getElem?_cons_succ, List.set_cons_zero, List.set_cons_succ, Option.some.injEq, V.int.injEq, V.bl.injEq, V.ref.injEq, V.ty.injEq, exists_eq_left', exists_eq_left, exists_and_left, decide_eq_true_eq, List.cons_append, List.nil_append, List.append_nil, List.cons.injEq, and_true, true_and, Bool.not_eq_true', decide_eq_false_iff_not, ite_true, ite_false, Bool.false_eq_true, if_true, if_false, List.length_cons, List.length_nil, L2.start, List.map_cons, List.map_nil, List.replicate_succ, List.replicate_zero])
    refine ⟨_, .inl hR, ?_⟩
    rw [List.length_map, hL.len]
    exact (q.resolve_right fun z => z.1 ⟨hne, fun p2 e => by rw [e3] at e; cases e; exact hp0, hn⟩).2

theorem val_bd {k l : Nat} {n : Int} (hn : Bd l n) : ∀ xs : List Int, (∀ x ∈ xs, Bd k x) → Bd (k + (l + 1) * xs.length) (val n xs)
  | [], _ => Bd.zero _
  | x :: xs, h => by
    have i := val_bd hn xs fun y hy => h y (by simp [hy])
    have e : val n (x :: xs) = x + n * val n xs := rfl
    rw [e, List.length_cons, Nat.mul_succ]
    exact (((h x (by simp)).mono (l := l + (k + (l + 1) * xs.length)) (by omega)).add (hn.mul i)).mono (by omega)

/-! #### split -/
/-! #### fractions on the heap -/
structure TL (K : PySem.W.Frag) (H : Hp) (as : List Addr) (fs : List (Int × Int)) : Prop where
  len : as.length = fs.length
  get : ∀ (i : Nat) (a : Addr) (f : Int × Int), as[i]? = some a → fs[i]? = some f → SqT K H a [.int f.1, .int f.2]
theorem TL.same {K : PySem.W.Frag} {H H' : Hp} {as : List Addr} {fs : List (Int × Int)} (h : TL K H as fs) (s : Same H H') : TL K H' as fs := ⟨h.len, fun i a f h1 h2 => s.seqT (h.get i a f h1 h2)⟩
theorem TL.nth {K : PySem.W.Frag} {H : Hp} {as : List Addr} {fs : List (Int × Int)} (h : TL K H as fs) {i : Nat} {v : V} (hv : (as.map V.ref)[i]? = some v) : ∃ a f, v = .ref a ∧ as[i]? = some a ∧ fs[i]? = some f ∧ SqT K H a [.int f.1, .int f.2] := by
  rw [List.getElem?_map] at hv
  obtain ⟨a, ha, rfl⟩ := Option.map_eq_some_iff.mp hv
  have hi := (List.getElem?_eq_some_iff.mp ha).1
  have hp : i < fs.length := by rw [← h.len]; exact hi
  exact ⟨a, fs[i], rfl, ha, List.getElem?_eq_getElem hp, h.get i a _ ha (List.getElem?_eq_getElem hp)⟩
def Frc (f : Int × Int) : Prop := 1 ≤ f.2 ∧ Nat.gcd f.1.natAbs f.2.natAbs = 1
theorem wtd {v x y : Int} (hy : 1 ≤ y) (hg : Nat.gcd x.natAbs y.natAbs = 1) : ∃ g : Int, ((Nat.gcd v.natAbs y.natAbs : Nat) : Int) = g ∧ g ≠ 0 ∧ ∃ v' y' : Int, v.fdiv g = v' ∧ y.fdiv g = y' ∧ v = g * v' ∧ y = g * y' ∧ 1 ≤ y' ∧ Nat.gcd (v' * x).natAbs y'.natAbs = 1 := by
  have gp : 0 < Nat.gcd v.natAbs y.natAbs := Nat.gcd_pos_of_pos_right _ (by omega)
  refine ⟨_, rfl, by omega, ?_⟩
  obtain ⟨v', hv⟩ : ((Nat.gcd v.natAbs y.natAbs : Nat) : Int) ∣ v := Int.dvd_natAbs.mp (Int.natCast_dvd_natCast.mpr (Nat.gcd_dvd_left _ _))
  obtain ⟨y', hy'⟩ : ((Nat.gcd v.natAbs y.natAbs : Nat) : Int) ∣ y := Int.dvd_natAbs.mp (Int.natCast_dvd_natCast.mpr (Nat.gcd_dvd_right _ _))
  have ed : ∀ (g a b : Int), g ≠ 0 → a = g * b → a.fdiv g = b := fun g a b h e => by rw [e]; exact Int.mul_fdiv_cancel_left b h
  have e1 := ed _ _ _ (show ((Nat.gcd v.natAbs y.natAbs : Nat) : Int) ≠ 0 by omega) hv
  have e2 := ed _ _ _ (show ((Nat.gcd v.natAbs y.natAbs : Nat) : Int) ≠ 0 by omega) hy'
  have y1 : 1 ≤ y' := by
    rcases Decidable.em (1 ≤ y') with q | q
    · exact q
    · have : ((Nat.gcd v.natAbs y.natAbs : Nat) : Int) * y' ≤ 0 := Int.mul_nonpos_of_nonneg_of_nonpos (by omega) (by omega)
      omega
  have nv : v.natAbs = Nat.gcd v.natAbs y.natAbs * v'.natAbs := by conv => lhs; rw [hv, Int.natAbs_mul, Int.natAbs_natCast]
  have ny : y.natAbs = Nat.gcd v.natAbs y.natAbs * y'.natAbs := by conv => lhs; rw [hy', Int.natAbs_mul, Int.natAbs_natCast]
  have c1 : Nat.gcd v'.natAbs y'.natAbs = 1 := by
    have : Nat.gcd v.natAbs y.natAbs * Nat.gcd v'.natAbs y'.natAbs = Nat.gcd v.natAbs y.natAbs * 1 := by
      rw [← Nat.gcd_mul_left, ← nv, ← ny, Nat.mul_one]
    exact Nat.eq_of_mul_eq_mul_left gp this
  have c2 : Nat.gcd x.natAbs y'.natAbs = 1 := by
    have h : Nat.gcd x.natAbs y'.natAbs ∣ Nat.gcd x.natAbs y.natAbs := Nat.dvd_gcd (Nat.gcd_dvd_left _ _) (Nat.dvd_trans (Nat.gcd_dvd_right _ _) ⟨_, by rw [ny, Nat.mul_comm]⟩)
    rw [hg] at h
    exact Nat.dvd_one.mp h
  refine ⟨v', y', e1, e2, hv, hy', y1, ?_⟩
  rw [Int.natAbs_mul]
  exact Nat.Coprime.mul_left c1 c2
def spWtd (K : PySem.W.Frag) : Sp := fun vs H Q _ => ∃ (p : Addr) (v x y : Int), vs = [.int v, .ref p] ∧ SqT K H p [.int x, .int y] ∧ Frc (x, y) ∧ Bd 3000 v ∧ Bd 3000 x ∧ Bd 3000 y ∧
  ∀ a b : Int, Frc (a, b) → a * y = v * x * b → b ∣ y → a.natAbs ≤ (v * x).natAbs → b.natAbs ≤ y.natAbs → mkT H Q a b
theorem ok_weighted {P : Program} {w : World} {K : PySem.W.Frag} {mg : Str → Option Value} {base : Heap} (T : Tx K mg) : FnOk P w K mg base CX0 2 T.a_weighted T.fd_weighted ["weight", "fraction"] (spWtd K) := by
  refine T.F_weighted.ok sc_weighted (fun vs H Q E h => ?_) (fun cdv A outer s H vs Q E hr h => ?_)
  · obtain ⟨p, v, x, y, rfl, _⟩ := h
    rfl
  obtain ⟨p, v, x, y, rfl, hP, hF, bv, bx, bY, q⟩ := h
  have y1 : 1 ≤ y := hF.1
  have hg : Nat.gcd x.natAbs y.natAbs = 1 := hF.2
  refine ⟨_, ((pss_cons (ps_set (i := 2) sc_weighted.nd rfl (Or.inl rfl) (pe_call (FnOk.mono (ok_divisor T) (by decide)) hr rfl T.m_divisor T.F_divisor.kp T.b_divisor .nil pass0 (pa_cons (pv 0) (pa_cons (pe_ix ix_tup (pv 1) pe_int (fun _ _ => rfl)) pa_nil))))
    (pss_one (ps_ret (pe_tup (pa_cons (pe_op op_mulZ (pe_op op_fdivB (pv 0) (pv 2)) (pe_ix ix_tup (pv 1) pe_int (fun _ _ => rfl))) (pa_cons (pe_op op_fdivB (pe_ix ix_tup (pv 1) pe_int (fun _ _ => rfl)) (pv 2)) pa_nil))))))), ?_⟩
  (try dsimp only [a_ipC, a_izip, a_tComp2, a_tryAs, a_drop_nx, a_raise, a_try, a_compIf, a_seq, a_next, a_brk, a_cnt, a_drop, a_ret, a_retN, a_if, a_asg, a_gname, a_gsub, a_gtup, a_gnil, a_gcons, a_aug, a_augS, a_ipI, a_var, a_c, a_op, a_un, a_rI, a_rI0, a_rU, a_eqI, a_neI, a_eqB, a_neB, a_tB, a_test, a_and, a_or, a_not, a_andV, a_orV, a_notV, a_ifE, a_chain, a_nil, a_cons, a_lst, a_tup, a_call, a_cb, a_bm0, a_bm, a_sl, a_nopart, a_part, a_tyI, a_for, a_comp, a_ilist, a_itup, a_irng1, a_irng2, a_irng3, a_cxK, a_irev, a_ienum, a_cat, a_rep, a_pop, a_clear, a_rslL, a_ixL, a_ixT, a_setL, a_app]); (try simp only [a_ipC, a_izip, a_tComp2, a_tryAs, a_drop_nx, a_raise, a_try, a_compIf, a_seq, a_next, a_brk, a_cnt, a_drop, a_ret, a_retN, a_if, a_asg, a_gname, a_gsub, a_gtup, a_gnil, a_gcons, a_aug, a_augS, a_ipI, a_var, a_c, a_op, a_un, a_rI, a_rI0, a_rU, a_eqI, a_neI, a_eqB, a_neB, a_tB, a_test, a_and, a_or, a_not, a_andV, a_orV, a_notV, a_ifE, a_chain, a_nil, a_cons, a_lst, a_tup, a_call, a_cb, a_bm0, a_bm, a_sl, a_nopart, a_part, a_tyI, a_for, a_comp, a_ilist, a_itup, a_irng1, a_irng2, a_irng3, a_cxK, and_assoc, a_irev, a_ienum, a_cat, a_rep, a_pop, a_clear, a_rslL, a_ixL, a_ixT, a_setL, a_app,
    List.getElem?_cons_zero, List.getElem?_cons_succ, List.set_cons_zero, List.set_cons_succ, Option.some.injEq, V.int.injEq, V.bl.injEq, V.ref.injEq, V.ty.injEq, exists_eq_left', exists_eq_left, exists_and_left, decide_eq_true_eq, List.cons_append, List.nil_append, List.append_nil, List.cons.injEq, and_true, true_and, Bool.not_eq_true', decide_eq_false_iff_not, ite_true, ite_false, Bool.false_eq_true, if_true, if_false, List.length_cons, List.length_nil, L2.start, List.map_cons, List.map_nil, List.replicate_succ, List.replicate_zero])
  obtain ⟨g, hgg, g0, v', y', e1, e2, hv, hy, y1', c⟩ := wtd (v := v) y1 hg
  have gs : g.natAbs ≤ y.natAbs := by rw [hy, Int.natAbs_mul]; exact Nat.le_mul_of_pos_right _ (by omega)
  have bY' : y.natAbs < 2 ^ 3000 := bY
  have p1 : (2 : Nat) ^ 3000 ≤ 2 ^ 4000 := Nat.pow_le_pow_right (by decide) (by decide)
  have p2 : (2 : Nat) ^ 3000 ≤ 2 ^ 9000 := Nat.pow_le_pow_right (by decide) (by decide)
  have bv' : v'.natAbs ≤ v.natAbs := by rw [hv, Int.natAbs_mul]; exact Nat.le_mul_of_pos_left _ (Int.natAbs_pos.mpr g0)
  have bV : Bd 3000 v' := Nat.lt_of_le_of_lt bv' bv
  refine ⟨_, hP, _, rfl, v, y, rfl, by omega, ?_⟩
  rw [hgg]
  refine ⟨g, rfl, g0, by omega, _, hP, _, rfl, x, rfl, ?_⟩
  rw [e1]
  refine ⟨bV.fits bx (by decide), _, hP, _, rfl, y, rfl, ?_⟩
  refine ⟨g, rfl, g0, by omega, by decide, ?_⟩
  rw [e2]
  refine q (v' * x) y' ⟨y1', c⟩ (by rw [hv]; conv => lhs; rw [hy]
                                    grind) ⟨g, by rw [Int.mul_comm]; exact hy⟩ ?_ ?_
  · rw [Int.natAbs_mul, Int.natAbs_mul]; exact Nat.mul_le_mul_right _ bv'
  · rw [hy, Int.natAbs_mul]; exact Nat.le_mul_of_pos_left _ (Int.natAbs_pos.mpr g0)
/-! #### total -/
def Sm (M : Int) : List (Int × Int) → Int
  | [] => 0
  | f :: fs => f.1 * M.fdiv f.2 + Sm M fs
theorem fdiv_mul_of {M b k : Int} (hb : 1 ≤ b) (h : b ∣ M) : (M * k).fdiv b = k * M.fdiv b := by
  obtain ⟨c, rfl⟩ := h
  rw [Int.mul_fdiv_cancel_left c (by omega), Int.mul_assoc, Int.mul_fdiv_cancel_left (c * k) (by omega), Int.mul_comm]
theorem Sm_scale {M k : Int} : ∀ {fs : List (Int × Int)}, (∀ f ∈ fs, 1 ≤ f.2 ∧ f.2 ∣ M) → Sm (M * k) fs = k * Sm M fs
  | [], _ => by simp [Sm]
  | f :: fs, h => by
    have ih := Sm_scale (k := k) (fs := fs) fun g hg => h g (by simp [hg])
    simp only [Sm]
    rw [ih, fdiv_mul_of (h f (by simp)).1 (h f (by simp)).2]; grind
theorem Sm_two {M M' : Int} {fs : List (Int × Int)} (h : ∀ f ∈ fs, 1 ≤ f.2 ∧ f.2 ∣ M) (h' : ∀ f ∈ fs, 1 ≤ f.2 ∧ f.2 ∣ M') : Sm M fs * M' = Sm M' fs * M := by
  have a := Sm_scale (k := M') h
  have b := Sm_scale (k := M) h'
  rw [Int.mul_comm M' M] at b
  rw [a] at b
  rw [Int.mul_comm, b, Int.mul_comm]
theorem Sm_live (M : Int) : ∀ fs : List (Int × Int), Sm M (fs.filter fun f => f.1 != 0) = Sm M fs
  | [] => rfl
  | f :: fs => by
    have ih := Sm_live M fs
    by_cases z : f.1 = 0
    · rw [List.filter_cons_of_neg (by simp [z])]
      simp only [Sm]; rw [ih, z]; simp
    · rw [List.filter_cons_of_pos (by simp [z])]
      simp only [Sm]; rw [ih]
theorem Sm_snoc (M : Int) : ∀ (fs : List (Int × Int)) (f : Int × Int), Sm M (fs ++ [f]) = Sm M fs + f.1 * M.fdiv f.2
  | [], f => by simp [Sm]
  | g :: fs, f => by
    have ih := Sm_snoc M fs f
    rw [List.cons_append]
    simp only [Sm]; rw [ih]; omega
theorem Sm_map (M : Int) : ∀ fs : List (Int × Int), (fs.map fun f => f.1 * M.fdiv f.2).sum = Sm M fs
  | [] => rfl
  | f :: fs => by rw [List.map_cons, List.sum_cons, Sm_map M fs]; rfl
theorem tot_of {x y M0 : Int} {fs : List (Int × Int)} (hM : 1 ≤ M0) (h0 : ∀ f ∈ fs, 1 ≤ f.2 ∧ f.2 ∣ M0) (e : x * M0 = y * Sm M0 fs) : ∀ M, (∀ f ∈ fs, f.2 ∣ M) → x * M = y * Sm M fs := fun M h => by
  have t := Sm_two h0 (fun f hf => ⟨(h0 f hf).1, h f hf⟩)
  have e2 : M0 * (x * M) = M0 * (y * Sm M fs) := by
    have : x * M0 * M = y * (Sm M0 fs * M) := by rw [e, Int.mul_assoc]
    rw [t] at this
    grind
  exact Int.eq_of_mul_eq_mul_left (by omega) e2
theorem lcm_step {b f : Int} (hb : 1 ≤ b) (hf : 1 ≤ f) : ∃ g : Int, ((Nat.gcd b.natAbs f.natAbs : Nat) : Int) = g ∧ g ≠ 0 ∧ g.natAbs ≤ f.natAbs ∧ 1 ≤ b * f.fdiv g ∧ b ∣ b * f.fdiv g ∧ f ∣ b * f.fdiv g ∧ (f.fdiv g).natAbs ≤ f.natAbs := by
  have gp : 0 < Nat.gcd b.natAbs f.natAbs := Nat.gcd_pos_of_pos_right _ (by omega)
  obtain ⟨b', hb'⟩ : ((Nat.gcd b.natAbs f.natAbs : Nat) : Int) ∣ b := Int.dvd_natAbs.mp (Int.natCast_dvd_natCast.mpr (Nat.gcd_dvd_left _ _))
  obtain ⟨f', hf'⟩ : ((Nat.gcd b.natAbs f.natAbs : Nat) : Int) ∣ f := Int.dvd_natAbs.mp (Int.natCast_dvd_natCast.mpr (Nat.gcd_dvd_right _ _))
  have gf : Nat.gcd b.natAbs f.natAbs ≤ f.natAbs := Nat.gcd_le_right _ (by omega)
  refine ⟨_, rfl, by omega, by rw [Int.natAbs_natCast]; exact gf, ?_⟩
  have ed : ∀ (g a b : Int), g ≠ 0 → a = g * b → a.fdiv g = b := fun g a b h e => by rw [e]; exact Int.mul_fdiv_cancel_left b h
  rw [ed _ _ _ (show ((Nat.gcd b.natAbs f.natAbs : Nat) : Int) ≠ 0 by omega) hf']
  have f1 : 1 ≤ f' := by
    rcases Decidable.em (1 ≤ f') with q | q
    · exact q
    · have : ((Nat.gcd b.natAbs f.natAbs : Nat) : Int) * f' ≤ 0 := Int.mul_nonpos_of_nonneg_of_nonpos (by omega) (by omega)
      omega
  refine ⟨?_, Int.dvd_mul_right _ _, ⟨b', ?_⟩, ?_⟩
  · have := Int.mul_le_mul hb f1 (by omega) (by omega); omega
  · generalize ((Nat.gcd b.natAbs f.natAbs : Nat) : Int) = g at hb' hf'
    rw [hb']; conv => rhs; rw [hf']
    grind
  · have : f.natAbs = Nat.gcd b.natAbs f.natAbs * f'.natAbs := by conv => lhs; rw [hf', Int.natAbs_mul, Int.natAbs_natCast]
    rw [this]; exact Nat.le_mul_of_pos_left _ gp
theorem SqT.upd {K : PySem.W.Frag} {H : Hp} {a D : Addr} {xs ys zs : List V} (h : SqT K H a xs) (hD : H D = some (.lst ys)) : SqT K (L2.upd H D (.lst zs)) a xs := by
  rcases h with (h | ⟨o, h⟩) | h
  · exact .inl (.inl (by rw [upd_ne (fun z => by rw [z, hD] at h; cases h)]; exact h))
  · exact .inl (.inr ⟨o, by rw [upd_ne (fun z => by rw [z, hD] at h; cases h)]; exact h⟩)
  · exact .inr h
theorem TL.upd {K : PySem.W.Frag} {H : Hp} {as : List Addr} {fs : List (Int × Int)} {D : Addr} {ys zs : List V} (h : TL K H as fs) (hD : H D = some (.lst ys)) : TL K (L2.upd H D (.lst zs)) as fs := ⟨h.len, fun i a f h1 h2 => SqT.upd (h.get i a f h1 h2) hD⟩
theorem TL.nil (K : PySem.W.Frag) (H : Hp) : TL K H [] [] := ⟨rfl, fun i a f h1 _ => by simp at h1⟩
theorem TL.snoc {K : PySem.W.Frag} {H : Hp} {as : List Addr} {fs : List (Int × Int)} {a : Addr} {f : Int × Int} (h : TL K H as fs) (e : SqT K H a [.int f.1, .int f.2]) : TL K H (as ++ [a]) (fs ++ [f]) := by
  refine ⟨by simp [h.len], fun i b r h1 h2 => ?_⟩
  by_cases z : i < as.length
  · rw [List.getElem?_append_left z] at h1
    rw [List.getElem?_append_left (by rw [← h.len]; exact z)] at h2
    exact h.get i b r h1 h2
  · rw [List.getElem?_append_right (by omega)] at h1
    rw [List.getElem?_append_right (by rw [← h.len]; omega), ← h.len] at h2
    have z2 : i - as.length = 0 := by
      rcases Nat.eq_zero_or_pos (i - as.length) with y | y
      · exact y
      · rw [List.getElem?_eq_none (by simp; omega)] at h1; cases h1
    rw [z2] at h1 h2
    simp at h1 h2
    rw [← h1, ← h2]; exact e
def spTot (K : PySem.W.Frag) : Sp := fun vs H Q _ => ∃ (p : Addr) (as : List Addr) (fs : List (Int × Int)), vs = [.ref p] ∧ SqL K H p (as.map V.ref) ∧ TL K H as fs ∧ fs.length ≤ 6 ∧ (∀ f ∈ fs, Frc f ∧ Bd 100000 f.1 ∧ Bd 400 f.2) ∧
  ∀ x y : Int, Frc (x, y) → (∀ M, (∀ f ∈ fs, f.2 ∣ M) → x * M = y * Sm M fs) → ∀ r H', Same H H' → SqT K H' r [.int x, .int y] → Q (.ref r) H'
theorem ok_total {P : Program} {w : World} {K : PySem.W.Frag} {mg : Str → Option Value} {base : Heap} (T : Tx K mg) : FnOk P w K mg base CX0 3 T.a_total T.fd_total ["fractions"] (spTot K) := by
  refine T.F_total.ok sc_total (fun vs H Q E h => ?_) (fun cdv A outer s H vs Q E hr h => ?_)
  · obtain ⟨p, as, fs, rfl, _⟩ := h
    rfl
  obtain ⟨p, as, fs, rfl, hP, hL, l6, hF, q⟩ := h
  refine ⟨_, ((pss_cons (ps_setCIf (i := 1) rfl (blkok rfl sub_nil fv_nil) (pi_list (pv 0)) (fun _ _ _ _ => (pt_cmpR op_ne (pe_ix (ix_tupK (K := K) rfl) (pv 0) pe_int (fun _ _ => rfl)) pe_int (nomark _))) (fun _ _ _ _ => (pv 0)) sc_total.nd rfl rfl)
    (pss_cons (ps_if (pt_cmpR op_eq (pe_callB call_len_seq rfl T.z_len bt_len (pa_cons (pv 1) pa_nil)) pe_int (nomark _)) (pss_one (ps_ret (pe_ix ix_list (pv 1) pe_int (fun _ _ => rfl)))) pss_nil)
    (pss_cons (ps_set (i := 2) sc_total.nd rfl (Or.inr rfl) pe_int)
    (pss_cons (ps_for PassesOwn.never rfl (pi_list (pv 1)) (pg_name (i := 3) sc_total.nd rfl (Or.inl rfl)) (pss_one (ps_aug (i := 2) sc_total.nd rfl (Or.inr rfl) (pe_op op_fdivB (pe_ix ix_tup (pv 3) pe_int (fun _ _ => rfl)) (pe_call (FnOk.mono (ok_divisor T) (by decide)) hr rfl T.m_divisor T.F_divisor.kp T.b_divisor .nil pass0 (pa_cons (pv 2) (pa_cons (pe_ix ix_tup (pv 3) pe_int (fun _ _ => rfl)) pa_nil)))) ip_mulZ)))
    (pss_one (ps_ret (pe_call (FnOk.mono (ok_ratio T) (by decide)) hr rfl T.m_ratio T.F_ratio.kp T.b_ratio .nil passF (pa_cons (pe_callB (call_sumL rfl) rfl T.z_sum boot_sum (pa_cons (pe_lcomp rfl (blkok rfl (sub_cons rfl sub_nil) (fv_cons 2 "bottom" (by decide) rfl (Or.inl rfl) (Or.inl rfl) ⟨_, rfl⟩ fv_nil)) (pi_list (pv 1)) (fun _ _ _ _ => (pe_op op_mulZ (pe_ix (ix_tupK (K := K) rfl) (pv 0) pe_int (fun _ _ => rfl)) (pe_op op_fdivB (pv 1) (pe_ix (ix_tupK (K := K) rfl) (pv 0) pe_int (fun _ _ => rfl)))))) pa_nil)) (pa_cons (pv 2) pa_nil)))))))))), ?_⟩
  (try dsimp only [a_ipC, a_izip, a_tComp2, a_tryAs, a_drop_nx, a_raise, a_try, a_compIf, a_seq, a_next, a_brk, a_cnt, a_drop, a_ret, a_retN, a_if, a_asg, a_gname, a_gsub, a_gtup, a_gnil, a_gcons, a_aug, a_augS, a_ipI, a_var, a_c, a_op, a_un, a_rI, a_rI0, a_rU, a_eqI, a_neI, a_eqB, a_neB, a_tB, a_test, a_and, a_or, a_not, a_andV, a_orV, a_notV, a_ifE, a_chain, a_nil, a_cons, a_lst, a_tup, a_call, a_cb, a_bm0, a_bm, a_sl, a_nopart, a_part, a_tyI, a_for, a_comp, a_ilist, a_itup, a_irng1, a_irng2, a_irng3, a_cxK, a_irev, a_ienum, a_cat, a_rep, a_pop, a_clear, a_rslL, a_ixL, a_ixT, a_setL, a_app]); (try simp only [a_ipC, a_izip, a_tComp2, a_tryAs, a_drop_nx, a_raise, a_try, a_compIf, a_seq, a_next, a_brk, a_cnt, a_drop, a_ret, a_retN, a_if, a_asg, a_gname, a_gsub, a_gtup, a_gnil, a_gcons, a_aug, a_augS, a_ipI, a_var, a_c, a_op, a_un, a_rI, a_rI0, a_rU, a_eqI, a_neI, a_eqB, a_neB, a_tB, a_test, a_and, a_or, a_not, a_andV, a_orV, a_notV, a_ifE, a_chain, a_nil, a_cons, a_lst, a_tup, a_call, a_cb, a_bm0, a_bm, a_sl, a_nopart, a_part, a_tyI, a_for, a_comp, a_ilist, a_itup, a_irng1, a_irng2, a_irng3, a_cxK, and_assoc, a_irev, a_ienum, a_cat, a_rep, a_pop, a_clear, a_rslL, a_ixL, a_ixT, a_setL, a_app,
    List.getElem?_cons_zero, List.getElem?_cons_succ, List.set_cons_zero, List.set_cons_succ, Option.some.injEq, V.int.injEq, V.bl.injEq, V.ref.injEq, V.ty.injEq, exists_eq_left', exists_eq_left, exists_and_left, decide_eq_true_eq, List.cons_append, List.nil_append, List.append_nil, List.cons.injEq, and_true, true_and, Bool.not_eq_true', decide_eq_false_iff_not, ite_true, ite_false, Bool.false_eq_true, if_true, if_false, List.length_cons, List.length_nil, L2.start, List.map_cons, List.map_nil, List.replicate_succ, List.replicate_zero])
  refine ⟨⟨_, hP⟩, fun D nD => ?_⟩
  obtain ⟨Pc, hPc⟩ : ∃ Pc : Nat → Hp → Prop, ∀ j Hx, Pc j Hx ↔ ∃ bs : List Addr, Hx D = some (.lst (bs.map V.ref)) ∧ TL K Hx bs ((fs.take j).filter fun f => f.1 != 0) ∧ Same H Hx := ⟨_, fun _ _ => Iff.rfl⟩
  refine cl_listIf (xs := as.map V.ref) Pc ((hPc _ _).mpr ⟨[], upd_same, TL.nil _ _, same_upd nD _⟩) (fun i Hx _ z => by obtain ⟨_, _, _, z⟩ := (hPc i Hx).mp z; exact z.seq hP) ?_ ?_
  · intro j v Hx hv hc
    obtain ⟨bs, k1, k2, k4⟩ := (hPc _ _).mp hc
    obtain ⟨a', f, rfl, ha, hf, hA⟩ := hL.nth hv
    have lb : bs.length ≤ 6 := by rw [k2.len]; exact Nat.le_trans (List.length_filter_le _ _) (Nat.le_trans (List.length_take_le' _ _) l6)
    (try dsimp only [a_ipC, a_izip, a_tComp2, a_tryAs, a_drop_nx, a_raise, a_try, a_compIf, a_seq, a_next, a_brk, a_cnt, a_drop, a_ret, a_retN, a_if, a_asg, a_gname, a_gsub, a_gtup, a_gnil, a_gcons, a_aug, a_augS, a_ipI, a_var, a_c, a_op, a_un, a_rI, a_rI0, a_rU, a_eqI, a_neI, a_eqB, a_neB, a_tB, a_test, a_and, a_or, a_not, a_andV, a_orV, a_notV, a_ifE, a_chain, a_nil, a_cons, a_lst, a_tup, a_call, a_cb, a_bm0, a_bm, a_sl, a_nopart, a_part, a_tyI, a_for, a_comp, a_ilist, a_itup, a_irng1, a_irng2, a_irng3, a_cxK, a_irev, a_ienum, a_cat, a_rep, a_pop, a_clear, a_rslL, a_ixL, a_ixT, a_setL, a_app]); (try simp only [a_ipC, a_izip, a_tComp2, a_tryAs, a_drop_nx, a_raise, a_try, a_compIf, a_seq, a_next, a_brk, a_cnt, a_drop, a_ret, a_retN, a_if, a_asg, a_gname, a_gsub, a_gtup, a_gnil, a_gcons, a_aug, a_augS, a_ipI, a_var, a_c, a_op, a_un, a_rI, a_rI0, a_rU, a_eqI, a_neI, a_eqB, a_neB, a_tB, a_test, a_and, a_or, a_not, a_andV, a_orV, a_notV, a_ifE, a_chain, a_nil, a_cons, a_lst, a_tup, a_call, a_cb, a_bm0, a_bm, a_sl, a_nopart, a_part, a_tyI, a_for, a_comp, a_ilist, a_itup, a_irng1, a_irng2, a_irng3, a_cxK, and_assoc, a_irev, a_ienum, a_cat, a_rep, a_pop, a_clear, a_rslL, a_ixL, a_ixT, a_setL, a_app,
    List.getElem?_cons_zero, List.getElem?_cons_succ, List.set_cons_zero, List.set_cons_succ, Option.some.injEq, V.int.injEq, V.bl.injEq, V.ref.injEq, V.ty.injEq, exists_eq_left', exists_eq_left, exists_and_left, decide_eq_true_eq, List.cons_append, List.nil_append, List.append_nil, List.cons.injEq, and_true, true_and, Bool.not_eq_true', decide_eq_false_iff_not, ite_true, ite_false, Bool.false_eq_true, if_true, if_false, List.length_cons, List.length_nil, L2.start, List.map_cons, List.map_nil, List.replicate_succ, List.replicate_zero, bst])
    refine ⟨_, k4.seqT hA, _, rfl, ?_⟩
    (try dsimp only [a_ipC, a_izip, a_tComp2, a_tryAs, a_drop_nx, a_raise, a_try, a_compIf, a_seq, a_next, a_brk, a_cnt, a_drop, a_ret, a_retN, a_if, a_asg, a_gname, a_gsub, a_gtup, a_gnil, a_gcons, a_aug, a_augS, a_ipI, a_var, a_c, a_op, a_un, a_rI, a_rI0, a_rU, a_eqI, a_neI, a_eqB, a_neB, a_tB, a_test, a_and, a_or, a_not, a_andV, a_orV, a_notV, a_ifE, a_chain, a_nil, a_cons, a_lst, a_tup, a_call, a_cb, a_bm0, a_bm, a_sl, a_nopart, a_part, a_tyI, a_for, a_comp, a_ilist, a_itup, a_irng1, a_irng2, a_irng3, a_cxK, a_irev, a_ienum, a_cat, a_rep, a_pop, a_clear, a_rslL, a_ixL, a_ixT, a_setL, a_app]); (try simp only [a_ipC, a_izip, a_tComp2, a_tryAs, a_drop_nx, a_raise, a_try, a_compIf, a_seq, a_next, a_brk, a_cnt, a_drop, a_ret, a_retN, a_if, a_asg, a_gname, a_gsub, a_gtup, a_gnil, a_gcons, a_aug, a_augS, a_ipI, a_var, a_c, a_op, a_un, a_rI, a_rI0, a_rU, a_eqI, a_neI, a_eqB, a_neB, a_tB, a_test, a_and, a_or, a_not, a_andV, a_orV, a_notV, a_ifE, a_chain, a_nil, a_cons, a_lst, a_tup, a_call, a_cb, a_bm0, a_bm, a_sl, a_nopart, a_part, a_tyI, a_for, a_comp, a_ilist, a_itup, a_irng1, a_irng2, a_irng3, a_cxK, and_assoc, a_irev, a_ienum, a_cat, a_rep, a_pop, a_clear, a_rslL, a_ixL, a_ixT, a_setL, a_app,
    List.getElem?_cons_zero, List.getElem?_cons_succ, List.set_cons_zero, List.set_cons_succ, Option.some.injEq, V.int.injEq, V.bl.injEq, V.ref.injEq, V.ty.injEq, exists_eq_left', exists_eq_left, exists_and_left, decide_eq_true_eq, List.cons_append, List.nil_append, List.append_nil, List.cons.injEq, and_true, true_and, Bool.not_eq_true', decide_eq_false_iff_not, ite_true, ite_false, Bool.false_eq_true, if_true, if_false, List.length_cons, List.length_nil, L2.start, List.map_cons, List.map_nil, List.replicate_succ, List.replicate_zero])
    have et : fs.take (j + 1) = fs.take j ++ [f] := by rw [List.take_succ, hf]; rfl
    refine ite2 (fun h => ⟨_, k1, by rw [List.length_map]; exact small1000 (by omega), (hPc _ _).mpr ⟨bs ++ [a'], by rw [upd_same]; simp, ?_, k4.more nD⟩⟩) (fun h => (hPc _ _).mpr ⟨bs, k1, ?_, k4⟩)
    · rw [et, List.filter_append, List.filter_cons_of_pos (by simpa using h)]
      exact TL.upd (TL.snoc k2 (k4.seqT hA)) k1
    · rw [et, List.filter_append, List.filter_cons_of_neg (by simpa using h)]
      simpa using k2
  intro G1 hc
  obtain ⟨bs, eD, lv, s1⟩ := (hPc _ _).mp hc
  rw [List.length_map, hL.len, List.take_length] at lv
  have hlv : ∀ f ∈ fs.filter (fun f => f.1 != 0), Frc f ∧ Bd 100000 f.1 ∧ Bd 400 f.2 := fun f hf => hF f ((List.mem_filter.mp hf).1)
  have ll : (fs.filter fun f => f.1 != 0).length ≤ 6 := Nat.le_trans (List.length_filter_le _ _) l6
  have sl : ∀ M, Sm M (fs.filter fun f => f.1 != 0) = Sm M fs := fun M => Sm_live M fs
  have dl : ∀ M, (∀ f ∈ fs, f.2 ∣ M) → ∀ f ∈ fs.filter (fun f => f.1 != 0), f.2 ∣ M := fun M h f hf => h f ((List.mem_filter.mp hf).1)
  generalize (fs.filter fun f => f.1 != 0) = gs at lv hlv ll sl dl
  refine ⟨D, rfl, _, .inl (SqL.of eD), ?_⟩
  rw [List.length_map, lv.len]
  refine ite2 (fun h => ?_) (fun h => ?_)
  · obtain ⟨f, rfl⟩ := List.length_eq_one_iff.mp (show gs.length = 1 by omega)
    obtain ⟨b, rfl⟩ := List.length_eq_one_iff.mp (show bs.length = 1 by rw [lv.len]; rfl)
    have hf := hlv f (by simp)
    refine ⟨D, rfl, _, SqL.of eD, _, rfl, q f.1 f.2 hf.1 (fun M hM => ?_) b _ s1 (lv.get 0 b f rfl rfl)⟩
    rw [← sl M]
    simp only [Sm]
    obtain ⟨c, rfl⟩ := dl M hM f (by simp)
    rw [Int.mul_fdiv_cancel_left c (by have := hf.1.1; omega)]; grind
  refine ⟨D, rfl, ⟨_, SqL.of eD⟩, ?_⟩
  obtain ⟨Pv, hPv⟩ : ∃ Pv : Nat → L2.St → Hp → Prop, ∀ i σ Hx, Pv i σ Hx ↔ ∃ (bo : Int) (r3 : Option V), σ = [some (V.ref p), some (V.ref D), some (V.int bo), r3] ∧ Hx = G1 ∧ 1 ≤ bo ∧ (∀ f ∈ gs.take i, f.2 ∣ bo) ∧ Bd (400 * i + 1) bo := ⟨_, fun _ _ _ => Iff.rfl⟩
  refine lp_list (xs := bs.map V.ref) Pv ((hPv _ _ _).mpr ⟨1, _, rfl, rfl, by decide, by simp, Bd.one (by decide)⟩) (fun i σ Hx _ z => by obtain ⟨_, _, _, rfl, _⟩ := (hPv i σ Hx).mp z; exact SqL.of eD) ?_ ?_
  · intro i v σ Hx hv hp
    obtain ⟨bo, r3, rfl, rfl, b1, hd, bb⟩ := (hPv _ _ _).mp hp
    obtain ⟨a', f, rfl, ha, hf, hA⟩ := lv.nth hv
    have hi := (List.getElem?_eq_some_iff.mp hf).1
    have ff := hlv f (List.mem_of_getElem? hf)
    obtain ⟨g, hg, g0, gl, c1, c2, c3, c4⟩ := lcm_step b1 ff.1.1
    have b4 : f.2.natAbs < 2 ^ 400 := ff.2.2
    have p1 : (2 : Nat) ^ 400 ≤ 2 ^ 4000 := Nat.pow_le_pow_right (by decide) (by decide)
    have p2 : (2 : Nat) ^ 400 ≤ 2 ^ 9000 := Nat.pow_le_pow_right (by decide) (by decide)
    have bq : Bd 400 (f.2.fdiv g) := Nat.lt_of_le_of_lt c4 ff.2.2
    (try dsimp only [a_ipC, a_izip, a_tComp2, a_tryAs, a_drop_nx, a_raise, a_try, a_compIf, a_seq, a_next, a_brk, a_cnt, a_drop, a_ret, a_retN, a_if, a_asg, a_gname, a_gsub, a_gtup, a_gnil, a_gcons, a_aug, a_augS, a_ipI, a_var, a_c, a_op, a_un, a_rI, a_rI0, a_rU, a_eqI, a_neI, a_eqB, a_neB, a_tB, a_test, a_and, a_or, a_not, a_andV, a_orV, a_notV, a_ifE, a_chain, a_nil, a_cons, a_lst, a_tup, a_call, a_cb, a_bm0, a_bm, a_sl, a_nopart, a_part, a_tyI, a_for, a_comp, a_ilist, a_itup, a_irng1, a_irng2, a_irng3, a_cxK, a_irev, a_ienum, a_cat, a_rep, a_pop, a_clear, a_rslL, a_ixL, a_ixT, a_setL, a_app]); (try simp only [a_ipC, a_izip, a_tComp2, a_tryAs, a_drop_nx, a_raise, a_try, a_compIf, a_seq, a_next, a_brk, a_cnt, a_drop, a_ret, a_retN, a_if, a_asg, a_gname, a_gsub, a_gtup, a_gnil, a_gcons, a_aug, a_augS, a_ipI, a_var, a_c, a_op, a_un, a_rI, a_rI0, a_rU, a_eqI, a_neI, a_eqB, a_neB, a_tB, a_test, a_and, a_or, a_not, a_andV, a_orV, a_notV, a_ifE, a_chain, a_nil, a_cons, a_lst, a_tup, a_call, a_cb, a_bm0, a_bm, a_sl, a_nopart, a_part, a_tyI, a_for, a_comp, a_ilist, a_itup, a_irng1, a_irng2, a_irng3, a_cxK, and_assoc, a_irev, a_ienum, a_cat, a_rep, a_pop, a_clear, a_rslL, a_ixL, a_ixT, a_setL, a_app,
    List.getElem?_cons_zero, List.getElem?_cons_succ, List.set_cons_zero, List.set_cons_succ, Option.some.injEq, V.int.injEq, V.bl.injEq, V.ref.injEq, V.ty.injEq, exists_eq_left', exists_eq_left, exists_and_left, decide_eq_true_eq, List.cons_append, List.nil_append, List.append_nil, List.cons.injEq, and_true, true_and, Bool.not_eq_true', decide_eq_false_iff_not, ite_true, ite_false, Bool.false_eq_true, if_true, if_false, List.length_cons, List.length_nil, L2.start, List.map_cons, List.map_nil, List.replicate_succ, List.replicate_zero])
    refine ⟨_, hA, _, rfl, _, hA, _, rfl, bo, f.2, rfl, by omega, ?_⟩
    rw [hg]
    refine ⟨_, rfl, g, rfl, g0, by omega, bb.fits bq (by omega), (hPv _ _ _).mpr ⟨_, _, rfl, rfl, c1, fun f' hf' => ?_, (bb.mul bq).mono (by omega)⟩⟩
    rw [List.take_succ, hf] at hf'
    rcases List.mem_append.mp hf' with z | z
    · exact Int.dvd_trans (hd f' z) c2
    · rw [show f' = f by simpa using z]; exact c3
  · intro σ Hx hp
    obtain ⟨bo, r3, rfl, rfl, b1, hd, bb⟩ := (hPv _ _ _).mp hp
    rw [List.length_map, lv.len, List.take_length] at hd
    (try dsimp only [a_ipC, a_izip, a_tComp2, a_tryAs, a_drop_nx, a_raise, a_try, a_compIf, a_seq, a_next, a_brk, a_cnt, a_drop, a_ret, a_retN, a_if, a_asg, a_gname, a_gsub, a_gtup, a_gnil, a_gcons, a_aug, a_augS, a_ipI, a_var, a_c, a_op, a_un, a_rI, a_rI0, a_rU, a_eqI, a_neI, a_eqB, a_neB, a_tB, a_test, a_and, a_or, a_not, a_andV, a_orV, a_notV, a_ifE, a_chain, a_nil, a_cons, a_lst, a_tup, a_call, a_cb, a_bm0, a_bm, a_sl, a_nopart, a_part, a_tyI, a_for, a_comp, a_ilist, a_itup, a_irng1, a_irng2, a_irng3, a_cxK, a_irev, a_ienum, a_cat, a_rep, a_pop, a_clear, a_rslL, a_ixL, a_ixT, a_setL, a_app]); (try simp only [a_ipC, a_izip, a_tComp2, a_tryAs, a_drop_nx, a_raise, a_try, a_compIf, a_seq, a_next, a_brk, a_cnt, a_drop, a_ret, a_retN, a_if, a_asg, a_gname, a_gsub, a_gtup, a_gnil, a_gcons, a_aug, a_augS, a_ipI, a_var, a_c, a_op, a_un, a_rI, a_rI0, a_rU, a_eqI, a_neI, a_eqB, a_neB, a_tB, a_test, a_and, a_or, a_not, a_andV, a_orV, a_notV, a_ifE, a_chain, a_nil, a_cons, a_lst, a_tup, a_call, a_cb, a_bm0, a_bm, a_sl, a_nopart, a_part, a_tyI, a_for, a_comp, a_ilist, a_itup, a_irng1, a_irng2, a_irng3, a_cxK, and_assoc, a_irev, a_ienum, a_cat, a_rep, a_pop, a_clear, a_rslL, a_ixL, a_ixT, a_setL, a_app,
    List.getElem?_cons_zero, List.getElem?_cons_succ, List.set_cons_zero, List.set_cons_succ, Option.some.injEq, V.int.injEq, V.bl.injEq, V.ref.injEq, V.ty.injEq, exists_eq_left', exists_eq_left, exists_and_left, decide_eq_true_eq, List.cons_append, List.nil_append, List.append_nil, List.cons.injEq, and_true, true_and, Bool.not_eq_true', decide_eq_false_iff_not, ite_true, ite_false, Bool.false_eq_true, if_true, if_false, List.length_cons, List.length_nil, L2.start, List.map_cons, List.map_nil, List.replicate_succ, List.replicate_zero])
    refine ⟨⟨_, SqL.of eD⟩, fun D2 nD2 => ?_⟩
    obtain ⟨Pd, hPd⟩ : ∃ Pd : Nat → Hp → Prop, ∀ j Hz, Pd j Hz ↔ Hz D2 = some (.lst (((gs.take j).map fun f => f.1 * bo.fdiv f.2).map V.int)) ∧ Same Hx Hz := ⟨_, fun _ _ => Iff.rfl⟩
    refine cl_list (xs := bs.map V.ref) Pd ((hPd _ _).mpr ⟨by rw [upd_same]; rfl, same_upd nD2 _⟩) (fun i Hz _ z => SqL.of (((hPd i Hz).mp z).2 _ _ eD)) ?_ ?_
    · intro j v Hz hv hc
      obtain ⟨k1, k2⟩ := (hPd _ _).mp hc
      obtain ⟨a', f, rfl, ha, hf, hA⟩ := lv.nth hv
      have hj := (List.getElem?_eq_some_iff.mp hf).1
      have ff := hlv f (List.mem_of_getElem? hf)
      have b4 : f.2.natAbs < 2 ^ 400 := ff.2.2
      have p2 : (2 : Nat) ^ 400 ≤ 2 ^ 9000 := Nat.pow_le_pow_right (by decide) (by decide)
      have f1 := ff.1.1
      have bq : Bd 2500 (bo.fdiv f.2) := by
        obtain ⟨c, hc⟩ := hd f (List.mem_of_getElem? hf)
        rw [hc, Int.mul_fdiv_cancel_left c (by omega)]
        have : c.natAbs ≤ bo.natAbs := by rw [hc, Int.natAbs_mul]; exact Nat.le_mul_of_pos_left _ (by omega)
        exact (show Bd (400 * gs.length + 1) c from Nat.lt_of_le_of_lt this (by rw [← lv.len, ← List.length_map (f := V.ref)]; exact bb)).mono (by omega)
      (try dsimp only [a_ipC, a_izip, a_tComp2, a_tryAs, a_drop_nx, a_raise, a_try, a_compIf, a_seq, a_next, a_brk, a_cnt, a_drop, a_ret, a_retN, a_if, a_asg, a_gname, a_gsub, a_gtup, a_gnil, a_gcons, a_aug, a_augS, a_ipI, a_var, a_c, a_op, a_un, a_rI, a_rI0, a_rU, a_eqI, a_neI, a_eqB, a_neB, a_tB, a_test, a_and, a_or, a_not, a_andV, a_orV, a_notV, a_ifE, a_chain, a_nil, a_cons, a_lst, a_tup, a_call, a_cb, a_bm0, a_bm, a_sl, a_nopart, a_part, a_tyI, a_for, a_comp, a_ilist, a_itup, a_irng1, a_irng2, a_irng3, a_cxK, a_irev, a_ienum, a_cat, a_rep, a_pop, a_clear, a_rslL, a_ixL, a_ixT, a_setL, a_app]); (try simp only [a_ipC, a_izip, a_tComp2, a_tryAs, a_drop_nx, a_raise, a_try, a_compIf, a_seq, a_next, a_brk, a_cnt, a_drop, a_ret, a_retN, a_if, a_asg, a_gname, a_gsub, a_gtup, a_gnil, a_gcons, a_aug, a_augS, a_ipI, a_var, a_c, a_op, a_un, a_rI, a_rI0, a_rU, a_eqI, a_neI, a_eqB, a_neB, a_tB, a_test, a_and, a_or, a_not, a_andV, a_orV, a_notV, a_ifE, a_chain, a_nil, a_cons, a_lst, a_tup, a_call, a_cb, a_bm0, a_bm, a_sl, a_nopart, a_part, a_tyI, a_for, a_comp, a_ilist, a_itup, a_irng1, a_irng2, a_irng3, a_cxK, and_assoc, a_irev, a_ienum, a_cat, a_rep, a_pop, a_clear, a_rslL, a_ixL, a_ixT, a_setL, a_app,
    List.getElem?_cons_zero, List.getElem?_cons_succ, List.set_cons_zero, List.set_cons_succ, Option.some.injEq, V.int.injEq, V.bl.injEq, V.ref.injEq, V.ty.injEq, exists_eq_left', exists_eq_left, exists_and_left, decide_eq_true_eq, List.cons_append, List.nil_append, List.append_nil, List.cons.injEq, and_true, true_and, Bool.not_eq_true', decide_eq_false_iff_not, ite_true, ite_false, Bool.false_eq_true, if_true, if_false, List.length_cons, List.length_nil, L2.start, List.map_cons, List.map_nil, List.replicate_succ, List.replicate_zero, bst, Option.getD_some])
      refine ⟨_, k2.seqT hA, _, rfl, _, k2.seqT hA, _, rfl, f.2, rfl, by omega, by omega, f.1, rfl, ff.2.1.fits bq (by decide), _, k1, by rw [List.length_map, List.length_map, List.length_take]; exact small1000 (by omega), (hPd _ _).mpr ⟨?_, k2.more nD2⟩⟩
      rw [upd_same, List.take_succ, hf]; simp
    intro H3 hc
    obtain ⟨k1, k2⟩ := (hPd _ _).mp hc
    rw [List.length_map, lv.len, List.take_length] at k1
    refine ⟨D2, rfl, _, SqL.of k1, ?_⟩
    rw [Sm_map]
    rw [List.length_map, lv.len] at bb
    refine ⟨_, _, rfl, bb.mono (by omega), .inl ⟨by omega, fun x y y1 cg e _ _ r nr => ?_⟩⟩
    refine q x y ⟨y1, cg⟩ (fun M hM => ?_) r _ (s1.trans (k2.trans (same_upd nr _))) (SqT.of upd_same)
    rw [← sl M]
    exact tot_of b1 (fun f hf => ⟨(hlv f hf).1.1, hd f hf⟩) (by rw [e, Int.mul_comm]) M (dl M hM)
/-! #### rule_sum -/
def Wm (M : Int) : List (Int × (Int × Int)) → Int
  | [] => 0
  | g :: gs => g.1 * g.2.1 * M.fdiv g.2.2 + Wm M gs
theorem wm_one {a b v x y M : Int} (hb : 1 ≤ b) (hy : 1 ≤ y) (e : a * y = v * x * b) (d : b ∣ y) (m : y ∣ M) : a * M.fdiv b = v * x * M.fdiv y := by
  obtain ⟨c, rfl⟩ := m
  obtain ⟨d', rfl⟩ := d
  have e1 : b * d' * c = b * (d' * c) := Int.mul_assoc _ _ _
  rw [Int.mul_fdiv_cancel_left c (by omega), e1, Int.mul_fdiv_cancel_left (d' * c) (by omega)]
  have e2 : b * (a * d') = b * (v * x) := by grind
  have e3 := Int.eq_of_mul_eq_mul_left (show b ≠ 0 by omega) e2
  rw [← Int.mul_assoc, e3]
theorem cut_some (bs : List Addr) (n k : Nat) (h : n ≤ bs.length) : cutV (bs.map V.ref) (some (n : Int)) (some ((n : Int) + (k : Int))) = ((bs.drop n).take k).map V.ref := by
  unfold cutV
  rw [show (n : Int) + (k : Int) = ((n + k : Nat) : Int) by omega, HT.sIx_nat, HT.sIx_nat, List.length_map, Nat.min_eq_left h, ← List.map_drop, ← List.map_take]
  congr 1
  by_cases z : n + k ≤ bs.length
  · rw [Nat.min_eq_left z, Nat.add_sub_cancel_left]
  · rw [Nat.min_eq_right (by omega), List.take_of_length_le (by rw [List.length_drop]; omega), List.take_of_length_le (by rw [List.length_drop]; omega)]
theorem TL.part {K : PySem.W.Frag} {H : Hp} {as : List Addr} {fs : List (Int × Int)} (h : TL K H as fs) (n k : Nat) : TL K H ((as.drop n).take k) ((fs.drop n).take k) := by
  refine ⟨by simp [h.len], fun i a f h1 h2 => ?_⟩
  have hi : i < k := by
    have := (List.getElem?_eq_some_iff.mp h1).1
    rw [List.length_take] at this; omega
  rw [List.getElem?_take_of_lt hi, List.getElem?_drop] at h1 h2
  exact h.get (n + i) a f h1 h2
theorem Wm_snoc (M : Int) : ∀ (gs : List (Int × (Int × Int))) (g : Int × (Int × Int)), Wm M (gs ++ [g]) = Wm M gs + g.1 * g.2.1 * M.fdiv g.2.2
  | [], g => by simp [Wm]
  | h :: gs, g => by
    have ih := Wm_snoc M gs g
    rw [List.cons_append]
    simp only [Wm]; rw [ih]; omega
def spRSum (K : PySem.W.Frag) : Sp := fun vs H Q _ => ∃ (R Vp : Addr) (as bs : List Addr) (ps : List (List Int)) (fs : List (Int × Int)) (n : Nat), vs = [.ref R, .ref Vp, .int n] ∧ SqL K H R (as.map V.ref) ∧ LL K H as ps ∧ SqL K H Vp (bs.map V.ref) ∧ TL K H bs fs ∧ ps.length ≤ 6 ∧ n ≤ fs.length ∧ n ≤ 500 ∧ (∀ p ∈ ps, p.length ≤ 64 ∧ ∀ x ∈ p, Bd 1300 x) ∧ (∀ f ∈ fs, Frc f ∧ Bd 3000 f.1 ∧ Bd 400 f.2) ∧
  ∀ x y : Int, Frc (x, y) → (∀ M, (∀ f ∈ (fs.drop n).take ps.length, f.2 ∣ M) → x * M = y * Wm M ((ps.map (val (n : Int))).zip ((fs.drop n).take ps.length))) → ∀ r H', Same H H' → SqT K H' r [.int x, .int y] → Q (.ref r) H'
theorem ok_rule_sum {P : Program} {w : World} {K : PySem.W.Frag} {mg : Str → Option Value} {base : Heap} (T : Tx K mg) : FnOk P w K mg base CX0 4 T.a_rule_sum T.fd_rule_sum ["rule", "values", "n"] (spRSum K) := by
  refine T.F_rule_sum.ok sc_rule_sum (fun vs H Q E h => ?_) (fun cdv A outer s H vs Q E hr h => ?_)
  · obtain ⟨R, Vp, as, bs, ps, fs, n, rfl, _⟩ := h
    rfl
  obtain ⟨R, Vp, as, bs, ps, fs, n, rfl, hR, hL, hV, hT, l6, nf, n5, hp, hf, q⟩ := h
  refine ⟨_, ((pss_cons (ps_set (i := 3) sc_rule_sum.nd rfl (Or.inl rfl) (pe_slice sl_list (pv 1) (po_some (pv 2)) (po_some (pe_op op_add (pv 2) (pe_callB call_len_seq rfl T.z_len bt_len (pa_cons (pv 0) pa_nil))))))
    (pss_one (ps_ret (pe_call (FnOk.mono (ok_total T) (by decide)) hr rfl T.m_total T.F_total.kp T.b_total .nil pass0 (pa_cons (pe_lcomp2 rfl (blkok2 rfl (sub_cons rfl sub_nil) (fv_cons2 2 "n" rfl (Or.inl rfl) (Or.inl rfl) ⟨_, rfl⟩ fv_nil2)) (pi_zip rfl T.z_zip (pa_cons (pv 0) (pa_cons (pv 3) pa_nil))) (fun _ _ _ _ => (pe_call (FnOk.mono (ok_weighted T) (by decide)) hr rfl T.m_weighted T.F_weighted.kp T.b_weighted .nil pass0 (pa_cons (pe_call (FnOk.mono (ok_poly_value T) (by decide)) hr rfl T.m_poly_value T.F_poly_value.kp T.b_poly_value .nil pass0 (pa_cons (pv 0) (pa_cons (pv 2) pa_nil))) (pa_cons (pv 1) pa_nil))))) pa_nil)))))), ?_⟩
  (try dsimp only [a_ipC, a_izip, a_tComp2, a_tryAs, a_drop_nx, a_raise, a_try, a_compIf, a_seq, a_next, a_brk, a_cnt, a_drop, a_ret, a_retN, a_if, a_asg, a_gname, a_gsub, a_gtup, a_gnil, a_gcons, a_aug, a_augS, a_ipI, a_var, a_c, a_op, a_un, a_rI, a_rI0, a_rU, a_eqI, a_neI, a_eqB, a_neB, a_tB, a_test, a_and, a_or, a_not, a_andV, a_orV, a_notV, a_ifE, a_chain, a_nil, a_cons, a_lst, a_tup, a_call, a_cb, a_bm0, a_bm, a_sl, a_nopart, a_part, a_tyI, a_for, a_comp, a_ilist, a_itup, a_irng1, a_irng2, a_irng3, a_cxK, a_irev, a_ienum, a_cat, a_rep, a_pop, a_clear, a_rslL, a_ixL, a_ixT, a_setL, a_app]); (try simp only [a_ipC, a_izip, a_tComp2, a_tryAs, a_drop_nx, a_raise, a_try, a_compIf, a_seq, a_next, a_brk, a_cnt, a_drop, a_ret, a_retN, a_if, a_asg, a_gname, a_gsub, a_gtup, a_gnil, a_gcons, a_aug, a_augS, a_ipI, a_var, a_c, a_op, a_un, a_rI, a_rI0, a_rU, a_eqI, a_neI, a_eqB, a_neB, a_tB, a_test, a_and, a_or, a_not, a_andV, a_orV, a_notV, a_ifE, a_chain, a_nil, a_cons, a_lst, a_tup, a_call, a_cb, a_bm0, a_bm, a_sl, a_nopart, a_part, a_tyI, a_for, a_comp, a_ilist, a_itup, a_irng1, a_irng2, a_irng3, a_cxK, and_assoc, a_irev, a_ienum, a_cat, a_rep, a_pop, a_clear, a_rslL, a_ixL, a_ixT, a_setL, a_app,
    List.getElem?_cons_zero, List.getElem?_cons_succ, List.set_cons_zero, List.set_cons_succ, Option.some.injEq, V.int.injEq, V.bl.injEq, V.ref.injEq, V.ty.injEq, exists_eq_left', exists_eq_left, exists_and_left, decide_eq_true_eq, List.cons_append, List.nil_append, List.append_nil, List.cons.injEq, and_true, true_and, Bool.not_eq_true', decide_eq_false_iff_not, ite_true, ite_false, Bool.false_eq_true, if_true, if_false, List.length_cons, List.length_nil, L2.start, List.map_cons, List.map_nil, List.replicate_succ, List.replicate_zero])
  refine ⟨_, .inl hR, _, hV, fun Aa nA => ?_⟩
  rw [List.length_map, hL.len, cut_some bs n ps.length (by rw [hT.len]; exact nf)]
  have w1 := same_upd nA (.lst (((bs.drop n).take ps.length).map V.ref))
  have gA : upd H Aa (.lst (((bs.drop n).take ps.length).map V.ref)) Aa = _ := upd_same
  generalize upd H Aa (.lst (((bs.drop n).take ps.length).map V.ref)) = G1 at w1 gA ⊢
  have hC := (hT.part n ps.length).same w1
  have hcf : ∀ f ∈ (fs.drop n).take ps.length, Frc f ∧ Bd 3000 f.1 ∧ Bd 400 f.2 := fun f h => hf f (List.mem_of_mem_drop (List.mem_of_mem_take h))
  have lc : ((fs.drop n).take ps.length).length ≤ ps.length := by rw [List.length_take]; omega
  generalize (fs.drop n).take ps.length = cf at hC hcf lc q
  generalize (bs.drop n).take ps.length = cb at hC gA
  refine ⟨_, w1.seq hR, _, SqL.of gA, fun D nD => ?_⟩
  obtain ⟨Pz, hPz⟩ : ∃ Pz : Nat → Hp → Prop, ∀ j Hz, Pz j Hz ↔ ∃ (ds : List Addr) (ws : List (Int × Int)), Hz D = some (.lst (ds.map V.ref)) ∧ TL K Hz ds ws ∧ ws.length = j ∧ (∀ f ∈ ws, Frc f ∧ Bd 100000 f.1 ∧ Bd 400 f.2) ∧
    (∀ M, (∀ f ∈ cf, f.2 ∣ M) → (∀ f ∈ ws, f.2 ∣ M) ∧ Sm M ws = Wm M (((ps.map (val (n : Int))).zip cf).take j)) ∧ Same G1 Hz := ⟨_, fun _ _ => Iff.rfl⟩
  refine cl_zip (xs := as.map V.ref) (ys := cb.map V.ref) Pz ((hPz _ _).mpr ⟨[], [], upd_same, TL.nil _ _, rfl, by simp, fun M _ => ⟨by simp, by simp [Sm, Wm]⟩, same_upd nD _⟩) (fun i Hz _ _ y => by obtain ⟨_, _, _, _, _, _, _, z4⟩ := (hPz i Hz).mp y; exact ⟨(w1.trans z4).seq hR, SqL.of (z4 _ _ gA)⟩) ?_ ?_
  · intro j v1 v2 pt Hz hv1 hv2 hc hpt
    obtain ⟨ds, ws, k1, k2, k3, k5, k6, k4⟩ := (hPz _ _).mp hc
    obtain ⟨b1, p', rfl, hb1, hp', hB1⟩ := hL.nth hv1
    obtain ⟨b2, f, rfl, hb2, hf', hB2⟩ := hC.nth hv2
    have hj : j < ps.length := (List.getElem?_eq_some_iff.mp hp').1
    have hjc : j < cf.length := (List.getElem?_eq_some_iff.mp hf').1
    have u1 := same_upd hpt (.tup [V.ref b1, V.ref b2])
    have u2 := k4.trans u1
    have pok := hp p' (List.mem_of_getElem? hp')
    have fok := hcf f (List.mem_of_getElem? hf')
    have bn : Bd 9 (n : Int) := Bd.of_lt (m := 501) (by omega) (by decide)
    have bv : Bd 2000 (val (n : Int) p') := (val_bd bn p' pok.2).mono (by omega)
    have lds := k2.len
    (try dsimp only [a_ipC, a_izip, a_tComp2, a_tryAs, a_drop_nx, a_raise, a_try, a_compIf, a_seq, a_next, a_brk, a_cnt, a_drop, a_ret, a_retN, a_if, a_asg, a_gname, a_gsub, a_gtup, a_gnil, a_gcons, a_aug, a_augS, a_ipI, a_var, a_c, a_op, a_un, a_rI, a_rI0, a_rU, a_eqI, a_neI, a_eqB, a_neB, a_tB, a_test, a_and, a_or, a_not, a_andV, a_orV, a_notV, a_ifE, a_chain, a_nil, a_cons, a_lst, a_tup, a_call, a_cb, a_bm0, a_bm, a_sl, a_nopart, a_part, a_tyI, a_for, a_comp, a_ilist, a_itup, a_irng1, a_irng2, a_irng3, a_cxK, a_irev, a_ienum, a_cat, a_rep, a_pop, a_clear, a_rslL, a_ixL, a_ixT, a_setL, a_app]); (try simp only [a_ipC, a_izip, a_tComp2, a_tryAs, a_drop_nx, a_raise, a_try, a_compIf, a_seq, a_next, a_brk, a_cnt, a_drop, a_ret, a_retN, a_if, a_asg, a_gname, a_gsub, a_gtup, a_gnil, a_gcons, a_aug, a_augS, a_ipI, a_var, a_c, a_op, a_un, a_rI, a_rI0, a_rU, a_eqI, a_neI, a_eqB, a_neB, a_tB, a_test, a_and, a_or, a_not, a_andV, a_orV, a_notV, a_ifE, a_chain, a_nil, a_cons, a_lst, a_tup, a_call, a_cb, a_bm0, a_bm, a_sl, a_nopart, a_part, a_tyI, a_for, a_comp, a_ilist, a_itup, a_irng1, a_irng2, a_irng3, a_cxK, and_assoc, a_irev, a_ienum, a_cat, a_rep, a_pop, a_clear, a_rslL, a_ixL, a_ixT, a_setL, a_app,
    List.getElem?_cons_zero, List.getElem?_cons_succ, List.set_cons_zero, List.set_cons_succ, Option.some.injEq, V.int.injEq, V.bl.injEq, V.ref.injEq, V.ty.injEq, exists_eq_left', exists_eq_left, exists_and_left, decide_eq_true_eq, List.cons_append, List.nil_append, List.append_nil, List.cons.injEq, and_true, true_and, Bool.not_eq_true', decide_eq_false_iff_not, ite_true, ite_false, Bool.false_eq_true, if_true, if_false, List.length_cons, List.length_nil, L2.start, List.map_cons, List.map_nil, List.replicate_succ, List.replicate_zero, bst2, Option.getD_some])
    refine ⟨b1, p', n, 1300, 9, rfl, (w1.trans u2).seq hB1, pok.1, pok.2, bn, by decide, ?_⟩
    refine ⟨b2, val (n : Int) p', f.1, f.2, rfl, u2.seqT hB2, fok.1, bv.mono (by decide), fok.2.1, fok.2.2.mono (by decide), fun a b Fab e db la lb r nr => ?_⟩
    have u3 := u1.trans (same_upd nr (.tup [V.int a, V.int b]))
    refine ⟨_, u3 _ _ k1, by rw [List.length_map]; exact small1000 (by omega), (hPz _ _).mpr ⟨ds ++ [r], ws ++ [(a, b)], by rw [upd_same]; simp, TL.upd (TL.snoc (k2.same u3) (SqT.of upd_same)) (u3 _ _ k1), by simp [k3], fun g hg => ?_, fun M hM => ?_, (k4.trans u3).more nD⟩⟩
    · rcases List.mem_append.mp hg with z | z
      · exact k5 g z
      · rw [List.mem_singleton.mp z]
        exact ⟨Fab, (show Bd (2000 + 3000) a from Nat.lt_of_le_of_lt la (bv.mul fok.2.1)).mono (by decide), Nat.lt_of_le_of_lt lb fok.2.2⟩
    · obtain ⟨m1, m2⟩ := k6 M hM
      have fM := hM f (List.mem_of_getElem? hf')
      refine ⟨fun g hg => ?_, ?_⟩
      · rcases List.mem_append.mp hg with z | z
        · exact m1 g z
        · rw [List.mem_singleton.mp z]; exact Int.dvd_trans db fM
      · have ez : ((ps.map (val (n : Int))).zip cf)[j]? = some (val (n : Int) p', f) := by
          rw [List.getElem?_zip_eq_some]
          exact ⟨by rw [List.getElem?_map, hp']; rfl, hf'⟩
        rw [Sm_snoc, m2, List.take_succ, ez]
        show _ = Wm M (_ ++ [(val (n : Int) p', f)])
        rw [Wm_snoc]
        show _ + a * M.fdiv b = _ + val (n : Int) p' * f.1 * M.fdiv f.2
        rw [wm_one Fab.1 fok.1.1 e db fM]
  · intro Hz hc
    obtain ⟨ds, ws, k1, k2, k3, k5, k6, k4⟩ := (hPz _ _).mp hc
    have em : min (as.map V.ref).length (cb.map V.ref).length = cf.length := by rw [List.length_map, List.length_map, hL.len, hC.len]; omega
    rw [em] at k3 k6
    refine ⟨D, ds, ws, rfl, SqL.of k1, k2, by omega, k5, fun x y F e r H' s' hs => q x y F (fun M hM => ?_) r _ (w1.trans (k4.trans s')) hs⟩
    obtain ⟨m1, m2⟩ := k6 M hM
    rw [e M m1, m2, List.take_of_length_le (by rw [List.length_zip, List.length_map]; omega)]
/-! #### keeps -/
def lcmL : List (Int × Int) → Int
  | [] => 1
  | f :: fs => f.2 * lcmL fs
theorem lcm_dvd : ∀ (fs : List (Int × Int)), ∀ f ∈ fs, f.2 ∣ lcmL fs
  | g :: fs, f, h => by
    rcases List.mem_cons.mp h with rfl | h
    · exact Int.dvd_mul_right _ _
    · exact Int.dvd_trans (lcm_dvd fs f h) (Int.dvd_mul_left _ _)
theorem lcm_pos : ∀ (fs : List (Int × Int)), (∀ f ∈ fs, 1 ≤ f.2) → 1 ≤ lcmL fs
  | [], _ => by decide
  | f :: fs, h => by
    have a := h f (by simp)
    have b := lcm_pos fs fun g hg => h g (by simp [hg])
    have := Int.mul_le_mul a b (by omega) (by omega)
    simp only [lcmL]; omega
/-- whether the values keep the rule at n -/
def Kp (ps : List (List Int)) (fs : List (Int × Int)) (n : Nat) : Prop := Wm (lcmL ((fs.drop n).take ps.length)) ((ps.map (val (n : Int))).zip ((fs.drop n).take ps.length)) = 0
def spKeeps (K : PySem.W.Frag) (c d : Addr) : Sp := fun vs H Q E => ∃ (R Vp : Addr) (as bs : List Addr) (ps : List (List Int)) (fs : List (Int × Int)) (n : Int), vs = [.ref R, .ref Vp, .int n] ∧ SqL K H R (as.map V.ref) ∧ LL K H as ps ∧ SqL K H Vp (bs.map V.ref) ∧ TL K H bs fs ∧ ps.length ≤ 6 ∧ fs.length ≤ 500 ∧ (∀ p ∈ ps, p.length ≤ 64 ∧ ∀ x ∈ p, Bd 1300 x) ∧ (∀ f ∈ fs, Frc f ∧ Bd 3000 f.1 ∧ Bd 400 f.2) ∧
  ((¬ IsRule ps ∧ E (.ref c) none H) ∨ (IsRule ps ∧ ((n < 0 ∨ (fs.length : Int) ≤ n + ((ps.length : Int) - 1)) ∧ E (.ref d) none H ∨ (∃ m : Nat, n = (m : Int) ∧ (m : Int) + ((ps.length : Int) - 1) < (fs.length : Int) ∧ ∃ b : Bool, (b = true ↔ Kp ps fs m) ∧ ∀ H', Same H H' → Q (.bl b) H'))))
theorem ok_keeps {P : Program} {w : World} {K : PySem.W.Frag} {mg : Str → Option Value} {base : Heap} (T : Tx K mg) : FnOk P w K mg base (CXE P w) 5 T.a_keeps T.fd_keeps ["rule", "values", "n"] (spKeeps K T.c_NoRule T.c_NoPlace) := by
  refine T.F_keeps.okE sc_keeps (fun vs H Q E h => ?_) (fun cdv A outer s H vs Q E hr h => ?_)
  · obtain ⟨R, Vp, as, bs, ps, fs, n, rfl, _⟩ := h
    rfl
  obtain ⟨R, Vp, as, bs, ps, fs, n, rfl, hR, hL, hV, hT, l6, l5, hp, hf, q⟩ := h
  refine ⟨_, ((pss_cons (ps_set (i := 3) sc_keeps.nd rfl (Or.inl rfl) (pe_call (FnOk.mono (ok_order_of T) (by decide)) hr rfl T.m_order_of T.F_order_of.kp T.b_order_of .nil passE (pa_cons (pv 0) pa_nil)))
    (pss_cons (ps_if (PT.nox (PW.pt (pw_or (pt_cmpR op_lt (pv 2) pe_int (nomark _)) (pw_or1 (pt_cmpR op_ge (pe_op op_add (pv 2) (pv 3)) (pe_callB call_len_seq rfl T.z_len bt_len (pa_cons (pv 1) pa_nil)) (nomark _)))))) (pss_one (ps_raise rfl throwE rfl T.mc_NoPlace T.xc_NoPlace (pa_cons pe_str pa_nil))) pss_nil)
    (pss_one (PS.nox (ps_ret (pe_cmpR (op_eqD hr.units) (pe_call (FnOk.mono (ok_rule_sum T) (by decide)) hr rfl T.m_rule_sum T.F_rule_sum.kp T.b_rule_sum .nil pass0 (pa_cons (pv 0) (pa_cons (pv 1) (pa_cons (pv 2) pa_nil)))) (pe_tup (pa_cons pe_int (pa_cons pe_int pa_nil))) (nomark _)))))))), ?_⟩
  (try dsimp only [a_ipC, a_izip, a_tComp2, a_tryAs, a_drop_nx, a_raise, a_try, a_compIf, a_seq, a_next, a_brk, a_cnt, a_drop, a_ret, a_retN, a_if, a_asg, a_gname, a_gsub, a_gtup, a_gnil, a_gcons, a_aug, a_augS, a_ipI, a_var, a_c, a_op, a_un, a_rI, a_rI0, a_rU, a_eqI, a_neI, a_eqB, a_neB, a_tB, a_test, a_and, a_or, a_not, a_andV, a_orV, a_notV, a_ifE, a_chain, a_nil, a_cons, a_lst, a_tup, a_call, a_cb, a_bm0, a_bm, a_sl, a_nopart, a_part, a_tyI, a_for, a_comp, a_ilist, a_itup, a_irng1, a_irng2, a_irng3, a_cxK, a_irev, a_ienum, a_cat, a_rep, a_pop, a_clear, a_rslL, a_ixL, a_ixT, a_setL, a_app]); (try simp only [a_ipC, a_izip, a_tComp2, a_tryAs, a_drop_nx, a_raise, a_try, a_compIf, a_seq, a_next, a_brk, a_cnt, a_drop, a_ret, a_retN, a_if, a_asg, a_gname, a_gsub, a_gtup, a_gnil, a_gcons, a_aug, a_augS, a_ipI, a_var, a_c, a_op, a_un, a_rI, a_rI0, a_rU, a_eqI, a_neI, a_eqB, a_neB, a_tB, a_test, a_and, a_or, a_not, a_andV, a_orV, a_notV, a_ifE, a_chain, a_nil, a_cons, a_lst, a_tup, a_call, a_cb, a_bm0, a_bm, a_sl, a_nopart, a_part, a_tyI, a_for, a_comp, a_ilist, a_itup, a_irng1, a_irng2, a_irng3, a_cxK, and_assoc, a_irev, a_ienum, a_cat, a_rep, a_pop, a_clear, a_rslL, a_ixL, a_ixT, a_setL, a_app,
    List.getElem?_cons_zero, List.getElem?_cons_succ, List.set_cons_zero, List.set_cons_succ, Option.some.injEq, V.int.injEq, V.bl.injEq, V.ref.injEq, V.ty.injEq, exists_eq_left', exists_eq_left, exists_and_left, decide_eq_true_eq, List.cons_append, List.nil_append, List.append_nil, List.cons.injEq, and_true, true_and, Bool.not_eq_true', decide_eq_false_iff_not, ite_true, ite_false, Bool.false_eq_true, if_true, if_false, List.length_cons, List.length_nil, L2.start, List.map_cons, List.map_nil, List.replicate_succ, List.replicate_zero])
  refine ⟨R, as, ps, rfl, hR, hL, by omega, ?_⟩
  rcases q with ⟨hn, q⟩ | ⟨hI, q⟩
  · exact .inr ⟨hn, q⟩
  refine .inl ⟨hI, ?_⟩
  refine ite2 (fun h => ?_) (fun h => ⟨_, rfl, _, .inl hV, ?_⟩)
  · refine ⟨by decide, ?_⟩
    rcases q with ⟨_, q⟩ | ⟨m, rfl, _⟩
    · exact q
    · omega
  rw [List.length_map, hT.len]
  refine ite2 (fun h2 => ⟨by decide, ?_⟩) (fun h2 => ?_)
  · rcases q with ⟨_, q⟩ | ⟨m, rfl, hm, _⟩
    · exact q
    · omega
  rcases q with ⟨hbad, _⟩ | ⟨m, rfl, hm, b, hb, q⟩
  · omega
  have lp : 0 < ps.length := List.length_pos_iff.mpr hI.1
  refine ⟨R, Vp, as, bs, ps, fs, m, rfl, hR, hL, hV, hT, l6, by omega, by omega, hp, hf, fun x y F e r H1 s1 hs => ⟨by decide, fun p hp1 => ?_⟩⟩
  have v1 := same_upd hp1 (.tup [V.int 0, V.int 1])
  refine ⟨_, DV.tup (v1.seqT hs) (.cons (.int x) (.cons (.int y) .nil)), _, DV.tup (SqT.of upd_same) (.cons (.int 0) (.cons (.int 1) .nil)), by simp [PyData.canLay0, PyData.canLayAll0], by simp [PyData.canLay0, PyData.canLayAll0], by simp [PyData.depth, PyData.depthAll], ?_⟩
  have e0 := e _ (lcm_dvd _)
  have M1 := lcm_pos ((fs.drop m).take ps.length) fun f h => (hf f (List.mem_of_mem_drop (List.mem_of_mem_take h))).1.1
  have y1 : 1 ≤ y := F.1
  have yg : Nat.gcd x.natAbs y.natAbs = 1 := F.2
  have kz : (x = 0 ∧ y = 1) ↔ Kp ps fs m := by
    unfold Kp
    constructor
    · rintro ⟨rfl, rfl⟩
      rw [Int.zero_mul, Int.one_mul] at e0
      exact e0.symm
    · intro z
      rw [z, Int.mul_zero] at e0
      have x0 : x = 0 := (Int.mul_eq_zero.mp e0).resolve_right (by omega)
      rw [x0, Int.natAbs_zero, Nat.gcd_zero_left] at yg
      exact ⟨x0, by omega⟩
  have ev : PyData.eqv (.tuple [.int x, .int y]) (.tuple [.int 0, .int 1]) = b := by
    rw [Bool.eq_iff_iff, hb, ← kz]
    simp [PyData.eqv, PyData.eqvAll]
  rw [ev]
  exact q _ (s1.trans v1)

/-! #### split -/
/-- lists that lie on the heap itself -/
structure LH (H : Hp) (as : List Addr) (ps : List (List Int)) : Prop where
  len : as.length = ps.length
  get : ∀ (i : Nat) (a : Addr) (p : List Int), as[i]? = some a → ps[i]? = some p → H a = some (.lst (p.map V.int))
theorem LH.ll {K : PySem.W.Frag} {H : Hp} {as : List Addr} {ps : List (List Int)} (h : LH H as ps) : LL K H as ps := ⟨h.len, fun i a p h1 h2 => SqL.of (h.get i a p h1 h2)⟩
theorem LH.same {H H' : Hp} {as : List Addr} {ps : List (List Int)} (h : LH H as ps) (s : Same H H') : LH H' as ps := ⟨h.len, fun i a p h1 h2 => s _ _ (h.get i a p h1 h2)⟩
theorem LH.nil (H : Hp) : LH H [] [] := ⟨rfl, fun i a p h1 _ => by simp at h1⟩
theorem LH.snoc {H : Hp} {as : List Addr} {ps : List (List Int)} {a : Addr} {p : List Int} (h : LH H as ps) (e : H a = some (.lst (p.map V.int))) : LH H (as ++ [a]) (ps ++ [p]) := by
  refine ⟨by simp [h.len], fun i b r h1 h2 => ?_⟩
  by_cases z : i < as.length
  · rw [List.getElem?_append_left z] at h1
    rw [List.getElem?_append_left (by rw [← h.len]; exact z)] at h2
    exact h.get i b r h1 h2
  · rw [List.getElem?_append_right (by omega)] at h1
    rw [List.getElem?_append_right (by rw [← h.len]; omega), ← h.len] at h2
    have z2 : i - as.length = 0 := by
      rcases Nat.eq_zero_or_pos (i - as.length) with y | y
      · exact y
      · rw [List.getElem?_eq_none (by simp; omega)] at h1; cases h1
    rw [z2] at h1 h2
    simp at h1 h2
    rw [← h1, ← h2]; exact e
theorem LH.set {H : Hp} {as : List Addr} {ps : List (List Int)} {a : Addr} {p : List Int} (h : LH H as ps) (e : H a = some (.lst (p.map V.int))) (i : Nat) : LH H (as.set i a) (ps.set i p) := by
  refine ⟨by simp [h.len], fun j b r h1 h2 => ?_⟩
  by_cases z : i = j
  · subst z
    have l1 : i < as.length := by have := (List.getElem?_eq_some_iff.mp h1).1; simpa using this
    rw [List.getElem?_set_self l1] at h1
    rw [List.getElem?_set_self (by rw [← h.len]; exact l1)] at h2
    rw [← Option.some.inj h1, ← Option.some.inj h2]; exact e
  · rw [List.getElem?_set_ne z] at h1 h2
    exact h.get j b r h1 h2
theorem LH.upd {H : Hp} {as : List Addr} {ps : List (List Int)} {b : Addr} {o : HO} (h : LH H as ps) (n : b ∉ as) : LH (L2.upd H b o) as ps := ⟨h.len, fun i a p h1 h2 => by
  rw [upd_ne (fun z => n (by rw [← z]; exact List.mem_of_getElem? h1))]; exact h.get i a p h1 h2⟩
theorem LH.mem {H : Hp} {as : List Addr} {ps : List (List Int)} (h : LH H as ps) {a : Addr} (ha : a ∈ as) : ∃ p : List Int, H a = some (.lst (p.map V.int)) := by
  obtain ⟨i, hi, e⟩ := List.mem_iff_getElem.mp ha
  have hp : i < ps.length := by rw [← h.len]; exact hi
  exact ⟨ps[i], h.get i a ps[i] (by rw [← e]; exact List.getElem?_eq_getElem hi) (List.getElem?_eq_getElem hp)⟩
theorem LH.notin {H : Hp} {as : List Addr} {ps : List (List Int)} (h : LH H as ps) {a : Addr} (ha : H a = none) : a ∉ as := fun z => by
  obtain ⟨p, e⟩ := h.mem z
  rw [ha] at e; cases e

/-! #### _law_cell_at -/
def cell (ns : List Int) (k : Nat) : Int := ns.getD k 0
def spCellAt (K : PySem.W.Frag) : Sp := fun vs H Q _ => ∃ (a : Addr) (ns : List Int) (k : Nat), vs = [.ref a, .int (k : Int)] ∧ SqL K H a (ns.map V.int) ∧ Q (.int (cell ns k)) H
theorem ok__law_cell_at {P : Program} {w : World} {K : PySem.W.Frag} {mg : Str → Option Value} {base : Heap} (T : Tx K mg) : FnOk P w K mg base CX0 1 T.a__law_cell_at T.fd__law_cell_at ["_law_script", "_law_k"] (spCellAt K) := by
  refine T.F__law_cell_at.ok sc__law_cell_at (fun vs H Q E h => ?_) (fun cdv A outer s H vs Q E hr h => ?_)
  · obtain ⟨a, ns, k, rfl, _⟩ := h
    rfl
  obtain ⟨a, ns, k, rfl, hS, q⟩ := h
  refine ⟨_, ((pss_cons (ps_if (pt_cmpR op_lt (pv 1) (pe_callB call_len_seq rfl T.z_len bt_len (pa_cons (pv 0) pa_nil)) (nomark _)) (pss_one (ps_ret (pe_ix ix_list (pv 0) (pv 1) (fun _ _ => rfl)))) pss_nil)
    (pss_one (ps_ret pe_int)))), ?_⟩
  (try dsimp only [a_ipC, a_izip, a_tComp2, a_tryAs, a_drop_nx, a_raise, a_try, a_compIf, a_seq, a_next, a_brk, a_cnt, a_drop, a_ret, a_retN, a_if, a_asg, a_gname, a_gsub, a_gtup, a_gnil, a_gcons, a_aug, a_augS, a_ipI, a_var, a_c, a_op, a_un, a_rI, a_rI0, a_rU, a_eqI, a_neI, a_eqB, a_neB, a_tB, a_test, a_and, a_or, a_not, a_andV, a_orV, a_notV, a_ifE, a_chain, a_nil, a_cons, a_lst, a_tup, a_call, a_cb, a_bm0, a_bm, a_sl, a_nopart, a_part, a_tyI, a_for, a_comp, a_ilist, a_itup, a_irng1, a_irng2, a_irng3, a_cxK, a_irev, a_ienum, a_cat, a_rep, a_pop, a_clear, a_rslL, a_ixL, a_ixT, a_setL, a_app]); (try simp only [a_ipC, a_izip, a_tComp2, a_tryAs, a_drop_nx, a_raise, a_try, a_compIf, a_seq, a_next, a_brk, a_cnt, a_drop, a_ret, a_retN, a_if, a_asg, a_gname, a_gsub, a_gtup, a_gnil, a_gcons, a_aug, a_augS, a_ipI, a_var, a_c, a_op, a_un, a_rI, a_rI0, a_rU, a_eqI, a_neI, a_eqB, a_neB, a_tB, a_test, a_and, a_or, a_not, a_andV, a_orV, a_notV, a_ifE, a_chain, a_nil, a_cons, a_lst, a_tup, a_call, a_cb, a_bm0, a_bm, a_sl, a_nopart, a_part, a_tyI, a_for, a_comp, a_ilist, a_itup, a_irng1, a_irng2, a_irng3, a_cxK, and_assoc, a_irev, a_ienum, a_cat, a_rep, a_pop, a_clear, a_rslL, a_ixL, a_ixT, a_setL, a_app,
    List.getElem?_cons_zero, List.getElem?_cons_succ, List.set_cons_zero, List.set_cons_succ, Option.some.injEq, V.int.injEq, V.bl.injEq, V.ref.injEq, V.ty.injEq, exists_eq_left', exists_eq_left, exists_and_left, decide_eq_true_eq, List.cons_append, List.nil_append, List.append_nil, List.cons.injEq, and_true, true_and, Bool.not_eq_true', decide_eq_false_iff_not, ite_true, ite_false, Bool.false_eq_true, if_true, if_false, List.length_cons, List.length_nil, L2.start, List.map_cons, List.map_nil, List.replicate_succ, List.replicate_zero])
  refine ⟨_, .inl hS, ?_⟩
  rw [List.length_map]
  unfold cell at q
  refine ite2 (fun h => ?_) (fun h => ?_)
  · have h' : k < ns.length := by omega
    rw [List.getD_eq_getElem?_getD, List.getElem?_eq_getElem h'] at q
    exact ⟨_, hS, _, at_int h', q⟩
  · rw [List.getD_eq_getElem?_getD, List.getElem?_eq_none (by omega)] at q
    exact q

/-! #### the law's own defs -/
def num (c : Int) : Int := if c % 3 = 0 then c / 3 % (2 * 10 ^ 60 - 1) - 10 ^ 60 + 1 else if c % 3 = 1 then c / 3 % 2001 - 1000 else c / 3 % 5 - 2
theorem num_lt (c : Int) : (num c).natAbs < 10 ^ 60 := by
  unfold num
  split
  · have h1 := Int.emod_nonneg (c / 3) (show (2 * 10 ^ 60 - 1 : Int) ≠ 0 by decide)
    have h2 := Int.emod_lt_of_pos (c / 3) (show (0 : Int) < 2 * 10 ^ 60 - 1 by decide)
    omega
  · split <;> omega
theorem num_bd (c : Int) : Bd 200 (num c) := Bd.of_lt (num_lt c) (by decide)
def spNum : Sp := fun vs H Q _ => ∃ c : Int, vs = [.int c, .int (10 ^ 60)] ∧ Q (.int (num c)) H
theorem ok__law_number {P : Program} {w : World} {K : PySem.W.Frag} {mg : Str → Option Value} {base : Heap} (T : Tx K mg) : FnOk P w K mg base CX0 1 T.a__law_number T.fd__law_number ["_law_cell", "_law_most"] spNum := by
  refine T.F__law_number.ok sc__law_number (fun vs H Q E h => ?_) (fun cdv A outer s H vs Q E hr h => ?_)
  · obtain ⟨c, rfl, _⟩ := h
    rfl
  obtain ⟨c, rfl, q⟩ := h
  refine ⟨_, ((pss_cons (ps_if (pt_cmpR op_eq (pe_op op_mod (pv 0) pe_int) pe_int (nomark _)) (pss_one (ps_ret (pe_op op_add (pe_op op_sub (pe_op op_mod (pe_op op_fdiv (pv 0) pe_int) (pe_op op_sub (pe_op op_mul pe_int (pv 1)) pe_int)) (pv 1)) pe_int))) pss_nil)
    (pss_cons (ps_if (pt_cmpR op_eq (pe_op op_mod (pv 0) pe_int) pe_int (nomark _)) (pss_one (ps_ret (pe_op op_sub (pe_op op_mod (pe_op op_fdiv (pv 0) pe_int) pe_int) pe_int))) pss_nil)
    (pss_one (ps_ret (pe_op op_sub (pe_op op_mod (pe_op op_fdiv (pv 0) pe_int) pe_int) pe_int)))))), ?_⟩
  (try dsimp only [a_ipC, a_izip, a_tComp2, a_tryAs, a_drop_nx, a_raise, a_try, a_compIf, a_seq, a_next, a_brk, a_cnt, a_drop, a_ret, a_retN, a_if, a_asg, a_gname, a_gsub, a_gtup, a_gnil, a_gcons, a_aug, a_augS, a_ipI, a_var, a_c, a_op, a_un, a_rI, a_rI0, a_rU, a_eqI, a_neI, a_eqB, a_neB, a_tB, a_test, a_and, a_or, a_not, a_andV, a_orV, a_notV, a_ifE, a_chain, a_nil, a_cons, a_lst, a_tup, a_call, a_cb, a_bm0, a_bm, a_sl, a_nopart, a_part, a_tyI, a_for, a_comp, a_ilist, a_itup, a_irng1, a_irng2, a_irng3, a_cxK, a_irev, a_ienum, a_cat, a_rep, a_pop, a_clear, a_rslL, a_ixL, a_ixT, a_setL, a_app]); (try simp only [a_ipC, a_izip, a_tComp2, a_tryAs, a_drop_nx, a_raise, a_try, a_compIf, a_seq, a_next, a_brk, a_cnt, a_drop, a_ret, a_retN, a_if, a_asg, a_gname, a_gsub, a_gtup, a_gnil, a_gcons, a_aug, a_augS, a_ipI, a_var, a_c, a_op, a_un, a_rI, a_rI0, a_rU, a_eqI, a_neI, a_eqB, a_neB, a_tB, a_test, a_and, a_or, a_not, a_andV, a_orV, a_notV, a_ifE, a_chain, a_nil, a_cons, a_lst, a_tup, a_call, a_cb, a_bm0, a_bm, a_sl, a_nopart, a_part, a_tyI, a_for, a_comp, a_ilist, a_itup, a_irng1, a_irng2, a_irng3, a_cxK, and_assoc, a_irev, a_ienum, a_cat, a_rep, a_pop, a_clear, a_rslL, a_ixL, a_ixT, a_setL, a_app,
    List.getElem?_cons_zero, List.getElem?_cons_succ, List.set_cons_zero, List.set_cons_succ, Option.some.injEq, V.int.injEq, V.bl.injEq, V.ref.injEq, V.ty.injEq, exists_eq_left', exists_eq_left, exists_and_left, decide_eq_true_eq, List.cons_append, List.nil_append, List.append_nil, List.cons.injEq, and_true, true_and, Bool.not_eq_true', decide_eq_false_iff_not, ite_true, ite_false, Bool.false_eq_true, if_true, if_false, List.length_cons, List.length_nil, L2.start, List.map_cons, List.map_nil, List.replicate_succ, List.replicate_zero])
  unfold num at q
  have d : CDiv c 3 := ⟨by decide, by decide⟩
  refine ⟨by decide, ite2 (fun h => ?_) (fun h => ⟨by decide, ite2 (fun h2 => ?_) (fun h2 => ?_)⟩)⟩
  · rw [if_pos h] at q
    exact ⟨d, .inl ⟨by decide, by decide⟩, by decide, q⟩
  · rw [if_neg h, if_pos h2] at q
    exact ⟨d, by decide, q⟩
  · rw [if_neg h, if_neg h2] at q
    exact ⟨d, by decide, q⟩
def spTrim (K : PySem.W.Frag) : Sp := fun vs H Q _ => ∃ (a : Addr) (xs : List Int), vs = [.ref a] ∧ SqL K H a (xs.map V.int) ∧ xs.length ≤ 1000 ∧ newL H Q ((trim xs).map V.int)
/-! #### _law_cut -/
theorem trim_drop {xs : List Int} (h : xs ≠ []) (h0 : xs.getLast h = 0) : trim xs.dropLast = trim xs := by
  have e := List.dropLast_concat_getLast h
  rw [h0] at e
  conv => rhs; rw [← e]
  rw [trim_zero]
theorem ok__law_cut {P : Program} {w : World} {K : PySem.W.Frag} {mg : Str → Option Value} {base : Heap} (T : Tx K mg) : FnOk P w K mg base CX0 1 T.a__law_cut T.fd__law_cut ["_law_numbers"] (spTrim K) := by
  refine T.F__law_cut.ok sc__law_cut (fun vs H Q E h => ?_) (fun cdv A outer s H vs Q E hr h => ?_)
  · obtain ⟨a, xs, rfl, _⟩ := h
    rfl
  obtain ⟨a, xs, rfl, hS, hl, q⟩ := h
  refine ⟨_, ((pss_cons (ps_set (i := 1) sc__law_cut.nd rfl (Or.inl rfl) (pe_callTy call_list_of rfl T.z_list bt_list (pa_cons (pv 0) pa_nil)))
    (pss_cons (ps_while PassesOwn.never (PW.pt (pw_and (pt_cmpR op_gt (pe_callB call_len_seq rfl T.z_len bt_len (pa_cons (pv 1) pa_nil)) pe_int (nomark _)) (pw_and1 (pt_cmpR op_eq (pe_ix ix_list (pv 1) (pe_un un_neg pe_int) (fun _ _ => rfl)) pe_int (nomark _))))) (pss_one (ps_expr (pe_bm0 PySem.F.plainAttrs_list PySem.F.slot_list_pop PySem.F.type_list_pop mt_pop (pv 1)))))
    (pss_one (ps_ret (pv 1)))))), ?_⟩
  (try dsimp only [a_ipC, a_izip, a_tComp2, a_tryAs, a_drop_nx, a_raise, a_try, a_compIf, a_seq, a_next, a_brk, a_cnt, a_drop, a_ret, a_retN, a_if, a_asg, a_gname, a_gsub, a_gtup, a_gnil, a_gcons, a_aug, a_augS, a_ipI, a_var, a_c, a_op, a_un, a_rI, a_rI0, a_rU, a_eqI, a_neI, a_eqB, a_neB, a_tB, a_test, a_and, a_or, a_not, a_andV, a_orV, a_notV, a_ifE, a_chain, a_nil, a_cons, a_lst, a_tup, a_call, a_cb, a_bm0, a_bm, a_sl, a_nopart, a_part, a_tyI, a_for, a_comp, a_ilist, a_itup, a_irng1, a_irng2, a_irng3, a_cxK, a_irev, a_ienum, a_cat, a_rep, a_pop, a_clear, a_rslL, a_ixL, a_ixT, a_setL, a_app]); (try simp only [a_ipC, a_izip, a_tComp2, a_tryAs, a_drop_nx, a_raise, a_try, a_compIf, a_seq, a_next, a_brk, a_cnt, a_drop, a_ret, a_retN, a_if, a_asg, a_gname, a_gsub, a_gtup, a_gnil, a_gcons, a_aug, a_augS, a_ipI, a_var, a_c, a_op, a_un, a_rI, a_rI0, a_rU, a_eqI, a_neI, a_eqB, a_neB, a_tB, a_test, a_and, a_or, a_not, a_andV, a_orV, a_notV, a_ifE, a_chain, a_nil, a_cons, a_lst, a_tup, a_call, a_cb, a_bm0, a_bm, a_sl, a_nopart, a_part, a_tyI, a_for, a_comp, a_ilist, a_itup, a_irng1, a_irng2, a_irng3, a_cxK, and_assoc, a_irev, a_ienum, a_cat, a_rep, a_pop, a_clear, a_rslL, a_ixL, a_ixT, a_setL, a_app,
    List.getElem?_cons_zero, List.getElem?_cons_succ, List.set_cons_zero, List.set_cons_succ, Option.some.injEq, V.int.injEq, V.bl.injEq, V.ref.injEq, V.ty.injEq, exists_eq_left', exists_eq_left, exists_and_left, decide_eq_true_eq, List.cons_append, List.nil_append, List.append_nil, List.cons.injEq, and_true, true_and, Bool.not_eq_true', decide_eq_false_iff_not, ite_true, ite_false, Bool.false_eq_true, if_true, if_false, List.length_cons, List.length_nil, L2.start, List.map_cons, List.map_nil, List.replicate_succ, List.replicate_zero])
  refine ⟨_, .inl hS, fun L hL => ?_⟩
  refine while_of (fun m σ H' => ∃ ys : List Int, ys.length = m ∧ σ = [some (.ref a), some (.ref L)] ∧ H' = upd H L (.lst (ys.map V.int)) ∧ trim ys = trim xs) xs.length ⟨xs, rfl, rfl, rfl, rfl⟩ ?_
  rintro m σ H' ⟨ys, hm, rfl, rfl, he⟩
  (try dsimp only [a_ipC, a_izip, a_tComp2, a_tryAs, a_drop_nx, a_raise, a_try, a_compIf, a_seq, a_next, a_brk, a_cnt, a_drop, a_ret, a_retN, a_if, a_asg, a_gname, a_gsub, a_gtup, a_gnil, a_gcons, a_aug, a_augS, a_ipI, a_var, a_c, a_op, a_un, a_rI, a_rI0, a_rU, a_eqI, a_neI, a_eqB, a_neB, a_tB, a_test, a_and, a_or, a_not, a_andV, a_orV, a_notV, a_ifE, a_chain, a_nil, a_cons, a_lst, a_tup, a_call, a_cb, a_bm0, a_bm, a_sl, a_nopart, a_part, a_tyI, a_for, a_comp, a_ilist, a_itup, a_irng1, a_irng2, a_irng3, a_cxK, a_irev, a_ienum, a_cat, a_rep, a_pop, a_clear, a_rslL, a_ixL, a_ixT, a_setL, a_app]); (try simp only [a_ipC, a_izip, a_tComp2, a_tryAs, a_drop_nx, a_raise, a_try, a_compIf, a_seq, a_next, a_brk, a_cnt, a_drop, a_ret, a_retN, a_if, a_asg, a_gname, a_gsub, a_gtup, a_gnil, a_gcons, a_aug, a_augS, a_ipI, a_var, a_c, a_op, a_un, a_rI, a_rI0, a_rU, a_eqI, a_neI, a_eqB, a_neB, a_tB, a_test, a_and, a_or, a_not, a_andV, a_orV, a_notV, a_ifE, a_chain, a_nil, a_cons, a_lst, a_tup, a_call, a_cb, a_bm0, a_bm, a_sl, a_nopart, a_part, a_tyI, a_for, a_comp, a_ilist, a_itup, a_irng1, a_irng2, a_irng3, a_cxK, and_assoc, a_irev, a_ienum, a_cat, a_rep, a_pop, a_clear, a_rslL, a_ixL, a_ixT, a_setL, a_app,
    List.getElem?_cons_zero, List.getElem?_cons_succ, List.set_cons_zero, List.set_cons_succ, Option.some.injEq, V.int.injEq, V.bl.injEq, V.ref.injEq, V.ty.injEq, exists_eq_left', exists_eq_left, exists_and_left, decide_eq_true_eq, List.cons_append, List.nil_append, List.append_nil, List.cons.injEq, and_true, true_and, Bool.not_eq_true', decide_eq_false_iff_not, ite_true, ite_false, Bool.false_eq_true, if_true, if_false, List.length_cons, List.length_nil, L2.start, List.map_cons, List.map_nil, List.replicate_succ, List.replicate_zero])
  refine ⟨_, .inl (SqL.of upd_same), ?_⟩
  rw [List.length_map]
  have fin : Nml ys → Q (.ref L) (upd H L (.lst (ys.map V.int))) := fun hn => by
    refine q L _ (same_upd hL _) hL ?_
    rw [upd_same, ← he, nml_trim hn]
  refine ite2 (fun h => ?_) (fun h => ?_)
  · have hne : ys ≠ [] := by intro z; rw [z] at h; simp at h
    refine ⟨_, SqL.of upd_same, _, at_last hne, ?_⟩
    (try dsimp only [a_ipC, a_izip, a_tComp2, a_tryAs, a_drop_nx, a_raise, a_try, a_compIf, a_seq, a_next, a_brk, a_cnt, a_drop, a_ret, a_retN, a_if, a_asg, a_gname, a_gsub, a_gtup, a_gnil, a_gcons, a_aug, a_augS, a_ipI, a_var, a_c, a_op, a_un, a_rI, a_rI0, a_rU, a_eqI, a_neI, a_eqB, a_neB, a_tB, a_test, a_and, a_or, a_not, a_andV, a_orV, a_notV, a_ifE, a_chain, a_nil, a_cons, a_lst, a_tup, a_call, a_cb, a_bm0, a_bm, a_sl, a_nopart, a_part, a_tyI, a_for, a_comp, a_ilist, a_itup, a_irng1, a_irng2, a_irng3, a_cxK, a_irev, a_ienum, a_cat, a_rep, a_pop, a_clear, a_rslL, a_ixL, a_ixT, a_setL, a_app]); (try simp only [a_ipC, a_izip, a_tComp2, a_tryAs, a_drop_nx, a_raise, a_try, a_compIf, a_seq, a_next, a_brk, a_cnt, a_drop, a_ret, a_retN, a_if, a_asg, a_gname, a_gsub, a_gtup, a_gnil, a_gcons, a_aug, a_augS, a_ipI, a_var, a_c, a_op, a_un, a_rI, a_rI0, a_rU, a_eqI, a_neI, a_eqB, a_neB, a_tB, a_test, a_and, a_or, a_not, a_andV, a_orV, a_notV, a_ifE, a_chain, a_nil, a_cons, a_lst, a_tup, a_call, a_cb, a_bm0, a_bm, a_sl, a_nopart, a_part, a_tyI, a_for, a_comp, a_ilist, a_itup, a_irng1, a_irng2, a_irng3, a_cxK, and_assoc, a_irev, a_ienum, a_cat, a_rep, a_pop, a_clear, a_rslL, a_ixL, a_ixT, a_setL, a_app,
    List.getElem?_cons_zero, List.getElem?_cons_succ, List.set_cons_zero, List.set_cons_succ, Option.some.injEq, V.int.injEq, V.bl.injEq, V.ref.injEq, V.ty.injEq, exists_eq_left', exists_eq_left, exists_and_left, decide_eq_true_eq, List.cons_append, List.nil_append, List.append_nil, List.cons.injEq, and_true, true_and, Bool.not_eq_true', decide_eq_false_iff_not, ite_true, ite_false, Bool.false_eq_true, if_true, if_false, List.length_cons, List.length_nil, L2.start, List.map_cons, List.map_nil, List.replicate_succ, List.replicate_zero])
    refine ite2 (fun h0 => ?_) (fun h0 => ?_)
    · refine ⟨fun σ' H1 => σ' = [some (V.ref a), some (V.ref L)] ∧ H1 = upd H L (.lst (ys.dropLast.map V.int)), ?_, a_tyL (SqL.of upd_same), _, upd_same, V.int (ys.getLast hne), ?_, rfl, ?_⟩
      · rintro σ' H1 ⟨rfl, rfl⟩
        exact ⟨ys.length - 1, by omega, ys.dropLast, List.length_dropLast, rfl, rfl, by rw [trim_drop hne h0]; exact he⟩
      · rw [List.getElem?_map, List.length_map, ← List.getLast?_eq_getElem?, List.getLast?_eq_some_getLast hne]; rfl
      · rw [upd_upd, ← List.map_dropLast]
    · refine fin (nml_last.mpr fun x hx => ?_)
      rw [List.getLast?_eq_some_getLast hne] at hx
      rw [← Option.some.inj hx]; exact h0
  · have hn : ys = [] := List.eq_nil_of_length_eq_zero (by omega)
    exact fin (by rw [hn]; exact nml_nil)

theorem rep_zero (k : Nat) : (List.replicate k [V.int 0]).flatten = (List.replicate k (0 : Int)).map V.int := by
  induction k with
  | zero => rfl
  | succ k ih => rw [List.replicate_succ, List.flatten_cons, ih, List.replicate_succ]; rfl
theorem co_rep (k j : Nat) : co (List.replicate k 0) j = 0 := by
  unfold co
  rw [List.getD_eq_getElem?_getD, List.getElem?_replicate]
  split <;> rfl
/-! #### _law_product -/
theorem sumN_ext {n m : Nat} {f : Nat → Int} (h : n ≤ m) (hz : ∀ j, n ≤ j → j < m → f j = 0) : sumN m f = sumN n f := by
  induction m with
  | zero => rw [show n = 0 by omega]
  | succ m ih =>
    by_cases e : n = m + 1
    · rw [e]
    · simp only [sumN]
      rw [ih (by omega) fun j h1 h2 => hz j h1 (by omega), hz m (by omega) (by omega)]; omega
theorem pm_cv (xs ys : List Int) (k : Nat) : pm (co xs) (co ys) k = cv xs ys xs.length k := by
  have e1 : pm (co xs) (co ys) k = sumN (k + 1) fun j => co xs j * cz ys k j := by
    unfold pm
    exact sumN_congr fun j hj => by unfold cz; rw [if_pos (by omega)]
  have e2 : sumN (k + 1 + xs.length) (fun j => co xs j * cz ys k j) = sumN (k + 1) fun j => co xs j * cz ys k j :=
    sumN_ext (by omega) fun j h1 _ => by unfold cz; rw [if_neg (by omega)]; simp
  have e3 : sumN (k + 1 + xs.length) (fun j => co xs j * cz ys k j) = sumN xs.length fun j => co xs j * cz ys k j :=
    sumN_ext (by omega) fun j h1 _ => by rw [co_ge h1]; simp
  rw [e1, ← e2, e3]; rfl

def spProd7 (K : PySem.W.Frag) : Sp := fun vs H Q _ => ∃ (a b : Addr) (xs ys : List Int) (k l : Nat), vs = [.ref a, .ref b] ∧ SqL K H a (xs.map V.int) ∧ SqL K H b (ys.map V.int) ∧ xs.length ≤ 40 ∧ ys.length ≤ 40 ∧ (∀ x ∈ xs, Bd k x) ∧ (∀ y ∈ ys, Bd l y) ∧ k + l ≤ 5000 ∧
  ∀ ws : List Int, Nml ws → ws.length ≤ xs.length + ys.length → (∀ j, co ws j = pm (co xs) (co ys) j) → newL H Q (ws.map V.int)
theorem ok__law_product {P : Program} {w : World} {K : PySem.W.Frag} {mg : Str → Option Value} {base : Heap} (T : Tx K mg) : FnOk P w K mg base CX0 2 T.a__law_product T.fd__law_product ["_law_one", "_law_other"] (spProd7 K) := by
  refine T.F__law_product.ok sc__law_product (fun vs H Q E h => ?_) (fun cdv A outer s H vs Q E hr h => ?_)
  · obtain ⟨a, b, xs, ys, k0, l0, rfl, _⟩ := h
    rfl
  obtain ⟨a, b, xs, ys, k0, l0, rfl, hA, hB, la, lb, ba, bb, hkl, q⟩ := h
  refine ⟨_, ((pss_cons (ps_set (i := 2) sc__law_product.nd rfl (Or.inl rfl) (pe_op op_rep (pe_lst (pa_cons pe_int pa_nil)) (pe_op op_add (pe_callB call_len_seq rfl T.z_len bt_len (pa_cons (pv 0) pa_nil)) (pe_callB call_len_seq rfl T.z_len bt_len (pa_cons (pv 1) pa_nil)))))
    (pss_cons (ps_for PassesOwn.never rfl (pi_range1 rfl T.z_range (pa_cons (pe_callB call_len_seq rfl T.z_len bt_len (pa_cons (pv 0) pa_nil)) pa_nil)) (pg_name (i := 3) sc__law_product.nd rfl (Or.inl rfl)) (pss_one (ps_for PassesOwn.never rfl (pi_range1 rfl T.z_range (pa_cons (pe_callB call_len_seq rfl T.z_len bt_len (pa_cons (pv 1) pa_nil)) pa_nil)) (pg_name (i := 4) sc__law_product.nd rfl (Or.inl rfl)) (pss_one (ps_asg (pe_op op_add (pe_ix ix_list (pv 2) (pe_op op_add (pv 3) (pv 4)) (fun _ _ => rfl)) (pe_op op_mulZ (pe_ix ix_list (pv 0) (pv 3) (fun _ _ => rfl)) (pe_ix ix_list (pv 1) (pv 4) (fun _ _ => rfl)))) (pg_sub (pv 2) (pe_op op_add (pv 3) (pv 4)) set_list))))))
    (pss_one (ps_ret (pe_call (FnOk.mono (ok__law_cut T) (by decide)) hr rfl T.m__law_cut T.F__law_cut.kp T.b__law_cut .nil pass0 (pa_cons (pv 2) pa_nil))))))), ?_⟩
  (try dsimp only [a_ipC, a_izip, a_tComp2, a_tryAs, a_drop_nx, a_raise, a_try, a_compIf, a_seq, a_next, a_brk, a_cnt, a_drop, a_ret, a_retN, a_if, a_asg, a_gname, a_gsub, a_gtup, a_gnil, a_gcons, a_aug, a_augS, a_ipI, a_var, a_c, a_op, a_un, a_rI, a_rI0, a_rU, a_eqI, a_neI, a_eqB, a_neB, a_tB, a_test, a_and, a_or, a_not, a_andV, a_orV, a_notV, a_ifE, a_chain, a_nil, a_cons, a_lst, a_tup, a_call, a_cb, a_bm0, a_bm, a_sl, a_nopart, a_part, a_tyI, a_for, a_comp, a_ilist, a_itup, a_irng1, a_irng2, a_irng3, a_cxK, a_irev, a_ienum, a_cat, a_rep, a_pop, a_clear, a_rslL, a_ixL, a_ixT, a_setL, a_app]); (try simp only [a_ipC, a_izip, a_tComp2, a_tryAs, a_drop_nx, a_raise, a_try, a_compIf, a_seq, a_next, a_brk, a_cnt, a_drop, a_ret, a_retN, a_if, a_asg, a_gname, a_gsub, a_gtup, a_gnil, a_gcons, a_aug, a_augS, a_ipI, a_var, a_c, a_op, a_un, a_rI, a_rI0, a_rU, a_eqI, a_neI, a_eqB, a_neB, a_tB, a_test, a_and, a_or, a_not, a_andV, a_orV, a_notV, a_ifE, a_chain, a_nil, a_cons, a_lst, a_tup, a_call, a_cb, a_bm0, a_bm, a_sl, a_nopart, a_part, a_tyI, a_for, a_comp, a_ilist, a_itup, a_irng1, a_irng2, a_irng3, a_cxK, and_assoc, a_irev, a_ienum, a_cat, a_rep, a_pop, a_clear, a_rslL, a_ixL, a_ixT, a_setL, a_app,
    List.getElem?_cons_zero, List.getElem?_cons_succ, List.set_cons_zero, List.set_cons_succ, Option.some.injEq, V.int.injEq, V.bl.injEq, V.ref.injEq, V.ty.injEq, exists_eq_left', exists_eq_left, exists_and_left, decide_eq_true_eq, List.cons_append, List.nil_append, List.append_nil, List.cons.injEq, and_true, true_and, Bool.not_eq_true', decide_eq_false_iff_not, ite_true, ite_false, Bool.false_eq_true, if_true, if_false, List.length_cons, List.length_nil, L2.start, List.map_cons, List.map_nil, List.replicate_succ, List.replicate_zero])
  refine ⟨by decide, fun p hp => ?_⟩
  have s1 := same_upd hp (.lst [V.int 0])
  refine ⟨_, .inl (s1.seq hA), _, .inl (s1.seq hB), _, upd_same, ?_⟩
  rw [List.length_map, List.length_map, rep_zero]
  obtain ⟨k, hk⟩ : ∃ k : Nat, (xs.length : Int) + (ys.length : Int) = (k : Int) := ⟨xs.length + ys.length, by omega⟩
  have hk1 : k = xs.length + ys.length := by omega
  rw [hk, Int.toNat_natCast]
  refine ⟨by omega, by omega, Nat.le_of_lt (small1000 (by simp; omega)), fun F hF => ?_⟩
  have s4 := s1.trans (same_upd hF (.lst ((List.replicate k (0 : Int)).map V.int)))
  have f0 := s1.free hF
  have h4 : upd (upd H p (.lst [V.int 0])) F (.lst ((List.replicate k (0 : Int)).map V.int)) F = _ := upd_same
  generalize upd (upd H p (.lst [V.int 0])) F (.lst ((List.replicate k (0 : Int)).map V.int)) = H4 at s4 h4 ⊢
  refine ⟨_, .inl (s4.seq hA), ?_⟩
  rw [List.length_map, Int.toNat_natCast]
  refine ⟨by omega, by omega, ?_⟩
  obtain ⟨Pv, hPv⟩ : ∃ Pv : Nat → L2.St → Hp → Prop, ∀ l σ H', Pv l σ H' ↔ ∃ (zs : List Int) (r1 r2 : Option V), σ = [some (V.ref a), some (V.ref b), some (V.ref F), r1, r2] ∧ H' F = some (.lst (zs.map V.int)) ∧ zs.length = k ∧
    (∀ j, co zs j = cv xs ys l j) ∧ Same H H' := ⟨_, fun _ _ _ => Iff.rfl⟩
  refine lp_range Pv ((hPv _ _ _).mpr ⟨_, none, none, rfl, h4, by simp, fun j => by rw [co_rep]; rfl, s4⟩) ?_ ?_
  · intro l σ H' hi hp'
    obtain ⟨zs, r1, r2, rfl, hz, lz, cz', sz⟩ := (hPv _ _ _).mp hp'
    have e1 : (0 : Int) + (l : Int) = (l : Int) := Int.zero_add _
    (try dsimp only [a_ipC, a_izip, a_tComp2, a_tryAs, a_drop_nx, a_raise, a_try, a_compIf, a_seq, a_next, a_brk, a_cnt, a_drop, a_ret, a_retN, a_if, a_asg, a_gname, a_gsub, a_gtup, a_gnil, a_gcons, a_aug, a_augS, a_ipI, a_var, a_c, a_op, a_un, a_rI, a_rI0, a_rU, a_eqI, a_neI, a_eqB, a_neB, a_tB, a_test, a_and, a_or, a_not, a_andV, a_orV, a_notV, a_ifE, a_chain, a_nil, a_cons, a_lst, a_tup, a_call, a_cb, a_bm0, a_bm, a_sl, a_nopart, a_part, a_tyI, a_for, a_comp, a_ilist, a_itup, a_irng1, a_irng2, a_irng3, a_cxK, a_irev, a_ienum, a_cat, a_rep, a_pop, a_clear, a_rslL, a_ixL, a_ixT, a_setL, a_app]); (try simp only [a_ipC, a_izip, a_tComp2, a_tryAs, a_drop_nx, a_raise, a_try, a_compIf, a_seq, a_next, a_brk, a_cnt, a_drop, a_ret, a_retN, a_if, a_asg, a_gname, a_gsub, a_gtup, a_gnil, a_gcons, a_aug, a_augS, a_ipI, a_var, a_c, a_op, a_un, a_rI, a_rI0, a_rU, a_eqI, a_neI, a_eqB, a_neB, a_tB, a_test, a_and, a_or, a_not, a_andV, a_orV, a_notV, a_ifE, a_chain, a_nil, a_cons, a_lst, a_tup, a_call, a_cb, a_bm0, a_bm, a_sl, a_nopart, a_part, a_tyI, a_for, a_comp, a_ilist, a_itup, a_irng1, a_irng2, a_irng3, a_cxK, and_assoc, a_irev, a_ienum, a_cat, a_rep, a_pop, a_clear, a_rslL, a_ixL, a_ixT, a_setL, a_app,
    List.getElem?_cons_zero, List.getElem?_cons_succ, List.set_cons_zero, List.set_cons_succ, Option.some.injEq, V.int.injEq, V.bl.injEq, V.ref.injEq, V.ty.injEq, exists_eq_left', exists_eq_left, exists_and_left, decide_eq_true_eq, List.cons_append, List.nil_append, List.append_nil, List.cons.injEq, and_true, true_and, Bool.not_eq_true', decide_eq_false_iff_not, ite_true, ite_false, Bool.false_eq_true, if_true, if_false, List.length_cons, List.length_nil, L2.start, List.map_cons, List.map_nil, List.replicate_succ, List.replicate_zero, e1])
    refine ⟨_, .inl (sz.seq hB), ?_⟩
    rw [List.length_map, Int.toNat_natCast]
    refine ⟨by omega, by omega, ?_⟩
    obtain ⟨Pw, hPw⟩ : ∃ Pw : Nat → L2.St → Hp → Prop, ∀ j σ H', Pw j σ H' ↔ ∃ (zs : List Int) (r2 : Option V), σ = [some (V.ref a), some (V.ref b), some (V.ref F), some (V.int l), r2] ∧ H' F = some (.lst (zs.map V.int)) ∧ zs.length = k ∧
      (∀ t, co zs t = cv xs ys l t + if l ≤ t ∧ t < l + j then xs[l] * co ys (t - l) else 0) ∧ Same H H' := ⟨_, fun _ _ _ => Iff.rfl⟩
    refine lp_range Pw ((hPw _ _ _).mpr ⟨zs, _, rfl, hz, lz, fun t => by rw [cz' t, if_neg (show ¬ (l ≤ t ∧ t < l + 0) by omega)]; omega, sz⟩) ?_ ?_
    · intro j σ H' hj hp'
      obtain ⟨zs, r2, rfl, hz, lz, cz', sz⟩ := (hPw _ _ _).mp hp'
      have e2 : (0 : Int) + (j : Int) = (j : Int) := Int.zero_add _
      have eij : (l : Int) + (j : Int) = ((l + j : Nat) : Int) := rfl
      (try dsimp only [a_ipC, a_izip, a_tComp2, a_tryAs, a_drop_nx, a_raise, a_try, a_compIf, a_seq, a_next, a_brk, a_cnt, a_drop, a_ret, a_retN, a_if, a_asg, a_gname, a_gsub, a_gtup, a_gnil, a_gcons, a_aug, a_augS, a_ipI, a_var, a_c, a_op, a_un, a_rI, a_rI0, a_rU, a_eqI, a_neI, a_eqB, a_neB, a_tB, a_test, a_and, a_or, a_not, a_andV, a_orV, a_notV, a_ifE, a_chain, a_nil, a_cons, a_lst, a_tup, a_call, a_cb, a_bm0, a_bm, a_sl, a_nopart, a_part, a_tyI, a_for, a_comp, a_ilist, a_itup, a_irng1, a_irng2, a_irng3, a_cxK, a_irev, a_ienum, a_cat, a_rep, a_pop, a_clear, a_rslL, a_ixL, a_ixT, a_setL, a_app]); (try simp only [a_ipC, a_izip, a_tComp2, a_tryAs, a_drop_nx, a_raise, a_try, a_compIf, a_seq, a_next, a_brk, a_cnt, a_drop, a_ret, a_retN, a_if, a_asg, a_gname, a_gsub, a_gtup, a_gnil, a_gcons, a_aug, a_augS, a_ipI, a_var, a_c, a_op, a_un, a_rI, a_rI0, a_rU, a_eqI, a_neI, a_eqB, a_neB, a_tB, a_test, a_and, a_or, a_not, a_andV, a_orV, a_notV, a_ifE, a_chain, a_nil, a_cons, a_lst, a_tup, a_call, a_cb, a_bm0, a_bm, a_sl, a_nopart, a_part, a_tyI, a_for, a_comp, a_ilist, a_itup, a_irng1, a_irng2, a_irng3, a_cxK, and_assoc, a_irev, a_ienum, a_cat, a_rep, a_pop, a_clear, a_rslL, a_ixL, a_ixT, a_setL, a_app,
    List.getElem?_cons_zero, List.getElem?_cons_succ, List.set_cons_zero, List.set_cons_succ, Option.some.injEq, V.int.injEq, V.bl.injEq, V.ref.injEq, V.ty.injEq, exists_eq_left', exists_eq_left, exists_and_left, decide_eq_true_eq, List.cons_append, List.nil_append, List.append_nil, List.cons.injEq, and_true, true_and, Bool.not_eq_true', decide_eq_false_iff_not, ite_true, ite_false, Bool.false_eq_true, if_true, if_false, List.length_cons, List.length_nil, L2.start, List.map_cons, List.map_nil, List.replicate_succ, List.replicate_zero, e2, eij])
      have hiz : l + j < zs.length := by omega
      refine ⟨_, SqL.of hz, _, at_int hiz, _, sz.seq hA, _, at_int hi, _, sz.seq hB, _, at_int hj, ?_⟩
      (try dsimp only [a_ipC, a_izip, a_tComp2, a_tryAs, a_drop_nx, a_raise, a_try, a_compIf, a_seq, a_next, a_brk, a_cnt, a_drop, a_ret, a_retN, a_if, a_asg, a_gname, a_gsub, a_gtup, a_gnil, a_gcons, a_aug, a_augS, a_ipI, a_var, a_c, a_op, a_un, a_rI, a_rI0, a_rU, a_eqI, a_neI, a_eqB, a_neB, a_tB, a_test, a_and, a_or, a_not, a_andV, a_orV, a_notV, a_ifE, a_chain, a_nil, a_cons, a_lst, a_tup, a_call, a_cb, a_bm0, a_bm, a_sl, a_nopart, a_part, a_tyI, a_for, a_comp, a_ilist, a_itup, a_irng1, a_irng2, a_irng3, a_cxK, a_irev, a_ienum, a_cat, a_rep, a_pop, a_clear, a_rslL, a_ixL, a_ixT, a_setL, a_app]); (try simp only [a_ipC, a_izip, a_tComp2, a_tryAs, a_drop_nx, a_raise, a_try, a_compIf, a_seq, a_next, a_brk, a_cnt, a_drop, a_ret, a_retN, a_if, a_asg, a_gname, a_gsub, a_gtup, a_gnil, a_gcons, a_aug, a_augS, a_ipI, a_var, a_c, a_op, a_un, a_rI, a_rI0, a_rU, a_eqI, a_neI, a_eqB, a_neB, a_tB, a_test, a_and, a_or, a_not, a_andV, a_orV, a_notV, a_ifE, a_chain, a_nil, a_cons, a_lst, a_tup, a_call, a_cb, a_bm0, a_bm, a_sl, a_nopart, a_part, a_tyI, a_for, a_comp, a_ilist, a_itup, a_irng1, a_irng2, a_irng3, a_cxK, and_assoc, a_irev, a_ienum, a_cat, a_rep, a_pop, a_clear, a_rslL, a_ixL, a_ixT, a_setL, a_app,
    List.getElem?_cons_zero, List.getElem?_cons_succ, List.set_cons_zero, List.set_cons_succ, Option.some.injEq, V.int.injEq, V.bl.injEq, V.ref.injEq, V.ty.injEq, exists_eq_left', exists_eq_left, exists_and_left, decide_eq_true_eq, List.cons_append, List.nil_append, List.append_nil, List.cons.injEq, and_true, true_and, Bool.not_eq_true', decide_eq_false_iff_not, ite_true, ite_false, Bool.false_eq_true, if_true, if_false, List.length_cons, List.length_nil, L2.start, List.map_cons, List.map_nil, List.replicate_succ, List.replicate_zero])
      refine ⟨(ba _ (List.getElem_mem hi)).fits (bb _ (List.getElem_mem hj)) (by omega), _, hz, l + j, ixN_nat (by rw [List.length_map]; exact hiz), (hPw _ _ _).mpr ⟨zs.set (l + j) (zs[l + j] + xs[l] * ys[j]), _, rfl, by rw [upd_same, map_set], by rw [List.length_set]; exact lz, fun t => ?_, sz.more f0⟩⟩
      rw [co_set _ _ _ _ hiz]
      by_cases e : t = l + j
      · subst e
        have := cz' (l + j)
        rw [if_neg (show ¬ (l ≤ l + j ∧ l + j < l + j) by omega), co_lt hiz] at this
        rw [if_pos (show l + j = l + j from rfl), if_pos (show l ≤ l + j ∧ l + j < l + (j + 1) by omega), show l + j - l = j by omega, co_lt hj]; omega
      · rw [if_neg e, cz' t]
        by_cases h3 : l ≤ t ∧ t < l + j
        · rw [if_pos h3, if_pos (show l ≤ t ∧ t < l + (j + 1) by omega)]
        · rw [if_neg h3, if_neg (show ¬ (l ≤ t ∧ t < l + (j + 1)) by omega)]
    · intro σ H' hp'
      obtain ⟨zs, r2, rfl, hz, lz, cz', sz⟩ := (hPw _ _ _).mp hp'
      refine (hPv _ _ _).mpr ⟨zs, _, _, rfl, hz, lz, fun t => ?_, sz⟩
      rw [cz' t]
      have e : cv xs ys (l + 1) t = cv xs ys l t + co xs l * cz ys t l := rfl
      rw [e, co_lt hi]
      unfold cz
      by_cases h2 : l ≤ t
      · rw [if_pos h2]
        by_cases h3 : t < l + ys.length
        · rw [if_pos ⟨h2, h3⟩]
        · rw [if_neg (by omega), co_ge (xs := ys) (by omega), Int.mul_zero]
      · rw [if_neg (by omega), if_neg h2, Int.mul_zero]
  · intro σ H' hp'
    obtain ⟨zs, r1, r2, rfl, hz, lz, cz', sz⟩ := (hPv _ _ _).mp hp'
    (try dsimp only [a_ipC, a_izip, a_tComp2, a_tryAs, a_drop_nx, a_raise, a_try, a_compIf, a_seq, a_next, a_brk, a_cnt, a_drop, a_ret, a_retN, a_if, a_asg, a_gname, a_gsub, a_gtup, a_gnil, a_gcons, a_aug, a_augS, a_ipI, a_var, a_c, a_op, a_un, a_rI, a_rI0, a_rU, a_eqI, a_neI, a_eqB, a_neB, a_tB, a_test, a_and, a_or, a_not, a_andV, a_orV, a_notV, a_ifE, a_chain, a_nil, a_cons, a_lst, a_tup, a_call, a_cb, a_bm0, a_bm, a_sl, a_nopart, a_part, a_tyI, a_for, a_comp, a_ilist, a_itup, a_irng1, a_irng2, a_irng3, a_cxK, a_irev, a_ienum, a_cat, a_rep, a_pop, a_clear, a_rslL, a_ixL, a_ixT, a_setL, a_app]); (try simp only [a_ipC, a_izip, a_tComp2, a_tryAs, a_drop_nx, a_raise, a_try, a_compIf, a_seq, a_next, a_brk, a_cnt, a_drop, a_ret, a_retN, a_if, a_asg, a_gname, a_gsub, a_gtup, a_gnil, a_gcons, a_aug, a_augS, a_ipI, a_var, a_c, a_op, a_un, a_rI, a_rI0, a_rU, a_eqI, a_neI, a_eqB, a_neB, a_tB, a_test, a_and, a_or, a_not, a_andV, a_orV, a_notV, a_ifE, a_chain, a_nil, a_cons, a_lst, a_tup, a_call, a_cb, a_bm0, a_bm, a_sl, a_nopart, a_part, a_tyI, a_for, a_comp, a_ilist, a_itup, a_irng1, a_irng2, a_irng3, a_cxK, and_assoc, a_irev, a_ienum, a_cat, a_rep, a_pop, a_clear, a_rslL, a_ixL, a_ixT, a_setL, a_app,
    List.getElem?_cons_zero, List.getElem?_cons_succ, List.set_cons_zero, List.set_cons_succ, Option.some.injEq, V.int.injEq, V.bl.injEq, V.ref.injEq, V.ty.injEq, exists_eq_left', exists_eq_left, exists_and_left, decide_eq_true_eq, List.cons_append, List.nil_append, List.append_nil, List.cons.injEq, and_true, true_and, Bool.not_eq_true', decide_eq_false_iff_not, ite_true, ite_false, Bool.false_eq_true, if_true, if_false, List.length_cons, List.length_nil, L2.start, List.map_cons, List.map_nil, List.replicate_succ, List.replicate_zero])
    refine ⟨F, zs, rfl, SqL.of hz, by omega, fun R H2 s2 nR eR => q (trim zs) (trim_nml _) (Nat.le_trans (trim_len _) (by omega)) (fun j => ?_) R _ (sz.trans s2) (sz.free nR) eR⟩
    rw [trim_co, cz' j, pm_cv]

/-! #### sizes of what is shifted -/
theorem synth_bd {b : Int} {k l : Nat} (hb : Bd l b) : ∀ xs : List Int, (∀ x ∈ xs, Bd k x) → ∀ y ∈ synth b xs, Bd (k + (l + 1) * xs.length) y
  | [], _, _, h => nomatch h
  | c :: r, hx, y, hy => by
    have ih := synth_bd hb r fun x hx' => hx x (List.mem_cons_of_mem _ hx')
    have hc : Bd k c := hx c List.mem_cons_self
    have e : (l + 1) * (c :: r).length = (l + 1) * r.length + (l + 1) := by rw [List.length_cons, Nat.mul_succ]
    have hh : Bd (k + (l + 1) * r.length) (hd (synth b r)) := by
      cases q : synth b r with
      | nil => exact Bd.zero _
      | cons x s => exact ih x (by rw [q]; exact List.mem_cons_self)
    rcases List.mem_cons.mp hy with rfl | hy
    · exact ((hc.mono (by omega : k ≤ l + (k + (l + 1) * r.length))).add (hb.mul hh)).mono (by omega)
    · exact (ih y hy).mono (by omega)
theorem shiftN_bd {b : Int} {l : Nat} (hb : Bd l b) : ∀ (n : Nat) (k : Nat) (xs : List Int), xs.length ≤ 64 → (∀ x ∈ xs, Bd k x) → ∀ y ∈ shiftN b n xs, Bd (k + (l + 1) * (64 * n)) y
  | 0, _, _, _, _, _, h => nomatch h
  | n + 1, k, xs, hl, hx, y, hy => by
    have h1 := synth_bd hb xs hx
    have m1 := Nat.mul_le_mul_left (l + 1) hl
    have h2 : ∀ x ∈ synth b xs, Bd (k + (l + 1) * 64) x := fun x hx' => (h1 x hx').mono (by omega)
    have e : (l + 1) * (64 * (n + 1)) = (l + 1) * (64 * n) + (l + 1) * 64 := by rw [Nat.mul_succ, Nat.mul_add]
    rcases List.mem_cons.mp hy with rfl | hy
    · have hh : Bd (k + (l + 1) * 64) (hd (synth b xs)) := by
        cases q : synth b xs with
        | nil => exact Bd.zero _
        | cons x s => exact h2 x (by rw [q]; exact List.mem_cons_self)
      exact hh.mono (by omega)
    · exact (shiftN_bd hb n (k + (l + 1) * 64) (synth b xs).tail (by rw [List.length_tail, synth_len]; omega) (fun x hx' => h2 x (List.mem_of_mem_tail hx')) y hy).mono (by omega)
theorem shift_bd {b : Int} {k l : Nat} {xs : List Int} (hb : Bd l b) (hl : xs.length ≤ 64) (hx : ∀ x ∈ xs, Bd k x) : ∀ y ∈ shiftL b xs, Bd (k + (l + 1) * (64 * xs.length)) y := shiftN_bd hb xs.length k xs hl hx

/-! #### _law_moved -/
def spMoved (K : PySem.W.Frag) : Sp := fun vs H Q _ => ∃ (a : Addr) (xs : List Int) (m : Int), vs = [.ref a, .int m] ∧ SqL K H a (xs.map V.int) ∧ xs.length ≤ 20 ∧ (∀ x ∈ xs, Bd 220 x) ∧ Bd 10 m ∧ newL H Q ((shiftL m xs).map V.int)
theorem ok__law_moved {P : Program} {w : World} {K : PySem.W.Frag} {mg : Str → Option Value} {base : Heap} (T : Tx K mg) : FnOk P w K mg base CX0 1 T.a__law_moved T.fd__law_moved ["_law_poly_here", "_law_by"] (spMoved K) := by
  refine T.F__law_moved.ok sc__law_moved (fun vs H Q E h => ?_) (fun cdv A outer s H vs Q E hr h => ?_)
  · obtain ⟨a, xs, m, rfl, _⟩ := h
    rfl
  obtain ⟨a, xs, m, rfl, hS, hl, hk, hb, q⟩ := h
  refine ⟨_, ((pss_cons (ps_set (i := 2) sc__law_moved.nd rfl (Or.inl rfl) (pe_lst pa_nil))
    (pss_cons (ps_for PassesOwn.never rfl (pi_rev rfl T.z_reversed (pa_cons (pv 0) pa_nil)) (pg_name (i := 3) sc__law_moved.nd rfl (Or.inl rfl)) (pss_cons (ps_set (i := 4) sc__law_moved.nd rfl (Or.inl rfl) (pe_op op_cat (pe_lst (pa_cons pe_int pa_nil)) (pv 2)))
    (pss_cons (ps_for PassesOwn.never rfl (pi_range1 rfl T.z_range (pa_cons (pe_callB call_len_seq rfl T.z_len bt_len (pa_cons (pv 2) pa_nil)) pa_nil)) (pg_name (i := 5) sc__law_moved.nd rfl (Or.inl rfl)) (pss_one (ps_asg (pe_op op_add (pe_ix ix_list (pv 4) (pv 5) (fun _ _ => rfl)) (pe_op op_mulZ (pv 1) (pe_ix ix_list (pv 2) (pv 5) (fun _ _ => rfl)))) (pg_sub (pv 4) (pv 5) set_list))))
    (pss_cons (ps_asg (pe_op op_add (pe_ix ix_list (pv 4) pe_int (fun _ _ => rfl)) (pv 3)) (pg_sub (pv 4) pe_int set_list))
    (pss_one (ps_set (i := 2) sc__law_moved.nd rfl (Or.inl rfl) (pv 4)))))))
    (pss_one (ps_ret (pv 2)))))), ?_⟩
  (try dsimp only [a_ipC, a_izip, a_tComp2, a_tryAs, a_drop_nx, a_raise, a_try, a_compIf, a_seq, a_next, a_brk, a_cnt, a_drop, a_ret, a_retN, a_if, a_asg, a_gname, a_gsub, a_gtup, a_gnil, a_gcons, a_aug, a_augS, a_ipI, a_var, a_c, a_op, a_un, a_rI, a_rI0, a_rU, a_eqI, a_neI, a_eqB, a_neB, a_tB, a_test, a_and, a_or, a_not, a_andV, a_orV, a_notV, a_ifE, a_chain, a_nil, a_cons, a_lst, a_tup, a_call, a_cb, a_bm0, a_bm, a_sl, a_nopart, a_part, a_tyI, a_for, a_comp, a_ilist, a_itup, a_irng1, a_irng2, a_irng3, a_cxK, a_irev, a_ienum, a_cat, a_rep, a_pop, a_clear, a_rslL, a_ixL, a_ixT, a_setL, a_app]); (try simp only [a_ipC, a_izip, a_tComp2, a_tryAs, a_drop_nx, a_raise, a_try, a_compIf, a_seq, a_next, a_brk, a_cnt, a_drop, a_ret, a_retN, a_if, a_asg, a_gname, a_gsub, a_gtup, a_gnil, a_gcons, a_aug, a_augS, a_ipI, a_var, a_c, a_op, a_un, a_rI, a_rI0, a_rU, a_eqI, a_neI, a_eqB, a_neB, a_tB, a_test, a_and, a_or, a_not, a_andV, a_orV, a_notV, a_ifE, a_chain, a_nil, a_cons, a_lst, a_tup, a_call, a_cb, a_bm0, a_bm, a_sl, a_nopart, a_part, a_tyI, a_for, a_comp, a_ilist, a_itup, a_irng1, a_irng2, a_irng3, a_cxK, and_assoc, a_irev, a_ienum, a_cat, a_rep, a_pop, a_clear, a_rslL, a_ixL, a_ixT, a_setL, a_app,
    List.getElem?_cons_zero, List.getElem?_cons_succ, List.set_cons_zero, List.set_cons_succ, Option.some.injEq, V.int.injEq, V.bl.injEq, V.ref.injEq, V.ty.injEq, exists_eq_left', exists_eq_left, exists_and_left, decide_eq_true_eq, List.cons_append, List.nil_append, List.append_nil, List.cons.injEq, and_true, true_and, Bool.not_eq_true', decide_eq_false_iff_not, ite_true, ite_false, Bool.false_eq_true, if_true, if_false, List.length_cons, List.length_nil, L2.start, List.map_cons, List.map_nil, List.replicate_succ, List.replicate_zero])
  refine ⟨Nat.zero_le _, fun F0 hF0 => ⟨_, (same_upd hF0 _).seq hS, ?_⟩⟩
  obtain ⟨Pv, hPv⟩ : ∃ Pv : Nat → L2.St → Hp → Prop, ∀ i σ H', Pv i σ H' ↔ ∃ (F : Addr) (r3 r4 r5 : Option V), σ = [some (V.ref a), some (V.int m), some (V.ref F), r3, r4, r5] ∧ H' F = some (.lst ((movedL m (xs.drop (xs.length - i))).map V.int)) ∧ H F = none ∧ Same H H' := ⟨_, fun _ _ _ => Iff.rfl⟩
  refine lp_rev Pv ((hPv _ _ _).mpr ⟨F0, _, _, _, rfl, by rw [upd_same, Nat.sub_zero, List.drop_length]; rfl, hF0, same_upd hF0 _⟩) (fun i σ H' _ z => by obtain ⟨_, _, _, _, _, _, _, z⟩ := (hPv i σ H').mp z; exact z.seq hS) ?_ ?_
  · intro i v σ H' hi hv hp
    obtain ⟨F, r3, r4, r5, rfl, eF, nF, sP⟩ := (hPv _ _ _).mp hp
    rw [List.length_map] at hi hv
    rw [List.getElem?_map, List.getElem?_eq_getElem (by omega)] at hv
    obtain rfl : V.int xs[xs.length - 1 - i] = v := Option.some.inj hv
    have ed : xs.drop (xs.length - (i + 1)) = xs[xs.length - 1 - i] :: xs.drop (xs.length - i) := by
      rw [show xs.length - (i + 1) = xs.length - 1 - i by omega, List.drop_eq_getElem_cons (by omega), show xs.length - 1 - i + 1 = xs.length - i by omega]
    have em : movedL m (xs.drop (xs.length - (i + 1))) = hstep m xs[xs.length - 1 - i] (movedL m (xs.drop (xs.length - i))) := by rw [ed]; rfl
    have lf : (movedL m (xs.drop (xs.length - i))).length = i := by rw [moved_len, List.length_drop]; omega
    have bf : ∀ y ∈ movedL m (xs.drop (xs.length - i)), Bd 20000 y := fun y hy => by
      rw [moved_eq] at hy
      refine (shift_bd hb (by rw [List.length_drop]; omega) (fun x hx => hk x (List.mem_of_mem_drop hx)) y hy).mono ?_
      have : (xs.drop (xs.length - i)).length ≤ 20 := by rw [List.length_drop]; omega
      omega
    generalize movedL m (xs.drop (xs.length - i)) = f at em lf bf eF
    generalize xs[xs.length - 1 - i] = x at em ⊢
    (try dsimp only [a_ipC, a_izip, a_tComp2, a_tryAs, a_drop_nx, a_raise, a_try, a_compIf, a_seq, a_next, a_brk, a_cnt, a_drop, a_ret, a_retN, a_if, a_asg, a_gname, a_gsub, a_gtup, a_gnil, a_gcons, a_aug, a_augS, a_ipI, a_var, a_c, a_op, a_un, a_rI, a_rI0, a_rU, a_eqI, a_neI, a_eqB, a_neB, a_tB, a_test, a_and, a_or, a_not, a_andV, a_orV, a_notV, a_ifE, a_chain, a_nil, a_cons, a_lst, a_tup, a_call, a_cb, a_bm0, a_bm, a_sl, a_nopart, a_part, a_tyI, a_for, a_comp, a_ilist, a_itup, a_irng1, a_irng2, a_irng3, a_cxK, a_irev, a_ienum, a_cat, a_rep, a_pop, a_clear, a_rslL, a_ixL, a_ixT, a_setL, a_app]); (try simp only [a_ipC, a_izip, a_tComp2, a_tryAs, a_drop_nx, a_raise, a_try, a_compIf, a_seq, a_next, a_brk, a_cnt, a_drop, a_ret, a_retN, a_if, a_asg, a_gname, a_gsub, a_gtup, a_gnil, a_gcons, a_aug, a_augS, a_ipI, a_var, a_c, a_op, a_un, a_rI, a_rI0, a_rU, a_eqI, a_neI, a_eqB, a_neB, a_tB, a_test, a_and, a_or, a_not, a_andV, a_orV, a_notV, a_ifE, a_chain, a_nil, a_cons, a_lst, a_tup, a_call, a_cb, a_bm0, a_bm, a_sl, a_nopart, a_part, a_tyI, a_for, a_comp, a_ilist, a_itup, a_irng1, a_irng2, a_irng3, a_cxK, and_assoc, a_irev, a_ienum, a_cat, a_rep, a_pop, a_clear, a_rslL, a_ixL, a_ixT, a_setL, a_app,
    List.getElem?_cons_zero, List.getElem?_cons_succ, List.set_cons_zero, List.set_cons_succ, Option.some.injEq, V.int.injEq, V.bl.injEq, V.ref.injEq, V.ty.injEq, exists_eq_left', exists_eq_left, exists_and_left, decide_eq_true_eq, List.cons_append, List.nil_append, List.append_nil, List.cons.injEq, and_true, true_and, Bool.not_eq_true', decide_eq_false_iff_not, ite_true, ite_false, Bool.false_eq_true, if_true, if_false, List.length_cons, List.length_nil, L2.start, List.map_cons, List.map_nil, List.replicate_succ, List.replicate_zero])
    refine ⟨by decide, fun p hp => ?_⟩
    have t1 := same_upd hp (.lst [V.int 0])
    refine ⟨_, upd_same, _, t1 _ _ eF, Nat.le_of_lt (small1000 (by simp; omega)), fun N nN => ?_⟩
    have eN : [V.int 0] ++ f.map V.int = (0 :: f).map V.int := rfl
    rw [eN]
    have t2 := same_upd nN (.lst ((0 :: f).map V.int))
    have gF := t2 _ _ (t1 _ _ eF)
    have gN : upd (upd H' p (.lst [V.int 0])) N (.lst ((0 :: f).map V.int)) N = _ := upd_same
    have nFN : F ≠ N := ne_of_none (t1 _ _ eF) nN
    have fN : H N = none := (sP.trans t1).free nN
    have sG := sP.trans (t1.trans t2)
    clear t1 t2 nN hp
    generalize upd (upd H' p (.lst [V.int 0])) N (.lst ((0 :: f).map V.int)) = G at gF gN sG ⊢
    refine ⟨_, .inl (SqL.of gF), ?_⟩
    rw [List.length_map, Int.toNat_natCast]
    refine ⟨by omega, by omega, ?_⟩
    obtain ⟨Pw, hPw⟩ : ∃ Pw : Nat → L2.St → Hp → Prop, ∀ j σ H', Pw j σ H' ↔ ∃ (zs : List Int) (r5 : Option V), σ = [some (V.ref a), some (V.int m), some (V.ref F), some (V.int x), some (V.ref N), r5] ∧ H' N = some (.lst (zs.map V.int)) ∧ zs.length = f.length + 1 ∧ H' F = some (.lst (f.map V.int)) ∧
      (∀ t, co zs t = co (0 :: f) t + if t < j then m * co f t else 0) ∧ Same H H' := ⟨_, fun _ _ _ => Iff.rfl⟩
    refine lp_range Pw ((hPw _ _ _).mpr ⟨0 :: f, _, rfl, gN, rfl, gF, fun t => by rw [if_neg (by omega)]; omega, sG⟩) ?_ ?_
    · intro j σ H2 hj hp'
      obtain ⟨zs, r5, rfl, hz, lz, hF', cz', sz⟩ := (hPw _ _ _).mp hp'
      have e2 : (0 : Int) + (j : Int) = (j : Int) := Int.zero_add _
      (try dsimp only [a_ipC, a_izip, a_tComp2, a_tryAs, a_drop_nx, a_raise, a_try, a_compIf, a_seq, a_next, a_brk, a_cnt, a_drop, a_ret, a_retN, a_if, a_asg, a_gname, a_gsub, a_gtup, a_gnil, a_gcons, a_aug, a_augS, a_ipI, a_var, a_c, a_op, a_un, a_rI, a_rI0, a_rU, a_eqI, a_neI, a_eqB, a_neB, a_tB, a_test, a_and, a_or, a_not, a_andV, a_orV, a_notV, a_ifE, a_chain, a_nil, a_cons, a_lst, a_tup, a_call, a_cb, a_bm0, a_bm, a_sl, a_nopart, a_part, a_tyI, a_for, a_comp, a_ilist, a_itup, a_irng1, a_irng2, a_irng3, a_cxK, a_irev, a_ienum, a_cat, a_rep, a_pop, a_clear, a_rslL, a_ixL, a_ixT, a_setL, a_app]); (try simp only [a_ipC, a_izip, a_tComp2, a_tryAs, a_drop_nx, a_raise, a_try, a_compIf, a_seq, a_next, a_brk, a_cnt, a_drop, a_ret, a_retN, a_if, a_asg, a_gname, a_gsub, a_gtup, a_gnil, a_gcons, a_aug, a_augS, a_ipI, a_var, a_c, a_op, a_un, a_rI, a_rI0, a_rU, a_eqI, a_neI, a_eqB, a_neB, a_tB, a_test, a_and, a_or, a_not, a_andV, a_orV, a_notV, a_ifE, a_chain, a_nil, a_cons, a_lst, a_tup, a_call, a_cb, a_bm0, a_bm, a_sl, a_nopart, a_part, a_tyI, a_for, a_comp, a_ilist, a_itup, a_irng1, a_irng2, a_irng3, a_cxK, and_assoc, a_irev, a_ienum, a_cat, a_rep, a_pop, a_clear, a_rslL, a_ixL, a_ixT, a_setL, a_app,
    List.getElem?_cons_zero, List.getElem?_cons_succ, List.set_cons_zero, List.set_cons_succ, Option.some.injEq, V.int.injEq, V.bl.injEq, V.ref.injEq, V.ty.injEq, exists_eq_left', exists_eq_left, exists_and_left, decide_eq_true_eq, List.cons_append, List.nil_append, List.append_nil, List.cons.injEq, and_true, true_and, Bool.not_eq_true', decide_eq_false_iff_not, ite_true, ite_false, Bool.false_eq_true, if_true, if_false, List.length_cons, List.length_nil, L2.start, List.map_cons, List.map_nil, List.replicate_succ, List.replicate_zero, e2])
      have hiz : j < zs.length := by omega
      refine ⟨_, SqL.of hz, _, at_int hiz, _, SqL.of hF', _, at_int hj, ?_⟩
      (try dsimp only [a_ipC, a_izip, a_tComp2, a_tryAs, a_drop_nx, a_raise, a_try, a_compIf, a_seq, a_next, a_brk, a_cnt, a_drop, a_ret, a_retN, a_if, a_asg, a_gname, a_gsub, a_gtup, a_gnil, a_gcons, a_aug, a_augS, a_ipI, a_var, a_c, a_op, a_un, a_rI, a_rI0, a_rU, a_eqI, a_neI, a_eqB, a_neB, a_tB, a_test, a_and, a_or, a_not, a_andV, a_orV, a_notV, a_ifE, a_chain, a_nil, a_cons, a_lst, a_tup, a_call, a_cb, a_bm0, a_bm, a_sl, a_nopart, a_part, a_tyI, a_for, a_comp, a_ilist, a_itup, a_irng1, a_irng2, a_irng3, a_cxK, a_irev, a_ienum, a_cat, a_rep, a_pop, a_clear, a_rslL, a_ixL, a_ixT, a_setL, a_app]); (try simp only [a_ipC, a_izip, a_tComp2, a_tryAs, a_drop_nx, a_raise, a_try, a_compIf, a_seq, a_next, a_brk, a_cnt, a_drop, a_ret, a_retN, a_if, a_asg, a_gname, a_gsub, a_gtup, a_gnil, a_gcons, a_aug, a_augS, a_ipI, a_var, a_c, a_op, a_un, a_rI, a_rI0, a_rU, a_eqI, a_neI, a_eqB, a_neB, a_tB, a_test, a_and, a_or, a_not, a_andV, a_orV, a_notV, a_ifE, a_chain, a_nil, a_cons, a_lst, a_tup, a_call, a_cb, a_bm0, a_bm, a_sl, a_nopart, a_part, a_tyI, a_for, a_comp, a_ilist, a_itup, a_irng1, a_irng2, a_irng3, a_cxK, and_assoc, a_irev, a_ienum, a_cat, a_rep, a_pop, a_clear, a_rslL, a_ixL, a_ixT, a_setL, a_app,
    List.getElem?_cons_zero, List.getElem?_cons_succ, List.set_cons_zero, List.set_cons_succ, Option.some.injEq, V.int.injEq, V.bl.injEq, V.ref.injEq, V.ty.injEq, exists_eq_left', exists_eq_left, exists_and_left, decide_eq_true_eq, List.cons_append, List.nil_append, List.append_nil, List.cons.injEq, and_true, true_and, Bool.not_eq_true', decide_eq_false_iff_not, ite_true, ite_false, Bool.false_eq_true, if_true, if_false, List.length_cons, List.length_nil, L2.start, List.map_cons, List.map_nil, List.replicate_succ, List.replicate_zero])
      refine ⟨hb.fits (bf _ (List.getElem_mem hj)) (by decide), _, hz, j, ixN_nat (by rw [List.length_map]; exact hiz), (hPw _ _ _).mpr ⟨zs.set j (zs[j] + m * f[j]), _, rfl, by rw [upd_same, map_set], by rw [List.length_set]; exact lz, by rw [upd_ne nFN]; exact hF', fun t => ?_, sz.more fN⟩⟩
      rw [co_set _ _ _ _ hiz]
      by_cases e : t = j
      · subst e
        have := cz' t
        rw [if_neg (by omega), co_lt hiz] at this
        rw [if_pos rfl, if_pos (by omega), co_lt (xs := f) hj]; omega
      · rw [if_neg e, cz' t]
        by_cases h3 : t < j
        · rw [if_pos h3, if_pos (by omega)]
        · rw [if_neg h3, if_neg (by omega)]
    · intro σ H2 hp'
      obtain ⟨zs, r5, rfl, hz, lz, hF', cz', sz⟩ := (hPw _ _ _).mp hp'
      have h0 : 0 < zs.length := by omega
      (try dsimp only [a_ipC, a_izip, a_tComp2, a_tryAs, a_drop_nx, a_raise, a_try, a_compIf, a_seq, a_next, a_brk, a_cnt, a_drop, a_ret, a_retN, a_if, a_asg, a_gname, a_gsub, a_gtup, a_gnil, a_gcons, a_aug, a_augS, a_ipI, a_var, a_c, a_op, a_un, a_rI, a_rI0, a_rU, a_eqI, a_neI, a_eqB, a_neB, a_tB, a_test, a_and, a_or, a_not, a_andV, a_orV, a_notV, a_ifE, a_chain, a_nil, a_cons, a_lst, a_tup, a_call, a_cb, a_bm0, a_bm, a_sl, a_nopart, a_part, a_tyI, a_for, a_comp, a_ilist, a_itup, a_irng1, a_irng2, a_irng3, a_cxK, a_irev, a_ienum, a_cat, a_rep, a_pop, a_clear, a_rslL, a_ixL, a_ixT, a_setL, a_app]); (try simp only [a_ipC, a_izip, a_tComp2, a_tryAs, a_drop_nx, a_raise, a_try, a_compIf, a_seq, a_next, a_brk, a_cnt, a_drop, a_ret, a_retN, a_if, a_asg, a_gname, a_gsub, a_gtup, a_gnil, a_gcons, a_aug, a_augS, a_ipI, a_var, a_c, a_op, a_un, a_rI, a_rI0, a_rU, a_eqI, a_neI, a_eqB, a_neB, a_tB, a_test, a_and, a_or, a_not, a_andV, a_orV, a_notV, a_ifE, a_chain, a_nil, a_cons, a_lst, a_tup, a_call, a_cb, a_bm0, a_bm, a_sl, a_nopart, a_part, a_tyI, a_for, a_comp, a_ilist, a_itup, a_irng1, a_irng2, a_irng3, a_cxK, and_assoc, a_irev, a_ienum, a_cat, a_rep, a_pop, a_clear, a_rslL, a_ixL, a_ixT, a_setL, a_app,
    List.getElem?_cons_zero, List.getElem?_cons_succ, List.set_cons_zero, List.set_cons_succ, Option.some.injEq, V.int.injEq, V.bl.injEq, V.ref.injEq, V.ty.injEq, exists_eq_left', exists_eq_left, exists_and_left, decide_eq_true_eq, List.cons_append, List.nil_append, List.append_nil, List.cons.injEq, and_true, true_and, Bool.not_eq_true', decide_eq_false_iff_not, ite_true, ite_false, Bool.false_eq_true, if_true, if_false, List.length_cons, List.length_nil, L2.start, List.map_cons, List.map_nil, List.replicate_succ, List.replicate_zero])
      refine ⟨_, SqL.of hz, _, (show atI (zs.map V.int) 0 = some (V.int zs[0]) from at_int h0), ?_⟩
      (try dsimp only [a_ipC, a_izip, a_tComp2, a_tryAs, a_drop_nx, a_raise, a_try, a_compIf, a_seq, a_next, a_brk, a_cnt, a_drop, a_ret, a_retN, a_if, a_asg, a_gname, a_gsub, a_gtup, a_gnil, a_gcons, a_aug, a_augS, a_ipI, a_var, a_c, a_op, a_un, a_rI, a_rI0, a_rU, a_eqI, a_neI, a_eqB, a_neB, a_tB, a_test, a_and, a_or, a_not, a_andV, a_orV, a_notV, a_ifE, a_chain, a_nil, a_cons, a_lst, a_tup, a_call, a_cb, a_bm0, a_bm, a_sl, a_nopart, a_part, a_tyI, a_for, a_comp, a_ilist, a_itup, a_irng1, a_irng2, a_irng3, a_cxK, a_irev, a_ienum, a_cat, a_rep, a_pop, a_clear, a_rslL, a_ixL, a_ixT, a_setL, a_app]); (try simp only [a_ipC, a_izip, a_tComp2, a_tryAs, a_drop_nx, a_raise, a_try, a_compIf, a_seq, a_next, a_brk, a_cnt, a_drop, a_ret, a_retN, a_if, a_asg, a_gname, a_gsub, a_gtup, a_gnil, a_gcons, a_aug, a_augS, a_ipI, a_var, a_c, a_op, a_un, a_rI, a_rI0, a_rU, a_eqI, a_neI, a_eqB, a_neB, a_tB, a_test, a_and, a_or, a_not, a_andV, a_orV, a_notV, a_ifE, a_chain, a_nil, a_cons, a_lst, a_tup, a_call, a_cb, a_bm0, a_bm, a_sl, a_nopart, a_part, a_tyI, a_for, a_comp, a_ilist, a_itup, a_irng1, a_irng2, a_irng3, a_cxK, and_assoc, a_irev, a_ienum, a_cat, a_rep, a_pop, a_clear, a_rslL, a_ixL, a_ixT, a_setL, a_app,
    List.getElem?_cons_zero, List.getElem?_cons_succ, List.set_cons_zero, List.set_cons_succ, Option.some.injEq, V.int.injEq, V.bl.injEq, V.ref.injEq, V.ty.injEq, exists_eq_left', exists_eq_left, exists_and_left, decide_eq_true_eq, List.cons_append, List.nil_append, List.append_nil, List.cons.injEq, and_true, true_and, Bool.not_eq_true', decide_eq_false_iff_not, ite_true, ite_false, Bool.false_eq_true, if_true, if_false, List.length_cons, List.length_nil, L2.start, List.map_cons, List.map_nil, List.replicate_succ, List.replicate_zero])
      have ez : zs.set 0 (zs[0] + x) = hstep m x f := co_ext (by rw [List.length_set, lz, hstep_len]) fun t _ => by
        rw [co_set _ _ _ _ h0, co_hstep]
        have c1 := cz' t
        rw [co_cons] at c1
        have c2 : (if t < f.length then m * co f t else 0) = m * co f t := by
          by_cases z : t < f.length
          · rw [if_pos z]
          · rw [if_neg z, co_ge (xs := f) (by omega), Int.mul_zero]
        rw [c2] at c1
        by_cases z : t = 0
        · subst z
          rw [if_pos rfl] at c1
          rw [if_pos rfl, if_pos rfl]
          rw [co_lt h0] at c1
          omega
        · rw [if_neg z] at c1
          rw [if_neg z, if_neg z, c1]
      refine ⟨_, hz, 0, (show ixN (zs.map V.int).length ((0 : Nat) : Int) = some 0 from ixN_nat (by rw [List.length_map]; exact h0)), (hPv _ _ _).mpr ⟨N, _, _, _, rfl, by rw [upd_same, map_set, ez, em], fN, sz.more fN⟩⟩
  · intro σ H' hp
    obtain ⟨F, r3, r4, r5, rfl, eF, nF, sP⟩ := (hPv _ _ _).mp hp
    (try dsimp only [a_ipC, a_izip, a_tComp2, a_tryAs, a_drop_nx, a_raise, a_try, a_compIf, a_seq, a_next, a_brk, a_cnt, a_drop, a_ret, a_retN, a_if, a_asg, a_gname, a_gsub, a_gtup, a_gnil, a_gcons, a_aug, a_augS, a_ipI, a_var, a_c, a_op, a_un, a_rI, a_rI0, a_rU, a_eqI, a_neI, a_eqB, a_neB, a_tB, a_test, a_and, a_or, a_not, a_andV, a_orV, a_notV, a_ifE, a_chain, a_nil, a_cons, a_lst, a_tup, a_call, a_cb, a_bm0, a_bm, a_sl, a_nopart, a_part, a_tyI, a_for, a_comp, a_ilist, a_itup, a_irng1, a_irng2, a_irng3, a_cxK, a_irev, a_ienum, a_cat, a_rep, a_pop, a_clear, a_rslL, a_ixL, a_ixT, a_setL, a_app]); (try simp only [a_ipC, a_izip, a_tComp2, a_tryAs, a_drop_nx, a_raise, a_try, a_compIf, a_seq, a_next, a_brk, a_cnt, a_drop, a_ret, a_retN, a_if, a_asg, a_gname, a_gsub, a_gtup, a_gnil, a_gcons, a_aug, a_augS, a_ipI, a_var, a_c, a_op, a_un, a_rI, a_rI0, a_rU, a_eqI, a_neI, a_eqB, a_neB, a_tB, a_test, a_and, a_or, a_not, a_andV, a_orV, a_notV, a_ifE, a_chain, a_nil, a_cons, a_lst, a_tup, a_call, a_cb, a_bm0, a_bm, a_sl, a_nopart, a_part, a_tyI, a_for, a_comp, a_ilist, a_itup, a_irng1, a_irng2, a_irng3, a_cxK, and_assoc, a_irev, a_ienum, a_cat, a_rep, a_pop, a_clear, a_rslL, a_ixL, a_ixT, a_setL, a_app,
    List.getElem?_cons_zero, List.getElem?_cons_succ, List.set_cons_zero, List.set_cons_succ, Option.some.injEq, V.int.injEq, V.bl.injEq, V.ref.injEq, V.ty.injEq, exists_eq_left', exists_eq_left, exists_and_left, decide_eq_true_eq, List.cons_append, List.nil_append, List.append_nil, List.cons.injEq, and_true, true_and, Bool.not_eq_true', decide_eq_false_iff_not, ite_true, ite_false, Bool.false_eq_true, if_true, if_false, List.length_cons, List.length_nil, L2.start, List.map_cons, List.map_nil, List.replicate_succ, List.replicate_zero])
    rw [List.length_map, Nat.sub_self, List.drop_zero, moved_eq] at eF
    exact q F _ sP nF eF

/-! #### _law_value -/
theorem ok__law_value {P : Program} {w : World} {K : PySem.W.Frag} {mg : Str → Option Value} {base : Heap} (T : Tx K mg) : FnOk P w K mg base CX0 1 T.a__law_value T.fd__law_value ["_law_poly_here", "_law_n"] (spValue K) := by
  refine T.F__law_value.ok sc__law_value (fun vs H Q E h => ?_) (fun cdv A outer s H vs Q E hr h => ?_)
  · obtain ⟨a, xs, n, k, l, rfl, _⟩ := h
    rfl
  obtain ⟨a, xs, n, k, l, rfl, hS, hl, hk, hb, hf, q⟩ := h
  refine ⟨_, ((pss_cons (ps_set (i := 2) sc__law_value.nd rfl (Or.inl rfl) pe_int)
    (pss_cons (ps_for PassesOwn.never rfl (pi_rev rfl T.z_reversed (pa_cons (pv 0) pa_nil)) (pg_name (i := 3) sc__law_value.nd rfl (Or.inl rfl)) (pss_one (ps_set (i := 2) sc__law_value.nd rfl (Or.inl rfl) (pe_op op_add (pe_op op_mulZ (pv 2) (pv 1)) (pv 3)))))
    (pss_one (ps_ret (pv 2)))))), ?_⟩
  (try dsimp only [a_ipC, a_izip, a_tComp2, a_tryAs, a_drop_nx, a_raise, a_try, a_compIf, a_seq, a_next, a_brk, a_cnt, a_drop, a_ret, a_retN, a_if, a_asg, a_gname, a_gsub, a_gtup, a_gnil, a_gcons, a_aug, a_augS, a_ipI, a_var, a_c, a_op, a_un, a_rI, a_rI0, a_rU, a_eqI, a_neI, a_eqB, a_neB, a_tB, a_test, a_and, a_or, a_not, a_andV, a_orV, a_notV, a_ifE, a_chain, a_nil, a_cons, a_lst, a_tup, a_call, a_cb, a_bm0, a_bm, a_sl, a_nopart, a_part, a_tyI, a_for, a_comp, a_ilist, a_itup, a_irng1, a_irng2, a_irng3, a_cxK, a_irev, a_ienum, a_cat, a_rep, a_pop, a_clear, a_rslL, a_ixL, a_ixT, a_setL, a_app]); (try simp only [a_ipC, a_izip, a_tComp2, a_tryAs, a_drop_nx, a_raise, a_try, a_compIf, a_seq, a_next, a_brk, a_cnt, a_drop, a_ret, a_retN, a_if, a_asg, a_gname, a_gsub, a_gtup, a_gnil, a_gcons, a_aug, a_augS, a_ipI, a_var, a_c, a_op, a_un, a_rI, a_rI0, a_rU, a_eqI, a_neI, a_eqB, a_neB, a_tB, a_test, a_and, a_or, a_not, a_andV, a_orV, a_notV, a_ifE, a_chain, a_nil, a_cons, a_lst, a_tup, a_call, a_cb, a_bm0, a_bm, a_sl, a_nopart, a_part, a_tyI, a_for, a_comp, a_ilist, a_itup, a_irng1, a_irng2, a_irng3, a_cxK, and_assoc, a_irev, a_ienum, a_cat, a_rep, a_pop, a_clear, a_rslL, a_ixL, a_ixT, a_setL, a_app,
    List.getElem?_cons_zero, List.getElem?_cons_succ, List.set_cons_zero, List.set_cons_succ, Option.some.injEq, V.int.injEq, V.bl.injEq, V.ref.injEq, V.ty.injEq, exists_eq_left', exists_eq_left, exists_and_left, decide_eq_true_eq, List.cons_append, List.nil_append, List.append_nil, List.cons.injEq, and_true, true_and, Bool.not_eq_true', decide_eq_false_iff_not, ite_true, ite_false, Bool.false_eq_true, if_true, if_false, List.length_cons, List.length_nil, L2.start, List.map_cons, List.map_nil, List.replicate_succ, List.replicate_zero])
  refine ⟨_, hS, ?_⟩
  obtain ⟨Pv, hPv⟩ : ∃ Pv : Nat → L2.St → Hp → Prop, ∀ i σ H', Pv i σ H' ↔ (∃ r, σ = [some (V.ref a), some (V.int n), some (V.int (val n (xs.drop (xs.length - i)))), r]) ∧ Bd (k + (l + 1) * i) (val n (xs.drop (xs.length - i))) ∧ H' = H := ⟨_, fun _ _ _ => Iff.rfl⟩
  refine lp_rev Pv ((hPv _ _ _).mpr ⟨⟨none, by simp [val]⟩, by simp [val, Bd.zero], rfl⟩) (fun i σ H' _ z => by rw [((hPv i σ H').mp z).2.2]; exact hS) ?_ ?_
  · intro i v σ H' hi hv hp
    obtain ⟨⟨r, rfl⟩, hbd, rfl⟩ := (hPv _ _ _).mp hp
    rw [List.length_map] at hi hv
    rw [List.getElem?_map, List.getElem?_eq_getElem (by omega)] at hv
    obtain rfl : V.int xs[xs.length - 1 - i] = v := Option.some.inj hv
    (try dsimp only [a_ipC, a_izip, a_tComp2, a_tryAs, a_drop_nx, a_raise, a_try, a_compIf, a_seq, a_next, a_brk, a_cnt, a_drop, a_ret, a_retN, a_if, a_asg, a_gname, a_gsub, a_gtup, a_gnil, a_gcons, a_aug, a_augS, a_ipI, a_var, a_c, a_op, a_un, a_rI, a_rI0, a_rU, a_eqI, a_neI, a_eqB, a_neB, a_tB, a_test, a_and, a_or, a_not, a_andV, a_orV, a_notV, a_ifE, a_chain, a_nil, a_cons, a_lst, a_tup, a_call, a_cb, a_bm0, a_bm, a_sl, a_nopart, a_part, a_tyI, a_for, a_comp, a_ilist, a_itup, a_irng1, a_irng2, a_irng3, a_cxK, a_irev, a_ienum, a_cat, a_rep, a_pop, a_clear, a_rslL, a_ixL, a_ixT, a_setL, a_app]); (try simp only [a_ipC, a_izip, a_tComp2, a_tryAs, a_drop_nx, a_raise, a_try, a_compIf, a_seq, a_next, a_brk, a_cnt, a_drop, a_ret, a_retN, a_if, a_asg, a_gname, a_gsub, a_gtup, a_gnil, a_gcons, a_aug, a_augS, a_ipI, a_var, a_c, a_op, a_un, a_rI, a_rI0, a_rU, a_eqI, a_neI, a_eqB, a_neB, a_tB, a_test, a_and, a_or, a_not, a_andV, a_orV, a_notV, a_ifE, a_chain, a_nil, a_cons, a_lst, a_tup, a_call, a_cb, a_bm0, a_bm, a_sl, a_nopart, a_part, a_tyI, a_for, a_comp, a_ilist, a_itup, a_irng1, a_irng2, a_irng3, a_cxK, and_assoc, a_irev, a_ienum, a_cat, a_rep, a_pop, a_clear, a_rslL, a_ixL, a_ixT, a_setL, a_app,
    List.getElem?_cons_zero, List.getElem?_cons_succ, List.set_cons_zero, List.set_cons_succ, Option.some.injEq, V.int.injEq, V.bl.injEq, V.ref.injEq, V.ty.injEq, exists_eq_left', exists_eq_left, exists_and_left, decide_eq_true_eq, List.cons_append, List.nil_append, List.append_nil, List.cons.injEq, and_true, true_and, Bool.not_eq_true', decide_eq_false_iff_not, ite_true, ite_false, Bool.false_eq_true, if_true, if_false, List.length_cons, List.length_nil, L2.start, List.map_cons, List.map_nil, List.replicate_succ, List.replicate_zero])
    have hx : Bd k xs[xs.length - 1 - i] := hk _ (List.getElem_mem _)
    have e : xs.length - (i + 1) = xs.length - 1 - i := by omega
    have i64 : (l + 1) * i ≤ l * 64 + 64 := by have := Nat.mul_le_mul_left (l + 1) (by omega : i ≤ 64); omega
    refine ⟨hbd.fits hb (by omega), (hPv _ _ _).mpr ⟨⟨_, by rw [e, val_drop n xs i hi]⟩, ?_, rfl⟩⟩
    rw [e, val_drop n xs i hi]
    refine ((hbd.mul hb).add (hx.mono (by omega : k ≤ k + (l + 1) * i + l))).mono ?_
    rw [Nat.mul_succ]; omega
  · intro σ H' hp
    obtain ⟨⟨r, rfl⟩, _, rfl⟩ := (hPv _ _ _).mp hp
    (try dsimp only [a_ipC, a_izip, a_tComp2, a_tryAs, a_drop_nx, a_raise, a_try, a_compIf, a_seq, a_next, a_brk, a_cnt, a_drop, a_ret, a_retN, a_if, a_asg, a_gname, a_gsub, a_gtup, a_gnil, a_gcons, a_aug, a_augS, a_ipI, a_var, a_c, a_op, a_un, a_rI, a_rI0, a_rU, a_eqI, a_neI, a_eqB, a_neB, a_tB, a_test, a_and, a_or, a_not, a_andV, a_orV, a_notV, a_ifE, a_chain, a_nil, a_cons, a_lst, a_tup, a_call, a_cb, a_bm0, a_bm, a_sl, a_nopart, a_part, a_tyI, a_for, a_comp, a_ilist, a_itup, a_irng1, a_irng2, a_irng3, a_cxK, a_irev, a_ienum, a_cat, a_rep, a_pop, a_clear, a_rslL, a_ixL, a_ixT, a_setL, a_app]); (try simp only [a_ipC, a_izip, a_tComp2, a_tryAs, a_drop_nx, a_raise, a_try, a_compIf, a_seq, a_next, a_brk, a_cnt, a_drop, a_ret, a_retN, a_if, a_asg, a_gname, a_gsub, a_gtup, a_gnil, a_gcons, a_aug, a_augS, a_ipI, a_var, a_c, a_op, a_un, a_rI, a_rI0, a_rU, a_eqI, a_neI, a_eqB, a_neB, a_tB, a_test, a_and, a_or, a_not, a_andV, a_orV, a_notV, a_ifE, a_chain, a_nil, a_cons, a_lst, a_tup, a_call, a_cb, a_bm0, a_bm, a_sl, a_nopart, a_part, a_tyI, a_for, a_comp, a_ilist, a_itup, a_irng1, a_irng2, a_irng3, a_cxK, and_assoc, a_irev, a_ienum, a_cat, a_rep, a_pop, a_clear, a_rslL, a_ixL, a_ixT, a_setL, a_app,
    List.getElem?_cons_zero, List.getElem?_cons_succ, List.set_cons_zero, List.set_cons_succ, Option.some.injEq, V.int.injEq, V.bl.injEq, V.ref.injEq, V.ty.injEq, exists_eq_left', exists_eq_left, exists_and_left, decide_eq_true_eq, List.cons_append, List.nil_append, List.append_nil, List.cons.injEq, and_true, true_and, Bool.not_eq_true', decide_eq_false_iff_not, ite_true, ite_false, Bool.false_eq_true, if_true, if_false, List.length_cons, List.length_nil, L2.start, List.map_cons, List.map_nil, List.replicate_succ, List.replicate_zero])
    rw [List.length_map, Nat.sub_self, List.drop_zero]
    exact q

/-! #### _law_less -/
def spLess (K : PySem.W.Frag) : Sp := fun vs H Q _ => ∃ (a b : Addr) (xs ys : List Int), vs = [.ref a, .ref b] ∧ SqL K H a (xs.map V.int) ∧ SqL K H b (ys.map V.int) ∧ xs.length ≤ 40 ∧ ys.length ≤ 40 ∧
  ∀ ws : List Int, Nml ws → ws.length ≤ 40 → (∀ j, co ws j = co xs j - co ys j) → newL H Q (ws.map V.int)
theorem ok__law_less {P : Program} {w : World} {K : PySem.W.Frag} {mg : Str → Option Value} {base : Heap} (T : Tx K mg) : FnOk P w K mg base CX0 2 T.a__law_less T.fd__law_less ["_law_one", "_law_other"] (spLess K) := by
  refine T.F__law_less.ok sc__law_less (fun vs H Q E h => ?_) (fun cdv A outer s H vs Q E hr h => ?_)
  · obtain ⟨a, b, xs, ys, rfl, _⟩ := h
    rfl
  obtain ⟨a, b, xs, ys, rfl, hA, hB, la, lb, q⟩ := h
  refine ⟨_, ((pss_cons (ps_set (i := 2) sc__law_less.nd rfl (Or.inl rfl) (pe_op op_rep (pe_lst (pa_cons pe_int pa_nil)) (pe_callB (call_max2 rfl) rfl T.z_max bt_max (pa_cons (pe_callB call_len_seq rfl T.z_len bt_len (pa_cons (pv 0) pa_nil)) (pa_cons (pe_callB call_len_seq rfl T.z_len bt_len (pa_cons (pv 1) pa_nil)) pa_nil)))))
    (pss_cons (ps_for PassesOwn.never rfl (pi_range1 rfl T.z_range (pa_cons (pe_callB call_len_seq rfl T.z_len bt_len (pa_cons (pv 0) pa_nil)) pa_nil)) (pg_name (i := 3) sc__law_less.nd rfl (Or.inl rfl)) (pss_one (ps_asg (pe_ix ix_list (pv 0) (pv 3) (fun _ _ => rfl)) (pg_sub (pv 2) (pv 3) set_list))))
    (pss_cons (ps_for PassesOwn.never rfl (pi_range1 rfl T.z_range (pa_cons (pe_callB call_len_seq rfl T.z_len bt_len (pa_cons (pv 1) pa_nil)) pa_nil)) (pg_name (i := 3) sc__law_less.nd rfl (Or.inl rfl)) (pss_one (ps_asg (pe_op op_sub (pe_ix ix_list (pv 2) (pv 3) (fun _ _ => rfl)) (pe_ix ix_list (pv 1) (pv 3) (fun _ _ => rfl))) (pg_sub (pv 2) (pv 3) set_list))))
    (pss_one (ps_ret (pe_call (FnOk.mono (ok__law_cut T) (by decide)) hr rfl T.m__law_cut T.F__law_cut.kp T.b__law_cut .nil pass0 (pa_cons (pv 2) pa_nil)))))))), ?_⟩
  (try dsimp only [a_ipC, a_izip, a_tComp2, a_tryAs, a_drop_nx, a_raise, a_try, a_compIf, a_seq, a_next, a_brk, a_cnt, a_drop, a_ret, a_retN, a_if, a_asg, a_gname, a_gsub, a_gtup, a_gnil, a_gcons, a_aug, a_augS, a_ipI, a_var, a_c, a_op, a_un, a_rI, a_rI0, a_rU, a_eqI, a_neI, a_eqB, a_neB, a_tB, a_test, a_and, a_or, a_not, a_andV, a_orV, a_notV, a_ifE, a_chain, a_nil, a_cons, a_lst, a_tup, a_call, a_cb, a_bm0, a_bm, a_sl, a_nopart, a_part, a_tyI, a_for, a_comp, a_ilist, a_itup, a_irng1, a_irng2, a_irng3, a_cxK, a_irev, a_ienum, a_cat, a_rep, a_pop, a_clear, a_rslL, a_ixL, a_ixT, a_setL, a_app]); (try simp only [a_ipC, a_izip, a_tComp2, a_tryAs, a_drop_nx, a_raise, a_try, a_compIf, a_seq, a_next, a_brk, a_cnt, a_drop, a_ret, a_retN, a_if, a_asg, a_gname, a_gsub, a_gtup, a_gnil, a_gcons, a_aug, a_augS, a_ipI, a_var, a_c, a_op, a_un, a_rI, a_rI0, a_rU, a_eqI, a_neI, a_eqB, a_neB, a_tB, a_test, a_and, a_or, a_not, a_andV, a_orV, a_notV, a_ifE, a_chain, a_nil, a_cons, a_lst, a_tup, a_call, a_cb, a_bm0, a_bm, a_sl, a_nopart, a_part, a_tyI, a_for, a_comp, a_ilist, a_itup, a_irng1, a_irng2, a_irng3, a_cxK, and_assoc, a_irev, a_ienum, a_cat, a_rep, a_pop, a_clear, a_rslL, a_ixL, a_ixT, a_setL, a_app,
    List.getElem?_cons_zero, List.getElem?_cons_succ, List.set_cons_zero, List.set_cons_succ, Option.some.injEq, V.int.injEq, V.bl.injEq, V.ref.injEq, V.ty.injEq, exists_eq_left', exists_eq_left, exists_and_left, decide_eq_true_eq, List.cons_append, List.nil_append, List.append_nil, List.cons.injEq, and_true, true_and, Bool.not_eq_true', decide_eq_false_iff_not, ite_true, ite_false, Bool.false_eq_true, if_true, if_false, List.length_cons, List.length_nil, L2.start, List.map_cons, List.map_nil, List.replicate_succ, List.replicate_zero])
  refine ⟨by decide, fun p hp => ?_⟩
  have s1 := same_upd hp (.lst [V.int 0])
  refine ⟨_, .inl (s1.seq hA), _, .inl (s1.seq hB), _, upd_same, ?_⟩
  rw [List.length_map, List.length_map, rep_zero]
  obtain ⟨k, hk⟩ : ∃ k : Nat, (if (ys.length : Int) > (xs.length : Int) then (ys.length : Int) else (xs.length : Int)) = (k : Int) := ⟨max xs.length ys.length, by split <;> omega⟩
  have hk1 : xs.length ≤ k ∧ ys.length ≤ k ∧ k ≤ 40 := by split at hk <;> omega
  obtain ⟨k1, k2, k3⟩ := hk1
  rw [hk, Int.toNat_natCast]
  refine ⟨by omega, by omega, Nat.le_of_lt (small1000 (by simp; omega)), fun F hF => ?_⟩
  have s4 := s1.trans (same_upd hF (.lst ((List.replicate k (0 : Int)).map V.int)))
  have f0 := s1.free hF
  have h4 : upd (upd H p (.lst [V.int 0])) F (.lst ((List.replicate k (0 : Int)).map V.int)) F = _ := upd_same
  generalize upd (upd H p (.lst [V.int 0])) F (.lst ((List.replicate k (0 : Int)).map V.int)) = H4 at s4 h4 ⊢
  refine ⟨_, .inl (s4.seq hA), ?_⟩
  rw [List.length_map, Int.toNat_natCast]
  refine ⟨by omega, by omega, ?_⟩
  obtain ⟨Pv, hPv⟩ : ∃ Pv : Nat → L2.St → Hp → Prop, ∀ l σ H', Pv l σ H' ↔ ∃ (zs : List Int) (r1 : Option V), σ = [some (V.ref a), some (V.ref b), some (V.ref F), r1] ∧ H' F = some (.lst (zs.map V.int)) ∧ zs.length = k ∧ (∀ j, co zs j = if j < l then co xs j else 0) ∧ Same H H' := ⟨_, fun _ _ _ => Iff.rfl⟩
  refine lp_range Pv ((hPv _ _ _).mpr ⟨_, none, rfl, h4, by simp, fun j => by rw [co_rep, if_neg (by omega)], s4⟩) ?_ ?_
  · intro j σ H' hj hp'
    obtain ⟨zs, r1, rfl, hz, lz, cz', sz⟩ := (hPv _ _ _).mp hp'
    have e2 : (0 : Int) + (j : Int) = (j : Int) := Int.zero_add _
    (try dsimp only [a_ipC, a_izip, a_tComp2, a_tryAs, a_drop_nx, a_raise, a_try, a_compIf, a_seq, a_next, a_brk, a_cnt, a_drop, a_ret, a_retN, a_if, a_asg, a_gname, a_gsub, a_gtup, a_gnil, a_gcons, a_aug, a_augS, a_ipI, a_var, a_c, a_op, a_un, a_rI, a_rI0, a_rU, a_eqI, a_neI, a_eqB, a_neB, a_tB, a_test, a_and, a_or, a_not, a_andV, a_orV, a_notV, a_ifE, a_chain, a_nil, a_cons, a_lst, a_tup, a_call, a_cb, a_bm0, a_bm, a_sl, a_nopart, a_part, a_tyI, a_for, a_comp, a_ilist, a_itup, a_irng1, a_irng2, a_irng3, a_cxK, a_irev, a_ienum, a_cat, a_rep, a_pop, a_clear, a_rslL, a_ixL, a_ixT, a_setL, a_app]); (try simp only [a_ipC, a_izip, a_tComp2, a_tryAs, a_drop_nx, a_raise, a_try, a_compIf, a_seq, a_next, a_brk, a_cnt, a_drop, a_ret, a_retN, a_if, a_asg, a_gname, a_gsub, a_gtup, a_gnil, a_gcons, a_aug, a_augS, a_ipI, a_var, a_c, a_op, a_un, a_rI, a_rI0, a_rU, a_eqI, a_neI, a_eqB, a_neB, a_tB, a_test, a_and, a_or, a_not, a_andV, a_orV, a_notV, a_ifE, a_chain, a_nil, a_cons, a_lst, a_tup, a_call, a_cb, a_bm0, a_bm, a_sl, a_nopart, a_part, a_tyI, a_for, a_comp, a_ilist, a_itup, a_irng1, a_irng2, a_irng3, a_cxK, and_assoc, a_irev, a_ienum, a_cat, a_rep, a_pop, a_clear, a_rslL, a_ixL, a_ixT, a_setL, a_app,
    List.getElem?_cons_zero, List.getElem?_cons_succ, List.set_cons_zero, List.set_cons_succ, Option.some.injEq, V.int.injEq, V.bl.injEq, V.ref.injEq, V.ty.injEq, exists_eq_left', exists_eq_left, exists_and_left, decide_eq_true_eq, List.cons_append, List.nil_append, List.append_nil, List.cons.injEq, and_true, true_and, Bool.not_eq_true', decide_eq_false_iff_not, ite_true, ite_false, Bool.false_eq_true, if_true, if_false, List.length_cons, List.length_nil, L2.start, List.map_cons, List.map_nil, List.replicate_succ, List.replicate_zero, e2])
    have hiz : j < zs.length := by omega
    refine ⟨_, sz.seq hA, _, at_int hj, _, hz, j, ixN_nat (by rw [List.length_map]; exact hiz), (hPv _ _ _).mpr ⟨zs.set j xs[j], _, rfl, by rw [upd_same, map_set], by rw [List.length_set]; exact lz, fun t => ?_, sz.more f0⟩⟩
    rw [co_set _ _ _ _ hiz]
    by_cases e : t = j
    · subst e
      rw [if_pos rfl, if_pos (by omega), co_lt hj]
    · rw [if_neg e, cz' t]
      by_cases h3 : t < j
      · rw [if_pos h3, if_pos (by omega)]
      · rw [if_neg h3, if_neg (by omega)]
  · intro σ H' hp'
    obtain ⟨zs, r1, rfl, hz, lz, cz', sz⟩ := (hPv _ _ _).mp hp'
    (try dsimp only [a_ipC, a_izip, a_tComp2, a_tryAs, a_drop_nx, a_raise, a_try, a_compIf, a_seq, a_next, a_brk, a_cnt, a_drop, a_ret, a_retN, a_if, a_asg, a_gname, a_gsub, a_gtup, a_gnil, a_gcons, a_aug, a_augS, a_ipI, a_var, a_c, a_op, a_un, a_rI, a_rI0, a_rU, a_eqI, a_neI, a_eqB, a_neB, a_tB, a_test, a_and, a_or, a_not, a_andV, a_orV, a_notV, a_ifE, a_chain, a_nil, a_cons, a_lst, a_tup, a_call, a_cb, a_bm0, a_bm, a_sl, a_nopart, a_part, a_tyI, a_for, a_comp, a_ilist, a_itup, a_irng1, a_irng2, a_irng3, a_cxK, a_irev, a_ienum, a_cat, a_rep, a_pop, a_clear, a_rslL, a_ixL, a_ixT, a_setL, a_app]); (try simp only [a_ipC, a_izip, a_tComp2, a_tryAs, a_drop_nx, a_raise, a_try, a_compIf, a_seq, a_next, a_brk, a_cnt, a_drop, a_ret, a_retN, a_if, a_asg, a_gname, a_gsub, a_gtup, a_gnil, a_gcons, a_aug, a_augS, a_ipI, a_var, a_c, a_op, a_un, a_rI, a_rI0, a_rU, a_eqI, a_neI, a_eqB, a_neB, a_tB, a_test, a_and, a_or, a_not, a_andV, a_orV, a_notV, a_ifE, a_chain, a_nil, a_cons, a_lst, a_tup, a_call, a_cb, a_bm0, a_bm, a_sl, a_nopart, a_part, a_tyI, a_for, a_comp, a_ilist, a_itup, a_irng1, a_irng2, a_irng3, a_cxK, and_assoc, a_irev, a_ienum, a_cat, a_rep, a_pop, a_clear, a_rslL, a_ixL, a_ixT, a_setL, a_app,
    List.getElem?_cons_zero, List.getElem?_cons_succ, List.set_cons_zero, List.set_cons_succ, Option.some.injEq, V.int.injEq, V.bl.injEq, V.ref.injEq, V.ty.injEq, exists_eq_left', exists_eq_left, exists_and_left, decide_eq_true_eq, List.cons_append, List.nil_append, List.append_nil, List.cons.injEq, and_true, true_and, Bool.not_eq_true', decide_eq_false_iff_not, ite_true, ite_false, Bool.false_eq_true, if_true, if_false, List.length_cons, List.length_nil, L2.start, List.map_cons, List.map_nil, List.replicate_succ, List.replicate_zero])
    refine ⟨_, .inl (sz.seq hB), ?_⟩
    rw [List.length_map, Int.toNat_natCast]
    refine ⟨by omega, by omega, ?_⟩
    obtain ⟨Pw, hPw⟩ : ∃ Pw : Nat → L2.St → Hp → Prop, ∀ l σ H', Pw l σ H' ↔ ∃ (zs : List Int) (r1 : Option V), σ = [some (V.ref a), some (V.ref b), some (V.ref F), r1] ∧ H' F = some (.lst (zs.map V.int)) ∧ zs.length = k ∧ (∀ j, co zs j = co xs j - if j < l then co ys j else 0) ∧ Same H H' := ⟨_, fun _ _ _ => Iff.rfl⟩
    refine lp_range Pw ((hPw _ _ _).mpr ⟨zs, _, rfl, hz, lz, fun t => ?_, sz⟩) ?_ ?_
    · rw [cz' t, if_neg (show ¬ t < 0 by omega)]
      by_cases h3 : t < xs.length
      · rw [if_pos h3]; omega
      · rw [if_neg h3, co_ge (xs := xs) (by omega)]; rfl
    · intro j σ H' hj hp'
      obtain ⟨zs, r1, rfl, hz, lz, cz', sz⟩ := (hPw _ _ _).mp hp'
      have e2 : (0 : Int) + (j : Int) = (j : Int) := Int.zero_add _
      (try dsimp only [a_ipC, a_izip, a_tComp2, a_tryAs, a_drop_nx, a_raise, a_try, a_compIf, a_seq, a_next, a_brk, a_cnt, a_drop, a_ret, a_retN, a_if, a_asg, a_gname, a_gsub, a_gtup, a_gnil, a_gcons, a_aug, a_augS, a_ipI, a_var, a_c, a_op, a_un, a_rI, a_rI0, a_rU, a_eqI, a_neI, a_eqB, a_neB, a_tB, a_test, a_and, a_or, a_not, a_andV, a_orV, a_notV, a_ifE, a_chain, a_nil, a_cons, a_lst, a_tup, a_call, a_cb, a_bm0, a_bm, a_sl, a_nopart, a_part, a_tyI, a_for, a_comp, a_ilist, a_itup, a_irng1, a_irng2, a_irng3, a_cxK, a_irev, a_ienum, a_cat, a_rep, a_pop, a_clear, a_rslL, a_ixL, a_ixT, a_setL, a_app]); (try simp only [a_ipC, a_izip, a_tComp2, a_tryAs, a_drop_nx, a_raise, a_try, a_compIf, a_seq, a_next, a_brk, a_cnt, a_drop, a_ret, a_retN, a_if, a_asg, a_gname, a_gsub, a_gtup, a_gnil, a_gcons, a_aug, a_augS, a_ipI, a_var, a_c, a_op, a_un, a_rI, a_rI0, a_rU, a_eqI, a_neI, a_eqB, a_neB, a_tB, a_test, a_and, a_or, a_not, a_andV, a_orV, a_notV, a_ifE, a_chain, a_nil, a_cons, a_lst, a_tup, a_call, a_cb, a_bm0, a_bm, a_sl, a_nopart, a_part, a_tyI, a_for, a_comp, a_ilist, a_itup, a_irng1, a_irng2, a_irng3, a_cxK, and_assoc, a_irev, a_ienum, a_cat, a_rep, a_pop, a_clear, a_rslL, a_ixL, a_ixT, a_setL, a_app,
    List.getElem?_cons_zero, List.getElem?_cons_succ, List.set_cons_zero, List.set_cons_succ, Option.some.injEq, V.int.injEq, V.bl.injEq, V.ref.injEq, V.ty.injEq, exists_eq_left', exists_eq_left, exists_and_left, decide_eq_true_eq, List.cons_append, List.nil_append, List.append_nil, List.cons.injEq, and_true, true_and, Bool.not_eq_true', decide_eq_false_iff_not, ite_true, ite_false, Bool.false_eq_true, if_true, if_false, List.length_cons, List.length_nil, L2.start, List.map_cons, List.map_nil, List.replicate_succ, List.replicate_zero, e2])
      have hiz : j < zs.length := by omega
      refine ⟨_, SqL.of hz, _, at_int hiz, _, sz.seq hB, _, at_int hj, ?_⟩
      (try dsimp only [a_ipC, a_izip, a_tComp2, a_tryAs, a_drop_nx, a_raise, a_try, a_compIf, a_seq, a_next, a_brk, a_cnt, a_drop, a_ret, a_retN, a_if, a_asg, a_gname, a_gsub, a_gtup, a_gnil, a_gcons, a_aug, a_augS, a_ipI, a_var, a_c, a_op, a_un, a_rI, a_rI0, a_rU, a_eqI, a_neI, a_eqB, a_neB, a_tB, a_test, a_and, a_or, a_not, a_andV, a_orV, a_notV, a_ifE, a_chain, a_nil, a_cons, a_lst, a_tup, a_call, a_cb, a_bm0, a_bm, a_sl, a_nopart, a_part, a_tyI, a_for, a_comp, a_ilist, a_itup, a_irng1, a_irng2, a_irng3, a_cxK, a_irev, a_ienum, a_cat, a_rep, a_pop, a_clear, a_rslL, a_ixL, a_ixT, a_setL, a_app]); (try simp only [a_ipC, a_izip, a_tComp2, a_tryAs, a_drop_nx, a_raise, a_try, a_compIf, a_seq, a_next, a_brk, a_cnt, a_drop, a_ret, a_retN, a_if, a_asg, a_gname, a_gsub, a_gtup, a_gnil, a_gcons, a_aug, a_augS, a_ipI, a_var, a_c, a_op, a_un, a_rI, a_rI0, a_rU, a_eqI, a_neI, a_eqB, a_neB, a_tB, a_test, a_and, a_or, a_not, a_andV, a_orV, a_notV, a_ifE, a_chain, a_nil, a_cons, a_lst, a_tup, a_call, a_cb, a_bm0, a_bm, a_sl, a_nopart, a_part, a_tyI, a_for, a_comp, a_ilist, a_itup, a_irng1, a_irng2, a_irng3, a_cxK, and_assoc, a_irev, a_ienum, a_cat, a_rep, a_pop, a_clear, a_rslL, a_ixL, a_ixT, a_setL, a_app,
    List.getElem?_cons_zero, List.getElem?_cons_succ, List.set_cons_zero, List.set_cons_succ, Option.some.injEq, V.int.injEq, V.bl.injEq, V.ref.injEq, V.ty.injEq, exists_eq_left', exists_eq_left, exists_and_left, decide_eq_true_eq, List.cons_append, List.nil_append, List.append_nil, List.cons.injEq, and_true, true_and, Bool.not_eq_true', decide_eq_false_iff_not, ite_true, ite_false, Bool.false_eq_true, if_true, if_false, List.length_cons, List.length_nil, L2.start, List.map_cons, List.map_nil, List.replicate_succ, List.replicate_zero])
      refine ⟨_, hz, j, ixN_nat (by rw [List.length_map]; exact hiz), (hPw _ _ _).mpr ⟨zs.set j (zs[j] - ys[j]), _, rfl, by rw [upd_same, map_set], by rw [List.length_set]; exact lz, fun t => ?_, sz.more f0⟩⟩
      rw [co_set _ _ _ _ hiz]
      by_cases e : t = j
      · subst e
        have := cz' t
        rw [if_neg (by omega), co_lt hiz] at this
        rw [if_pos rfl, if_pos (by omega), co_lt hj]; omega
      · rw [if_neg e, cz' t]
        by_cases h3 : t < j
        · rw [if_pos h3, if_pos (by omega)]
        · rw [if_neg h3, if_neg (by omega)]
    · intro σ H' hp'
      obtain ⟨zs, r1, rfl, hz, lz, cz', sz⟩ := (hPw _ _ _).mp hp'
      (try dsimp only [a_ipC, a_izip, a_tComp2, a_tryAs, a_drop_nx, a_raise, a_try, a_compIf, a_seq, a_next, a_brk, a_cnt, a_drop, a_ret, a_retN, a_if, a_asg, a_gname, a_gsub, a_gtup, a_gnil, a_gcons, a_aug, a_augS, a_ipI, a_var, a_c, a_op, a_un, a_rI, a_rI0, a_rU, a_eqI, a_neI, a_eqB, a_neB, a_tB, a_test, a_and, a_or, a_not, a_andV, a_orV, a_notV, a_ifE, a_chain, a_nil, a_cons, a_lst, a_tup, a_call, a_cb, a_bm0, a_bm, a_sl, a_nopart, a_part, a_tyI, a_for, a_comp, a_ilist, a_itup, a_irng1, a_irng2, a_irng3, a_cxK, a_irev, a_ienum, a_cat, a_rep, a_pop, a_clear, a_rslL, a_ixL, a_ixT, a_setL, a_app]); (try simp only [a_ipC, a_izip, a_tComp2, a_tryAs, a_drop_nx, a_raise, a_try, a_compIf, a_seq, a_next, a_brk, a_cnt, a_drop, a_ret, a_retN, a_if, a_asg, a_gname, a_gsub, a_gtup, a_gnil, a_gcons, a_aug, a_augS, a_ipI, a_var, a_c, a_op, a_un, a_rI, a_rI0, a_rU, a_eqI, a_neI, a_eqB, a_neB, a_tB, a_test, a_and, a_or, a_not, a_andV, a_orV, a_notV, a_ifE, a_chain, a_nil, a_cons, a_lst, a_tup, a_call, a_cb, a_bm0, a_bm, a_sl, a_nopart, a_part, a_tyI, a_for, a_comp, a_ilist, a_itup, a_irng1, a_irng2, a_irng3, a_cxK, and_assoc, a_irev, a_ienum, a_cat, a_rep, a_pop, a_clear, a_rslL, a_ixL, a_ixT, a_setL, a_app,
    List.getElem?_cons_zero, List.getElem?_cons_succ, List.set_cons_zero, List.set_cons_succ, Option.some.injEq, V.int.injEq, V.bl.injEq, V.ref.injEq, V.ty.injEq, exists_eq_left', exists_eq_left, exists_and_left, decide_eq_true_eq, List.cons_append, List.nil_append, List.append_nil, List.cons.injEq, and_true, true_and, Bool.not_eq_true', decide_eq_false_iff_not, ite_true, ite_false, Bool.false_eq_true, if_true, if_false, List.length_cons, List.length_nil, L2.start, List.map_cons, List.map_nil, List.replicate_succ, List.replicate_zero])
      refine ⟨F, zs, rfl, SqL.of hz, by omega, fun R H2 s2 nR eR => q (trim zs) (trim_nml _) (Nat.le_trans (trim_len _) (by omega)) (fun j => ?_) R _ (sz.trans s2) (sz.free nR) eR⟩
      rw [trim_co, cz' j]
      by_cases h3 : j < ys.length
      · rw [if_pos h3]
      · rw [if_neg h3, co_ge (xs := ys) (by omega)]
/-! #### _law_lowest, _law_fraction -/
def spLow : Sp := fun vs H Q _ => ∃ t b : Int, vs = [.int t, .int b] ∧ b ≠ 0 ∧ Bd 3000 b ∧ ∀ x y : Int, 1 ≤ y → Nat.gcd x.natAbs y.natAbs = 1 → x * b = t * y → x.natAbs ≤ t.natAbs → y.natAbs ≤ b.natAbs → mkT H Q x y
theorem ok__law_lowest {P : Program} {w : World} {K : PySem.W.Frag} {mg : Str → Option Value} {base : Heap} (T : Tx K mg) : FnOk P w K mg base CX0 2 T.a__law_lowest T.fd__law_lowest ["_law_top", "_law_bottom"] spLow := by
  refine T.F__law_lowest.ok sc__law_lowest (fun vs H Q E h => ?_) (fun cdv A outer s H vs Q E hr h => ?_)
  · obtain ⟨t, b, rfl, _⟩ := h
    rfl
  obtain ⟨t, b, rfl, hn, hb, q⟩ := h
  refine ⟨_, ((pss_cons (ps_set (i := 2) sc__law_lowest.nd rfl (Or.inl rfl) (pe_call (FnOk.mono (ok__law_divisor T) (by decide)) hr rfl T.m__law_divisor T.F__law_divisor.kp T.b__law_divisor .nil pass0 (pa_cons (pv 0) (pa_cons (pv 1) pa_nil))))
    (pss_cons (ps_if (pt_cmpR op_lt (pv 1) pe_int (nomark _)) (pss_one (ps_set (i := 2) sc__law_lowest.nd rfl (Or.inl rfl) (pe_un un_neg (pv 2)))) pss_nil)
    (pss_one (ps_ret (pe_tup (pa_cons (pe_op op_fdivB (pv 0) (pv 2)) (pa_cons (pe_op op_fdivB (pv 1) (pv 2)) pa_nil)))))))), ?_⟩
  (try dsimp only [a_ipC, a_izip, a_tComp2, a_tryAs, a_drop_nx, a_raise, a_try, a_compIf, a_seq, a_next, a_brk, a_cnt, a_drop, a_ret, a_retN, a_if, a_asg, a_gname, a_gsub, a_gtup, a_gnil, a_gcons, a_aug, a_augS, a_ipI, a_var, a_c, a_op, a_un, a_rI, a_rI0, a_rU, a_eqI, a_neI, a_eqB, a_neB, a_tB, a_test, a_and, a_or, a_not, a_andV, a_orV, a_notV, a_ifE, a_chain, a_nil, a_cons, a_lst, a_tup, a_call, a_cb, a_bm0, a_bm, a_sl, a_nopart, a_part, a_tyI, a_for, a_comp, a_ilist, a_itup, a_irng1, a_irng2, a_irng3, a_cxK, a_irev, a_ienum, a_cat, a_rep, a_pop, a_clear, a_rslL, a_ixL, a_ixT, a_setL, a_app]); (try simp only [a_ipC, a_izip, a_tComp2, a_tryAs, a_drop_nx, a_raise, a_try, a_compIf, a_seq, a_next, a_brk, a_cnt, a_drop, a_ret, a_retN, a_if, a_asg, a_gname, a_gsub, a_gtup, a_gnil, a_gcons, a_aug, a_augS, a_ipI, a_var, a_c, a_op, a_un, a_rI, a_rI0, a_rU, a_eqI, a_neI, a_eqB, a_neB, a_tB, a_test, a_and, a_or, a_not, a_andV, a_orV, a_notV, a_ifE, a_chain, a_nil, a_cons, a_lst, a_tup, a_call, a_cb, a_bm0, a_bm, a_sl, a_nopart, a_part, a_tyI, a_for, a_comp, a_ilist, a_itup, a_irng1, a_irng2, a_irng3, a_cxK, and_assoc, a_irev, a_ienum, a_cat, a_rep, a_pop, a_clear, a_rslL, a_ixL, a_ixT, a_setL, a_app,
    List.getElem?_cons_zero, List.getElem?_cons_succ, List.set_cons_zero, List.set_cons_succ, Option.some.injEq, V.int.injEq, V.bl.injEq, V.ref.injEq, V.ty.injEq, exists_eq_left', exists_eq_left, exists_and_left, decide_eq_true_eq, List.cons_append, List.nil_append, List.append_nil, List.cons.injEq, and_true, true_and, Bool.not_eq_true', decide_eq_false_iff_not, ite_true, ite_false, Bool.false_eq_true, if_true, if_false, List.length_cons, List.length_nil, L2.start, List.map_cons, List.map_nil, List.replicate_succ, List.replicate_zero])
  refine ⟨t, b, rfl, ?_⟩
  have small : ∀ s : Int, s.natAbs = Nat.gcd t.natAbs b.natAbs → s.natAbs < 2 ^ 9000 := fun s e => by
    rw [e]
    exact Nat.lt_of_le_of_lt (Nat.gcd_le_right _ (by omega)) (Nat.lt_of_lt_of_le hb (Nat.pow_le_pow_right (by decide) (by decide)))
  have fin : ∀ s : Int, (s = if b < 0 then -((Nat.gcd t.natAbs b.natAbs : Nat) : Int) else ((Nat.gcd t.natAbs b.natAbs : Nat) : Int)) → (s ≠ 0 ∧ s.natAbs < 2 ^ 9000) ∧ (s ≠ 0 ∧ s.natAbs < 2 ^ 9000) ∧ mkT H Q (t.fdiv s) (b.fdiv s) := fun s e => by
    obtain ⟨g1, g2, g3, g4, g5, g6⟩ := gcd_split hn e
    refine ⟨⟨g1, small s g2⟩, ⟨g1, small s g2⟩, q _ _ g5 g6 ?_ (fdiv_le g1 g3) (fdiv_le g1 g4)⟩
    rw [Int.mul_comm, g4, Int.mul_assoc, ← g4]
    generalize b.fdiv s = y at *
    generalize t.fdiv s = x at *
    rw [g3, Int.mul_assoc, Int.mul_comm x y]
  refine ite2 (fun hneg => ?_) (fun hneg => ?_)
  · obtain ⟨f1, f2, f3⟩ := fin _ (by rw [if_pos hneg])
    exact ⟨_, rfl, f1.1, f1.2, f2.1, f2.2, by decide, f3⟩
  · obtain ⟨f1, f2, f3⟩ := fin _ (by rw [if_neg hneg])
    exact ⟨_, rfl, f1.1, f1.2, _, rfl, f2.1, f2.2, by decide, f3⟩
def spFrac : Sp := fun vs H Q _ => ∃ c : Int, vs = [.int c] ∧ ∀ x y : Int, Frc (x, y) → Bd 200 x → y.natAbs ≤ 1000 → ∀ r H', Same H H' → H' r = some (.tup [.int x, .int y]) → Q (.ref r) H'
theorem ok__law_fraction {P : Program} {w : World} {K : PySem.W.Frag} {mg : Str → Option Value} {base : Heap} (T : Tx K mg) : FnOk P w K mg base CX0 3 T.a__law_fraction T.fd__law_fraction ["_law_cell"] spFrac := by
  refine T.F__law_fraction.ok sc__law_fraction (fun vs H Q E h => ?_) (fun cdv A outer s H vs Q E hr h => ?_)
  · obtain ⟨c, rfl, _⟩ := h
    rfl
  obtain ⟨c, rfl, q⟩ := h
  refine ⟨_, ((pss_cons (ps_set (i := 1) sc__law_fraction.nd rfl (Or.inl rfl) (pe_op op_mod (pv 0) pe_int))
    (pss_cons (ps_set (i := 1) sc__law_fraction.nd rfl (Or.inl rfl) (pe_op op_mod (pe_op op_mul (pe_op op_add (pe_op op_mulZ (pv 1) (pv 1)) pe_int) pe_int) pe_int))
    (pss_cons (ps_set (i := 2) sc__law_fraction.nd rfl (Or.inl rfl) (pe_ix ix_list (pe_lst (pa_cons pe_int (pa_cons pe_int (pa_cons (pe_op op_add pe_int (pe_op op_mod (pe_op op_fdiv (pv 1) pe_int) pe_int)) (pa_cons (pe_op op_add pe_int (pe_op op_mod (pe_op op_fdiv (pv 1) pe_int) pe_int)) pa_nil))))) (pe_op op_mod (pv 1) pe_int) (fun _ _ => rfl)))
    (pss_one (ps_ret (pe_call (FnOk.mono (ok__law_lowest T) (by decide)) hr rfl T.m__law_lowest T.F__law_lowest.kp T.b__law_lowest .nil pass0 (pa_cons (pe_call (FnOk.mono (ok__law_number T) (by decide)) hr rfl T.m__law_number T.F__law_number.kp T.b__law_number .nil pass0 (pa_cons (pv 0) (pa_cons (pe_op op_pow pe_int pe_int) pa_nil))) (pa_cons (pv 2) pa_nil))))))))), ?_⟩
  (try dsimp only [a_ipC, a_izip, a_tComp2, a_tryAs, a_drop_nx, a_raise, a_try, a_compIf, a_seq, a_next, a_brk, a_cnt, a_drop, a_ret, a_retN, a_if, a_asg, a_gname, a_gsub, a_gtup, a_gnil, a_gcons, a_aug, a_augS, a_ipI, a_var, a_c, a_op, a_un, a_rI, a_rI0, a_rU, a_eqI, a_neI, a_eqB, a_neB, a_tB, a_test, a_and, a_or, a_not, a_andV, a_orV, a_notV, a_ifE, a_chain, a_nil, a_cons, a_lst, a_tup, a_call, a_cb, a_bm0, a_bm, a_sl, a_nopart, a_part, a_tyI, a_for, a_comp, a_ilist, a_itup, a_irng1, a_irng2, a_irng3, a_cxK, a_irev, a_ienum, a_cat, a_rep, a_pop, a_clear, a_rslL, a_ixL, a_ixT, a_setL, a_app]); (try simp only [a_ipC, a_izip, a_tComp2, a_tryAs, a_drop_nx, a_raise, a_try, a_compIf, a_seq, a_next, a_brk, a_cnt, a_drop, a_ret, a_retN, a_if, a_asg, a_gname, a_gsub, a_gtup, a_gnil, a_gcons, a_aug, a_augS, a_ipI, a_var, a_c, a_op, a_un, a_rI, a_rI0, a_rU, a_eqI, a_neI, a_eqB, a_neB, a_tB, a_test, a_and, a_or, a_not, a_andV, a_orV, a_notV, a_ifE, a_chain, a_nil, a_cons, a_lst, a_tup, a_call, a_cb, a_bm0, a_bm, a_sl, a_nopart, a_part, a_tyI, a_for, a_comp, a_ilist, a_itup, a_irng1, a_irng2, a_irng3, a_cxK, and_assoc, a_irev, a_ienum, a_cat, a_rep, a_pop, a_clear, a_rslL, a_ixL, a_ixT, a_setL, a_app,
    List.getElem?_cons_zero, List.getElem?_cons_succ, List.set_cons_zero, List.set_cons_succ, Option.some.injEq, V.int.injEq, V.bl.injEq, V.ref.injEq, V.ty.injEq, exists_eq_left', exists_eq_left, exists_and_left, decide_eq_true_eq, List.cons_append, List.nil_append, List.append_nil, List.cons.injEq, and_true, true_and, Bool.not_eq_true', decide_eq_false_iff_not, ite_true, ite_false, Bool.false_eq_true, if_true, if_false, List.length_cons, List.length_nil, L2.start, List.map_cons, List.map_nil, List.replicate_succ, List.replicate_zero])
  obtain ⟨m, hm, m0, m1⟩ : ∃ m : Int, c % 2147483647 = m ∧ 0 ≤ m ∧ m < 2147483647 := ⟨_, rfl, by omega, by omega⟩
  rw [hm]
  have bm : Bd 31 m := Bd.of_lt (m := 2147483647) (by omega) (by decide)
  obtain ⟨k, hk, k0, k1⟩ : ∃ k : Int, (m * m + 11) * 48271 % 2147483629 = k ∧ 0 ≤ k ∧ k < 2147483629 := by
    generalize (m * m + 11) * 48271 = z
    exact ⟨_, rfl, by omega, by omega⟩
  rw [hk]
  refine ⟨by decide, bm.fits bm (by decide), .inr ⟨by decide, by decide⟩, by decide, ⟨by decide, by decide⟩, by decide, ⟨by decide, by decide⟩, by decide, by decide, fun p hp => ⟨by decide, ?_⟩⟩
  obtain ⟨b, hb, b1, b2⟩ : ∃ b : Int, atI [V.int 1, V.int 1, V.int (1 + k / 4 % 12), V.int (1 + k / 4 % 1000)] (k % 4) = some (V.int b) ∧ 1 ≤ b ∧ b ≤ 1000 := by
    have : k % 4 = 0 ∨ k % 4 = 1 ∨ k % 4 = 2 ∨ k % 4 = 3 := by omega
    rcases this with e | e | e | e <;> rw [e]
    · exact ⟨1, rfl, by decide, by decide⟩
    · exact ⟨1, rfl, by decide, by decide⟩
    · exact ⟨1 + k / 4 % 12, rfl, by omega, by omega⟩
    · exact ⟨1 + k / 4 % 1000, rfl, by omega, by omega⟩
  refine ⟨_, SqL.of upd_same, _, hb, ⟨by decide, by decide, by decide⟩, c, rfl, num c, b, rfl, by omega, Bd.of_lt (m := 1001) (by omega) (Nat.le_trans (show 1001 ≤ 2 ^ 10 by decide) (Nat.pow_le_pow_right (by decide) (by decide))), fun x y y1 cg e lx ly r nr => ?_⟩
  exact q x y ⟨y1, cg⟩ (Nat.lt_of_le_of_lt lx (num_bd c)) (by omega) r _ ((same_upd hp _).trans (same_upd nr _)) upd_same
/-! #### split -/
def spWei (K : PySem.W.Frag) : Sp := fun vs H Q _ => ∃ (R Vp : Addr) (as bs : List Addr) (ps : List (List Int)) (fs : List (Int × Int)) (n : Nat), vs = [.ref R, .ref Vp, .int n] ∧ SqL K H R (as.map V.ref) ∧ LL K H as ps ∧ SqL K H Vp (bs.map V.ref) ∧ TL K H bs fs ∧ ps.length ≤ 6 ∧ n + ps.length ≤ fs.length ∧ n ≤ 500 ∧ (∀ p ∈ ps, p.length ≤ 64 ∧ ∀ x ∈ p, Bd 1300 x) ∧ (∀ f ∈ fs, Frc f ∧ Bd 3000 f.1 ∧ Bd 400 f.2) ∧
  ∀ t b : Int, (t = 0 ↔ Kp ps fs n) → ∀ r H', Same H H' → H' r = some (.tup [.int t, .int b]) → Q (.ref r) H'
theorem Wm_scale {M k : Int} : ∀ {gs : List (Int × (Int × Int))}, (∀ g ∈ gs, 1 ≤ g.2.2 ∧ g.2.2 ∣ M) → Wm (M * k) gs = k * Wm M gs
  | [], _ => by simp [Wm]
  | g :: gs, h => by
    have ih := Wm_scale (k := k) (gs := gs) fun f hf => h f (by simp [hf])
    simp only [Wm]
    rw [ih, fdiv_mul_of (h g (by simp)).1 (h g (by simp)).2]; grind
theorem lcm_snoc : ∀ (fs : List (Int × Int)) (f : Int × Int), lcmL (fs ++ [f]) = lcmL fs * f.2
  | [], f => by simp [lcmL]
  | g :: fs, f => by rw [List.cons_append]; simp only [lcmL]; rw [lcm_snoc fs f, Int.mul_assoc]
theorem ok__law_weighed {P : Program} {w : World} {K : PySem.W.Frag} {mg : Str → Option Value} {base : Heap} (T : Tx K mg) : FnOk P w K mg base CX0 2 T.a__law_weighed T.fd__law_weighed ["_law_rule_here", "_law_values_here", "_law_n"] (spWei K) := by
  refine T.F__law_weighed.ok sc__law_weighed (fun vs H Q E h => ?_) (fun cdv A outer s H vs Q E hr h => ?_)
  · obtain ⟨R, Vp, as, bs, ps, fs, n, rfl, _⟩ := h
    rfl
  obtain ⟨R, Vp, as, bs, ps, fs, n, rfl, hR, hL, hV, hT, l6, nf, n5, hp, hf, q⟩ := h
  refine ⟨_, ((pss_cons (ps_set (i := 3) sc__law_weighed.nd rfl (Or.inl rfl) pe_int)
    (pss_cons (ps_set (i := 4) sc__law_weighed.nd rfl (Or.inl rfl) pe_int)
    (pss_cons (ps_for PassesOwn.never rfl (pi_range1 rfl T.z_range (pa_cons (pe_callB call_len_seq rfl T.z_len bt_len (pa_cons (pv 0) pa_nil)) pa_nil)) (pg_name (i := 5) sc__law_weighed.nd rfl (Or.inl rfl)) (pss_cons (ps_set (i := 3) sc__law_weighed.nd rfl (Or.inl rfl) (pe_op op_add (pe_op op_mulZ (pv 3) (pe_ix ix_tup (pe_ix ix_list (pv 1) (pe_op op_add (pv 2) (pv 5)) (fun _ _ => rfl)) pe_int (fun _ _ => rfl))) (pe_op op_mulZ (pe_op op_mulZ (pe_call (FnOk.mono (ok__law_value T) (by decide)) hr rfl T.m__law_value T.F__law_value.kp T.b__law_value .nil pass0 (pa_cons (pe_ix ix_list (pv 0) (pv 5) (fun _ _ => rfl)) (pa_cons (pv 2) pa_nil))) (pe_ix ix_tup (pe_ix ix_list (pv 1) (pe_op op_add (pv 2) (pv 5)) (fun _ _ => rfl)) pe_int (fun _ _ => rfl))) (pv 4))))
    (pss_one (ps_set (i := 4) sc__law_weighed.nd rfl (Or.inl rfl) (pe_op op_mulZ (pv 4) (pe_ix ix_tup (pe_ix ix_list (pv 1) (pe_op op_add (pv 2) (pv 5)) (fun _ _ => rfl)) pe_int (fun _ _ => rfl)))))))
    (pss_one (ps_ret (pe_tup (pa_cons (pv 3) (pa_cons (pv 4) pa_nil))))))))), ?_⟩
  (try dsimp only [a_ipC, a_izip, a_tComp2, a_tryAs, a_drop_nx, a_raise, a_try, a_compIf, a_seq, a_next, a_brk, a_cnt, a_drop, a_ret, a_retN, a_if, a_asg, a_gname, a_gsub, a_gtup, a_gnil, a_gcons, a_aug, a_augS, a_ipI, a_var, a_c, a_op, a_un, a_rI, a_rI0, a_rU, a_eqI, a_neI, a_eqB, a_neB, a_tB, a_test, a_and, a_or, a_not, a_andV, a_orV, a_notV, a_ifE, a_chain, a_nil, a_cons, a_lst, a_tup, a_call, a_cb, a_bm0, a_bm, a_sl, a_nopart, a_part, a_tyI, a_for, a_comp, a_ilist, a_itup, a_irng1, a_irng2, a_irng3, a_cxK, a_irev, a_ienum, a_cat, a_rep, a_pop, a_clear, a_rslL, a_ixL, a_ixT, a_setL, a_app]); (try simp only [a_ipC, a_izip, a_tComp2, a_tryAs, a_drop_nx, a_raise, a_try, a_compIf, a_seq, a_next, a_brk, a_cnt, a_drop, a_ret, a_retN, a_if, a_asg, a_gname, a_gsub, a_gtup, a_gnil, a_gcons, a_aug, a_augS, a_ipI, a_var, a_c, a_op, a_un, a_rI, a_rI0, a_rU, a_eqI, a_neI, a_eqB, a_neB, a_tB, a_test, a_and, a_or, a_not, a_andV, a_orV, a_notV, a_ifE, a_chain, a_nil, a_cons, a_lst, a_tup, a_call, a_cb, a_bm0, a_bm, a_sl, a_nopart, a_part, a_tyI, a_for, a_comp, a_ilist, a_itup, a_irng1, a_irng2, a_irng3, a_cxK, and_assoc, a_irev, a_ienum, a_cat, a_rep, a_pop, a_clear, a_rslL, a_ixL, a_ixT, a_setL, a_app,
    List.getElem?_cons_zero, List.getElem?_cons_succ, List.set_cons_zero, List.set_cons_succ, Option.some.injEq, V.int.injEq, V.bl.injEq, V.ref.injEq, V.ty.injEq, exists_eq_left', exists_eq_left, exists_and_left, decide_eq_true_eq, List.cons_append, List.nil_append, List.append_nil, List.cons.injEq, and_true, true_and, Bool.not_eq_true', decide_eq_false_iff_not, ite_true, ite_false, Bool.false_eq_true, if_true, if_false, List.length_cons, List.length_nil, L2.start, List.map_cons, List.map_nil, List.replicate_succ, List.replicate_zero])
  refine ⟨_, .inl hR, ?_⟩
  rw [List.length_map, hL.len, Int.toNat_natCast]
  refine ⟨by omega, by omega, ?_⟩
  unfold Kp at q
  have hC := hT.part n ps.length
  have hcf : ∀ f ∈ (fs.drop n).take ps.length, Frc f ∧ Bd 3000 f.1 ∧ Bd 400 f.2 := fun f h => hf f (List.mem_of_mem_drop (List.mem_of_mem_take h))
  have lc : ((fs.drop n).take ps.length).length = ps.length := by rw [List.length_take, List.length_drop]; omega
  have cg : ∀ i f, ((fs.drop n).take ps.length)[i]? = some f → fs[n + i]? = some f := fun i f h => by
    have hi : i < ps.length := by have := (List.getElem?_eq_some_iff.mp h).1; omega
    rw [List.getElem?_take_of_lt hi, List.getElem?_drop] at h; exact h
  generalize (fs.drop n).take ps.length = c at hC hcf lc q cg
  obtain ⟨Pv, hPv⟩ : ∃ Pv : Nat → L2.St → Hp → Prop, ∀ i σ Hx, Pv i σ Hx ↔ ∃ (t b : Int) (r5 : Option V), σ = [some (V.ref R), some (V.ref Vp), some (V.int n), some (V.int t), some (V.int b), r5] ∧ Hx = H ∧ t = Wm (lcmL (c.take i)) (((ps.map (val (n : Int))).zip c).take i) ∧ b = lcmL (c.take i) ∧ Bd (5100 + 500 * i) t ∧ Bd (400 * i + 1) b := ⟨_, fun _ _ _ => Iff.rfl⟩
  refine lp_range Pv ((hPv _ _ _).mpr ⟨0, 1, none, rfl, rfl, by simp [Wm], by simp [lcmL], Bd.zero _, Bd.one (by decide)⟩) ?_ ?_
  · intro i σ Hx hi hpp
    obtain ⟨t, b, r5, rfl, rfl, ht, hb, bt, bb⟩ := (hPv _ _ _).mp hpp
    have hic : i < c.length := by omega
    have hgc : c[i]? = some c[i] := List.getElem?_eq_getElem hic
    have hfi := cg i c[i] hgc
    obtain ⟨hnb, hfe⟩ := List.getElem?_eq_some_iff.mp hfi
    have hbb : n + i < bs.length := by rw [hT.len]; exact hnb
    have hia : i < as.length := by rw [hL.len]; exact hi
    have e1 : (0 : Int) + (i : Int) = (i : Int) := Int.zero_add _
    have e2 : (n : Int) + (i : Int) = ((n + i : Nat) : Int) := rfl
    have atV : atI (bs.map V.ref) ((n + i : Nat) : Int) = some (V.ref bs[n + i]) := by
      unfold atI
      rw [ixN_nat (by rw [List.length_map]; exact hbb)]
      show (bs.map V.ref)[n + i]? = _
      rw [List.getElem?_map, List.getElem?_eq_getElem hbb]; rfl
    have atR : atI (as.map V.ref) (i : Int) = some (V.ref as[i]) := by
      unfold atI
      rw [ixN_nat (by rw [List.length_map]; exact hia)]
      show (as.map V.ref)[i]? = _
      rw [List.getElem?_map, List.getElem?_eq_getElem hia]; rfl
    have sT := hT.get (n + i) bs[n + i] c[i] (List.getElem?_eq_getElem hbb) hfi
    have sL := hL.get i as[i] ps[i] (List.getElem?_eq_getElem hia) (List.getElem?_eq_getElem hi)
    have pok := hp ps[i] (List.getElem_mem hi)
    have fok := hcf c[i] (List.getElem_mem hic)
    have bn : Bd 9 (n : Int) := Bd.of_lt (m := 501) (by omega) (by decide)
    have bv : Bd 2000 (val (n : Int) ps[i]) := (val_bd bn _ pok.2).mono (by omega)
    (try dsimp only [a_ipC, a_izip, a_tComp2, a_tryAs, a_drop_nx, a_raise, a_try, a_compIf, a_seq, a_next, a_brk, a_cnt, a_drop, a_ret, a_retN, a_if, a_asg, a_gname, a_gsub, a_gtup, a_gnil, a_gcons, a_aug, a_augS, a_ipI, a_var, a_c, a_op, a_un, a_rI, a_rI0, a_rU, a_eqI, a_neI, a_eqB, a_neB, a_tB, a_test, a_and, a_or, a_not, a_andV, a_orV, a_notV, a_ifE, a_chain, a_nil, a_cons, a_lst, a_tup, a_call, a_cb, a_bm0, a_bm, a_sl, a_nopart, a_part, a_tyI, a_for, a_comp, a_ilist, a_itup, a_irng1, a_irng2, a_irng3, a_cxK, a_irev, a_ienum, a_cat, a_rep, a_pop, a_clear, a_rslL, a_ixL, a_ixT, a_setL, a_app]); (try simp only [a_ipC, a_izip, a_tComp2, a_tryAs, a_drop_nx, a_raise, a_try, a_compIf, a_seq, a_next, a_brk, a_cnt, a_drop, a_ret, a_retN, a_if, a_asg, a_gname, a_gsub, a_gtup, a_gnil, a_gcons, a_aug, a_augS, a_ipI, a_var, a_c, a_op, a_un, a_rI, a_rI0, a_rU, a_eqI, a_neI, a_eqB, a_neB, a_tB, a_test, a_and, a_or, a_not, a_andV, a_orV, a_notV, a_ifE, a_chain, a_nil, a_cons, a_lst, a_tup, a_call, a_cb, a_bm0, a_bm, a_sl, a_nopart, a_part, a_tyI, a_for, a_comp, a_ilist, a_itup, a_irng1, a_irng2, a_irng3, a_cxK, and_assoc, a_irev, a_ienum, a_cat, a_rep, a_pop, a_clear, a_rslL, a_ixL, a_ixT, a_setL, a_app,
    List.getElem?_cons_zero, List.getElem?_cons_succ, List.set_cons_zero, List.set_cons_succ, Option.some.injEq, V.int.injEq, V.bl.injEq, V.ref.injEq, V.ty.injEq, exists_eq_left', exists_eq_left, exists_and_left, decide_eq_true_eq, List.cons_append, List.nil_append, List.append_nil, List.cons.injEq, and_true, true_and, Bool.not_eq_true', decide_eq_false_iff_not, ite_true, ite_false, Bool.false_eq_true, if_true, if_false, List.length_cons, List.length_nil, L2.start, List.map_cons, List.map_nil, List.replicate_succ, List.replicate_zero, e1, e2])
    have bvx := bv.mul fok.2.1
    refine ⟨_, hV, _, atV, _, rfl, _, sT, _, rfl, _, rfl, bt.fits fok.2.2 (by omega), _, hR, _, atR, as[i], ps[i], n, 1300, 9, rfl, sL, pok.1, pok.2, bn, by decide, _, hV, _, atV, _, rfl, _, sT, _, rfl, _, rfl, _, rfl, bv.fits fok.2.1 (by decide), bvx.fits bb (by omega), _, hV, _, atV, _, rfl, _, sT, _, rfl, _, rfl, bb.fits fok.2.2 (by omega), (hPv _ _ _).mpr ⟨_, _, _, rfl, rfl, ?_, ?_, ?_, (bb.mul fok.2.2).mono (by omega)⟩⟩
    · have et : c.take (i + 1) = c.take i ++ [c[i]] := by rw [List.take_succ, hgc]; rfl
      have ez : ((ps.map (val (n : Int))).zip c).take (i + 1) = ((ps.map (val (n : Int))).zip c).take i ++ [(val (n : Int) ps[i], c[i])] := by
        have e : ((ps.map (val (n : Int))).zip c)[i]? = some (val (n : Int) ps[i], c[i]) := by
          rw [List.getElem?_zip_eq_some]
          exact ⟨by rw [List.getElem?_map, List.getElem?_eq_getElem hi]; rfl, hgc⟩
        rw [List.take_succ, e]; rfl
      have hz : ∀ g ∈ ((ps.map (val (n : Int))).zip c).take i, 1 ≤ g.2.2 ∧ g.2.2 ∣ lcmL (c.take i) := fun g hg => by
        obtain ⟨j, e⟩ := List.mem_iff_getElem?.mp hg
        have hj : j < i := by have := (List.getElem?_eq_some_iff.mp e).1; rw [List.length_take] at this; omega
        rw [List.getElem?_take_of_lt hj, List.getElem?_zip_eq_some] at e
        have m : g.2 ∈ c.take i := List.mem_iff_getElem?.mpr ⟨j, by rw [List.getElem?_take_of_lt hj]; exact e.2⟩
        exact ⟨(hcf g.2 (List.mem_of_mem_take m)).1.1, lcm_dvd _ g.2 m⟩
      rw [et, ez, lcm_snoc, Wm_snoc, Wm_scale hz, ht, hb]
      show _ = _ + val (n : Int) ps[i] * c[i].1 * (lcmL (c.take i) * c[i].2).fdiv c[i].2
      rw [Int.mul_fdiv_cancel _ (by have := fok.1.1; omega)]
      grind
    · rw [List.take_succ, hgc]
      show _ = lcmL (c.take i ++ [c[i]])
      rw [lcm_snoc, hb]
    · exact (((bt.mul fok.2.2).mono (l := 5599 + 500 * i) (by omega)).add ((bvx.mul bb).mono (by omega))).mono (by omega)
  · intro σ Hx hpp
    obtain ⟨t, b, r5, rfl, rfl, ht, hb, bt, bb⟩ := (hPv _ _ _).mp hpp
    rw [← lc, List.take_length, List.take_of_length_le (by rw [List.length_zip, List.length_map]; omega)] at ht
    (try dsimp only [a_ipC, a_izip, a_tComp2, a_tryAs, a_drop_nx, a_raise, a_try, a_compIf, a_seq, a_next, a_brk, a_cnt, a_drop, a_ret, a_retN, a_if, a_asg, a_gname, a_gsub, a_gtup, a_gnil, a_gcons, a_aug, a_augS, a_ipI, a_var, a_c, a_op, a_un, a_rI, a_rI0, a_rU, a_eqI, a_neI, a_eqB, a_neB, a_tB, a_test, a_and, a_or, a_not, a_andV, a_orV, a_notV, a_ifE, a_chain, a_nil, a_cons, a_lst, a_tup, a_call, a_cb, a_bm0, a_bm, a_sl, a_nopart, a_part, a_tyI, a_for, a_comp, a_ilist, a_itup, a_irng1, a_irng2, a_irng3, a_cxK, a_irev, a_ienum, a_cat, a_rep, a_pop, a_clear, a_rslL, a_ixL, a_ixT, a_setL, a_app]); (try simp only [a_ipC, a_izip, a_tComp2, a_tryAs, a_drop_nx, a_raise, a_try, a_compIf, a_seq, a_next, a_brk, a_cnt, a_drop, a_ret, a_retN, a_if, a_asg, a_gname, a_gsub, a_gtup, a_gnil, a_gcons, a_aug, a_augS, a_ipI, a_var, a_c, a_op, a_un, a_rI, a_rI0, a_rU, a_eqI, a_neI, a_eqB, a_neB, a_tB, a_test, a_and, a_or, a_not, a_andV, a_orV, a_notV, a_ifE, a_chain, a_nil, a_cons, a_lst, a_tup, a_call, a_cb, a_bm0, a_bm, a_sl, a_nopart, a_part, a_tyI, a_for, a_comp, a_ilist, a_itup, a_irng1, a_irng2, a_irng3, a_cxK, and_assoc, a_irev, a_ienum, a_cat, a_rep, a_pop, a_clear, a_rslL, a_ixL, a_ixT, a_setL, a_app,
    List.getElem?_cons_zero, List.getElem?_cons_succ, List.set_cons_zero, List.set_cons_succ, Option.some.injEq, V.int.injEq, V.bl.injEq, V.ref.injEq, V.ty.injEq, exists_eq_left', exists_eq_left, exists_and_left, decide_eq_true_eq, List.cons_append, List.nil_append, List.append_nil, List.cons.injEq, and_true, true_and, Bool.not_eq_true', decide_eq_false_iff_not, ite_true, ite_false, Bool.false_eq_true, if_true, if_false, List.length_cons, List.length_nil, L2.start, List.map_cons, List.map_nil, List.replicate_succ, List.replicate_zero])
    exact ⟨by decide, fun p hp1 => q t b (by rw [ht]) p _ (same_upd hp1 _) upd_same⟩
/-! #### split -/
def spIs2 (c d : Addr) : Sp := fun vs H Q _ => ∃ (e : Addr) (at' : Int) (b : Bool), vs = [.ref e, .int at'] ∧ ((H e = some (IsExc e c) ∧ at' = 0 ∧ b = true) ∨ (H e = some (IsExc e c) ∧ at' = 5 ∧ b = false) ∨ (H e = some (IsExc e d) ∧ at' = 5 ∧ b = true)) ∧ ∀ H', Same H H' → Q (.bl b) H'
theorem ok__law_is {P : Program} {w : World} {K : PySem.W.Frag} {mg : Str → Option Value} {base : Heap} (T : Tx K mg) : FnOk P w K mg base CX0 2 T.a__law_is T.fd__law_is ["_law_caught", "_law_at"] (spIs2 T.c_NoRule T.c_NoPlace) := by
  refine T.F__law_is.ok sc__law_is (fun vs H Q E h => ?_) (fun cdv A outer s H vs Q E hr h => ?_)
  · obtain ⟨e, at', b, rfl, _⟩ := h
    rfl
  obtain ⟨e, at', b, rfl, hcase, q⟩ := h
  obtain ⟨c, b0, b1, b2, b3, b4, b5, b6, b7, b8, b9, hE, X, h0, h1, h2, h3, h4, h5, h6, h7, h8, h9, kv, hv⟩ : ∃ (c : Addr) (b0 b1 b2 b3 b4 b5 b6 b7 b8 b9 : Bool), H e = some (IsExc e c) ∧ ExCls K c ∧ PySem.W.kitOne K (.ref c) (.ref T.c_NoRule) = some b0 ∧ PySem.W.kitOne K (.ref c) (.ref T.c_TooGreat) = some b1 ∧ PySem.W.kitOne K (.ref c) (.ref T.c_TooFew) = some b2 ∧ PySem.W.kitOne K (.ref c) (.ref T.c_NotKept) = some b3 ∧ PySem.W.kitOne K (.ref c) (.ref T.c_NoNumber) = some b4 ∧ PySem.W.kitOne K (.ref c) (.ref T.c_NoPlace) = some b5 ∧ PySem.W.kitOne K (.ref c) (.ref T.c_NoTerm) = some b6 ∧ PySem.W.kitOne K (.ref c) (.ref T.c_NoEnds) = some b7 ∧ PySem.W.kitOne K (.ref c) (.ref T.c_NoLine) = some b8 ∧ PySem.W.kitOne K (.ref c) (.ref T.c_NoName) = some b9 ∧ PySem.W.kitOne K (.ref c) (.type "ValueError") = some true ∧ (((b0 = true ∧ b1 = false ∧ b2 = false ∧ b3 = false ∧ b4 = false ∧ b5 = false ∧ b6 = false ∧ b7 = false ∧ b8 = false ∧ b9 = false) ∧ at' = 0 ∧ b = true) ∨ ((b0 = true ∧ b1 = false ∧ b2 = false ∧ b3 = false ∧ b4 = false ∧ b5 = false ∧ b6 = false ∧ b7 = false ∧ b8 = false ∧ b9 = false) ∧ at' = 5 ∧ b = false) ∨ ((b0 = false ∧ b1 = false ∧ b2 = false ∧ b3 = false ∧ b4 = false ∧ b5 = true ∧ b6 = false ∧ b7 = false ∧ b8 = false ∧ b9 = false) ∧ at' = 5 ∧ b = true)) := by
    rcases hcase with ⟨hE, rfl, rfl⟩ | ⟨hE, rfl, rfl⟩ | ⟨hE, rfl, rfl⟩
    · exact ⟨T.c_NoRule, true, false, false, false, false, false, false, false, false, false, hE, T.ec_NoRule, T.ki_NoRule_NoRule, T.ki_NoRule_TooGreat, T.ki_NoRule_TooFew, T.ki_NoRule_NotKept, T.ki_NoRule_NoNumber, T.ki_NoRule_NoPlace, T.ki_NoRule_NoTerm, T.ki_NoRule_NoEnds, T.ki_NoRule_NoLine, T.ki_NoRule_NoName, T.ki_NoRule_ValueError, .inl (by simp)⟩
    · exact ⟨T.c_NoRule, true, false, false, false, false, false, false, false, false, false, hE, T.ec_NoRule, T.ki_NoRule_NoRule, T.ki_NoRule_TooGreat, T.ki_NoRule_TooFew, T.ki_NoRule_NotKept, T.ki_NoRule_NoNumber, T.ki_NoRule_NoPlace, T.ki_NoRule_NoTerm, T.ki_NoRule_NoEnds, T.ki_NoRule_NoLine, T.ki_NoRule_NoName, T.ki_NoRule_ValueError, .inr (.inl (by simp))⟩
    · exact ⟨T.c_NoPlace, false, false, false, false, false, true, false, false, false, false, hE, T.ec_NoPlace, T.ki_NoPlace_NoRule, T.ki_NoPlace_TooGreat, T.ki_NoPlace_TooFew, T.ki_NoPlace_NotKept, T.ki_NoPlace_NoNumber, T.ki_NoPlace_NoPlace, T.ki_NoPlace_NoTerm, T.ki_NoPlace_NoEnds, T.ki_NoPlace_NoLine, T.ki_NoPlace_NoName, T.ki_NoPlace_ValueError, .inr (.inr (by simp))⟩
  clear hcase
  refine ⟨_, ((pss_mid (ps_set (i := 2) sc__law_is.nd rfl (Or.inl rfl) (pe_lst (pa_cons (pe_callB call_isinstE rfl T.z_isinstance bt_isinstance (pa_cons (pv 0) (pa_cons (pe_glob (v := .ref T.c_NoRule) rfl T.mc_NoRule rfl) pa_nil))) (pa_cons (pe_callB call_isinstE rfl T.z_isinstance bt_isinstance (pa_cons (pv 0) (pa_cons (pe_glob (v := .ref T.c_TooGreat) rfl T.mc_TooGreat rfl) pa_nil))) (pa_cons (pe_callB call_isinstE rfl T.z_isinstance bt_isinstance (pa_cons (pv 0) (pa_cons (pe_glob (v := .ref T.c_TooFew) rfl T.mc_TooFew rfl) pa_nil))) pa_nil)))))
    (pss_mid (ps_set (i := 2) sc__law_is.nd rfl (Or.inl rfl) (pe_op op_cat (pv 2) (pe_lst (pa_cons (pe_callB call_isinstE rfl T.z_isinstance bt_isinstance (pa_cons (pv 0) (pa_cons (pe_glob (v := .ref T.c_NotKept) rfl T.mc_NotKept rfl) pa_nil))) (pa_cons (pe_callB call_isinstE rfl T.z_isinstance bt_isinstance (pa_cons (pv 0) (pa_cons (pe_glob (v := .ref T.c_NoNumber) rfl T.mc_NoNumber rfl) pa_nil))) (pa_cons (pe_callB call_isinstE rfl T.z_isinstance bt_isinstance (pa_cons (pv 0) (pa_cons (pe_glob (v := .ref T.c_NoPlace) rfl T.mc_NoPlace rfl) pa_nil))) pa_nil))))))
    (pss_mid (ps_set (i := 2) sc__law_is.nd rfl (Or.inl rfl) (pe_op op_cat (pv 2) (pe_lst (pa_cons (pe_callB call_isinstE rfl T.z_isinstance bt_isinstance (pa_cons (pv 0) (pa_cons (pe_glob (v := .ref T.c_NoTerm) rfl T.mc_NoTerm rfl) pa_nil))) (pa_cons (pe_callB call_isinstE rfl T.z_isinstance bt_isinstance (pa_cons (pv 0) (pa_cons (pe_glob (v := .ref T.c_NoEnds) rfl T.mc_NoEnds rfl) pa_nil))) (pa_cons (pe_callB call_isinstE rfl T.z_isinstance bt_isinstance (pa_cons (pv 0) (pa_cons (pe_glob (v := .ref T.c_NoLine) rfl T.mc_NoLine rfl) pa_nil))) pa_nil))))))
    (pss_mid (ps_set (i := 2) sc__law_is.nd rfl (Or.inl rfl) (pe_op op_cat (pv 2) (pe_lst (pa_cons (pe_callB call_isinstE rfl T.z_isinstance bt_isinstance (pa_cons (pv 0) (pa_cons (pe_glob (v := .ref T.c_NoName) rfl T.mc_NoName rfl) pa_nil))) pa_nil))))
    (pss_cons (ps_if (pt_cmpR (op_neD hr.units) (pv 2) (pe_lcomp rfl (blkok rfl (sub_cons rfl sub_nil) (fv_cons 1 "_law_at" (by decide) rfl (Or.inl rfl) (Or.inl rfl) ⟨_, rfl⟩ fv_nil)) (pi_range1 rfl T.z_range (pa_cons pe_int pa_nil)) (fun _ _ _ _ => (pe_cmpR op_eq (pv 0) (pv 1) (nomark _)))) (nomark _)) (pss_one (ps_ret pe_bl)) pss_nil)
    (pss_one (ps_ret (pe_or (pe_and (pe_cmpR op_eq (pv 1) pe_int (nomark _)) (pe_one (pe_cmpR op_isN (pv 0) pe_non (nomark _)))) (pe_one (pe_callB call_isinstE rfl T.z_isinstance bt_isinstance (pa_cons (pv 0) (pa_cons (pe_bltn (v := .ty "ValueError") rfl T.z_ValueError bt_ValueError rfl) pa_nil))))))))))))), ?_⟩
  obtain ⟨M, hM⟩ : ∃ M : L2.St → Hp → Prop, ∀ σ Hx, M σ Hx ↔ ∃ D : Addr, σ = [some (V.ref e), some (V.int at'), some (V.ref D)] ∧ Hx D = some (.lst [V.bl b0, V.bl b1, V.bl b2]) ∧ Same H Hx := ⟨_, fun _ _ => Iff.rfl⟩
  refine mid_of M ?_ ?_
  · (try dsimp only [a_ipC, a_izip, a_tComp2, a_tryAs, a_drop_nx, a_raise, a_try, a_compIf, a_seq, a_next, a_brk, a_cnt, a_drop, a_ret, a_retN, a_if, a_asg, a_gname, a_gsub, a_gtup, a_gnil, a_gcons, a_aug, a_augS, a_ipI, a_var, a_c, a_op, a_un, a_rI, a_rI0, a_rU, a_eqI, a_neI, a_eqB, a_neB, a_tB, a_test, a_and, a_or, a_not, a_andV, a_orV, a_notV, a_ifE, a_chain, a_nil, a_cons, a_lst, a_tup, a_call, a_cb, a_bm0, a_bm, a_sl, a_nopart, a_part, a_tyI, a_for, a_comp, a_ilist, a_itup, a_irng1, a_irng2, a_irng3, a_cxK, a_irev, a_ienum, a_cat, a_rep, a_pop, a_clear, a_rslL, a_ixL, a_ixT, a_setL, a_app]); (try simp only [a_ipC, a_izip, a_tComp2, a_tryAs, a_drop_nx, a_raise, a_try, a_compIf, a_seq, a_next, a_brk, a_cnt, a_drop, a_ret, a_retN, a_if, a_asg, a_gname, a_gsub, a_gtup, a_gnil, a_gcons, a_aug, a_augS, a_ipI, a_var, a_c, a_op, a_un, a_rI, a_rI0, a_rU, a_eqI, a_neI, a_eqB, a_neB, a_tB, a_test, a_and, a_or, a_not, a_andV, a_orV, a_notV, a_ifE, a_chain, a_nil, a_cons, a_lst, a_tup, a_call, a_cb, a_bm0, a_bm, a_sl, a_nopart, a_part, a_tyI, a_for, a_comp, a_ilist, a_itup, a_irng1, a_irng2, a_irng3, a_cxK, and_assoc, a_irev, a_ienum, a_cat, a_rep, a_pop, a_clear, a_rslL, a_ixL, a_ixT, a_setL, a_app,
    List.getElem?_cons_zero, List.getElem?_cons_succ, List.set_cons_zero, List.set_cons_succ, Option.some.injEq, V.int.injEq, V.bl.injEq, V.ref.injEq, V.ty.injEq, exists_eq_left', exists_eq_left, exists_and_left, decide_eq_true_eq, List.cons_append, List.nil_append, List.append_nil, List.cons.injEq, and_true, true_and, Bool.not_eq_true', decide_eq_false_iff_not, ite_true, ite_false, Bool.false_eq_true, if_true, if_false, List.length_cons, List.length_nil, L2.start, List.map_cons, List.map_nil, List.replicate_succ, List.replicate_zero])
    exact ⟨_, _, rfl, hE, X, _, h0, _, _, rfl, hE, X, _, h1, _, _, rfl, hE, X, _, h2, by decide, fun D nD => (hM _ _).mpr ⟨D, rfl, upd_same, same_upd nD _⟩⟩
  intro σ G1 hm
  obtain ⟨D1, rfl, g1, w1⟩ := (hM _ _).mp hm
  clear hm hM M
  have E1 := w1 _ _ hE
  obtain ⟨M, hM⟩ : ∃ M : L2.St → Hp → Prop, ∀ σ Hx, M σ Hx ↔ ∃ D : Addr, σ = [some (V.ref e), some (V.int at'), some (V.ref D)] ∧ Hx D = some (.lst [V.bl b0, V.bl b1, V.bl b2, V.bl b3, V.bl b4, V.bl b5]) ∧ Same H Hx := ⟨_, fun _ _ => Iff.rfl⟩
  refine mid_of M ?_ ?_
  · (try dsimp only [a_ipC, a_izip, a_tComp2, a_tryAs, a_drop_nx, a_raise, a_try, a_compIf, a_seq, a_next, a_brk, a_cnt, a_drop, a_ret, a_retN, a_if, a_asg, a_gname, a_gsub, a_gtup, a_gnil, a_gcons, a_aug, a_augS, a_ipI, a_var, a_c, a_op, a_un, a_rI, a_rI0, a_rU, a_eqI, a_neI, a_eqB, a_neB, a_tB, a_test, a_and, a_or, a_not, a_andV, a_orV, a_notV, a_ifE, a_chain, a_nil, a_cons, a_lst, a_tup, a_call, a_cb, a_bm0, a_bm, a_sl, a_nopart, a_part, a_tyI, a_for, a_comp, a_ilist, a_itup, a_irng1, a_irng2, a_irng3, a_cxK, a_irev, a_ienum, a_cat, a_rep, a_pop, a_clear, a_rslL, a_ixL, a_ixT, a_setL, a_app]); (try simp only [a_ipC, a_izip, a_tComp2, a_tryAs, a_drop_nx, a_raise, a_try, a_compIf, a_seq, a_next, a_brk, a_cnt, a_drop, a_ret, a_retN, a_if, a_asg, a_gname, a_gsub, a_gtup, a_gnil, a_gcons, a_aug, a_augS, a_ipI, a_var, a_c, a_op, a_un, a_rI, a_rI0, a_rU, a_eqI, a_neI, a_eqB, a_neB, a_tB, a_test, a_and, a_or, a_not, a_andV, a_orV, a_notV, a_ifE, a_chain, a_nil, a_cons, a_lst, a_tup, a_call, a_cb, a_bm0, a_bm, a_sl, a_nopart, a_part, a_tyI, a_for, a_comp, a_ilist, a_itup, a_irng1, a_irng2, a_irng3, a_cxK, and_assoc, a_irev, a_ienum, a_cat, a_rep, a_pop, a_clear, a_rslL, a_ixL, a_ixT, a_setL, a_app,
    List.getElem?_cons_zero, List.getElem?_cons_succ, List.set_cons_zero, List.set_cons_succ, Option.some.injEq, V.int.injEq, V.bl.injEq, V.ref.injEq, V.ty.injEq, exists_eq_left', exists_eq_left, exists_and_left, decide_eq_true_eq, List.cons_append, List.nil_append, List.append_nil, List.cons.injEq, and_true, true_and, Bool.not_eq_true', decide_eq_false_iff_not, ite_true, ite_false, Bool.false_eq_true, if_true, if_false, List.length_cons, List.length_nil, L2.start, List.map_cons, List.map_nil, List.replicate_succ, List.replicate_zero])
    refine ⟨_, _, rfl, E1, X, _, h3, _, _, rfl, E1, X, _, h4, _, _, rfl, E1, X, _, h5, by decide, fun pa na => ⟨_, same_upd na _ _ _ g1, _, upd_same, Nat.le_of_lt (small1000 (by simp)), fun D nD => (hM _ _).mpr ⟨D, rfl, upd_same, w1.trans ((same_upd na _).trans (same_upd nD _))⟩⟩⟩
  intro σ G2 hm
  obtain ⟨D2, rfl, g2, w2⟩ := (hM _ _).mp hm
  clear hm hM M
  have E2 := w2 _ _ hE
  obtain ⟨M, hM⟩ : ∃ M : L2.St → Hp → Prop, ∀ σ Hx, M σ Hx ↔ ∃ D : Addr, σ = [some (V.ref e), some (V.int at'), some (V.ref D)] ∧ Hx D = some (.lst [V.bl b0, V.bl b1, V.bl b2, V.bl b3, V.bl b4, V.bl b5, V.bl b6, V.bl b7, V.bl b8]) ∧ Same H Hx := ⟨_, fun _ _ => Iff.rfl⟩
  refine mid_of M ?_ ?_
  · (try dsimp only [a_ipC, a_izip, a_tComp2, a_tryAs, a_drop_nx, a_raise, a_try, a_compIf, a_seq, a_next, a_brk, a_cnt, a_drop, a_ret, a_retN, a_if, a_asg, a_gname, a_gsub, a_gtup, a_gnil, a_gcons, a_aug, a_augS, a_ipI, a_var, a_c, a_op, a_un, a_rI, a_rI0, a_rU, a_eqI, a_neI, a_eqB, a_neB, a_tB, a_test, a_and, a_or, a_not, a_andV, a_orV, a_notV, a_ifE, a_chain, a_nil, a_cons, a_lst, a_tup, a_call, a_cb, a_bm0, a_bm, a_sl, a_nopart, a_part, a_tyI, a_for, a_comp, a_ilist, a_itup, a_irng1, a_irng2, a_irng3, a_cxK, a_irev, a_ienum, a_cat, a_rep, a_pop, a_clear, a_rslL, a_ixL, a_ixT, a_setL, a_app]); (try simp only [a_ipC, a_izip, a_tComp2, a_tryAs, a_drop_nx, a_raise, a_try, a_compIf, a_seq, a_next, a_brk, a_cnt, a_drop, a_ret, a_retN, a_if, a_asg, a_gname, a_gsub, a_gtup, a_gnil, a_gcons, a_aug, a_augS, a_ipI, a_var, a_c, a_op, a_un, a_rI, a_rI0, a_rU, a_eqI, a_neI, a_eqB, a_neB, a_tB, a_test, a_and, a_or, a_not, a_andV, a_orV, a_notV, a_ifE, a_chain, a_nil, a_cons, a_lst, a_tup, a_call, a_cb, a_bm0, a_bm, a_sl, a_nopart, a_part, a_tyI, a_for, a_comp, a_ilist, a_itup, a_irng1, a_irng2, a_irng3, a_cxK, and_assoc, a_irev, a_ienum, a_cat, a_rep, a_pop, a_clear, a_rslL, a_ixL, a_ixT, a_setL, a_app,
    List.getElem?_cons_zero, List.getElem?_cons_succ, List.set_cons_zero, List.set_cons_succ, Option.some.injEq, V.int.injEq, V.bl.injEq, V.ref.injEq, V.ty.injEq, exists_eq_left', exists_eq_left, exists_and_left, decide_eq_true_eq, List.cons_append, List.nil_append, List.append_nil, List.cons.injEq, and_true, true_and, Bool.not_eq_true', decide_eq_false_iff_not, ite_true, ite_false, Bool.false_eq_true, if_true, if_false, List.length_cons, List.length_nil, L2.start, List.map_cons, List.map_nil, List.replicate_succ, List.replicate_zero])
    refine ⟨_, _, rfl, E2, X, _, h6, _, _, rfl, E2, X, _, h7, _, _, rfl, E2, X, _, h8, by decide, fun pa na => ⟨_, same_upd na _ _ _ g2, _, upd_same, Nat.le_of_lt (small1000 (by simp)), fun D nD => (hM _ _).mpr ⟨D, rfl, upd_same, w2.trans ((same_upd na _).trans (same_upd nD _))⟩⟩⟩
  intro σ G3 hm
  obtain ⟨D3, rfl, g3, w3⟩ := (hM _ _).mp hm
  clear hm hM M
  have E3 := w3 _ _ hE
  obtain ⟨M, hM⟩ : ∃ M : L2.St → Hp → Prop, ∀ σ Hx, M σ Hx ↔ ∃ D : Addr, σ = [some (V.ref e), some (V.int at'), some (V.ref D)] ∧ Hx D = some (.lst [V.bl b0, V.bl b1, V.bl b2, V.bl b3, V.bl b4, V.bl b5, V.bl b6, V.bl b7, V.bl b8, V.bl b9]) ∧ Same H Hx := ⟨_, fun _ _ => Iff.rfl⟩
  refine mid_of M ?_ ?_
  · (try dsimp only [a_ipC, a_izip, a_tComp2, a_tryAs, a_drop_nx, a_raise, a_try, a_compIf, a_seq, a_next, a_brk, a_cnt, a_drop, a_ret, a_retN, a_if, a_asg, a_gname, a_gsub, a_gtup, a_gnil, a_gcons, a_aug, a_augS, a_ipI, a_var, a_c, a_op, a_un, a_rI, a_rI0, a_rU, a_eqI, a_neI, a_eqB, a_neB, a_tB, a_test, a_and, a_or, a_not, a_andV, a_orV, a_notV, a_ifE, a_chain, a_nil, a_cons, a_lst, a_tup, a_call, a_cb, a_bm0, a_bm, a_sl, a_nopart, a_part, a_tyI, a_for, a_comp, a_ilist, a_itup, a_irng1, a_irng2, a_irng3, a_cxK, a_irev, a_ienum, a_cat, a_rep, a_pop, a_clear, a_rslL, a_ixL, a_ixT, a_setL, a_app]); (try simp only [a_ipC, a_izip, a_tComp2, a_tryAs, a_drop_nx, a_raise, a_try, a_compIf, a_seq, a_next, a_brk, a_cnt, a_drop, a_ret, a_retN, a_if, a_asg, a_gname, a_gsub, a_gtup, a_gnil, a_gcons, a_aug, a_augS, a_ipI, a_var, a_c, a_op, a_un, a_rI, a_rI0, a_rU, a_eqI, a_neI, a_eqB, a_neB, a_tB, a_test, a_and, a_or, a_not, a_andV, a_orV, a_notV, a_ifE, a_chain, a_nil, a_cons, a_lst, a_tup, a_call, a_cb, a_bm0, a_bm, a_sl, a_nopart, a_part, a_tyI, a_for, a_comp, a_ilist, a_itup, a_irng1, a_irng2, a_irng3, a_cxK, and_assoc, a_irev, a_ienum, a_cat, a_rep, a_pop, a_clear, a_rslL, a_ixL, a_ixT, a_setL, a_app,
    List.getElem?_cons_zero, List.getElem?_cons_succ, List.set_cons_zero, List.set_cons_succ, Option.some.injEq, V.int.injEq, V.bl.injEq, V.ref.injEq, V.ty.injEq, exists_eq_left', exists_eq_left, exists_and_left, decide_eq_true_eq, List.cons_append, List.nil_append, List.append_nil, List.cons.injEq, and_true, true_and, Bool.not_eq_true', decide_eq_false_iff_not, ite_true, ite_false, Bool.false_eq_true, if_true, if_false, List.length_cons, List.length_nil, L2.start, List.map_cons, List.map_nil, List.replicate_succ, List.replicate_zero])
    refine ⟨_, _, rfl, E3, X, _, h9, by decide, fun pa na => ⟨_, same_upd na _ _ _ g3, _, upd_same, Nat.le_of_lt (small1000 (by simp)), fun D nD => (hM _ _).mpr ⟨D, rfl, upd_same, w3.trans ((same_upd na _).trans (same_upd nD _))⟩⟩⟩
  intro σ G4 hm
  obtain ⟨D4, rfl, g4, w4⟩ := (hM _ _).mp hm
  clear hm hM M
  (try dsimp only [a_ipC, a_izip, a_tComp2, a_tryAs, a_drop_nx, a_raise, a_try, a_compIf, a_seq, a_next, a_brk, a_cnt, a_drop, a_ret, a_retN, a_if, a_asg, a_gname, a_gsub, a_gtup, a_gnil, a_gcons, a_aug, a_augS, a_ipI, a_var, a_c, a_op, a_un, a_rI, a_rI0, a_rU, a_eqI, a_neI, a_eqB, a_neB, a_tB, a_test, a_and, a_or, a_not, a_andV, a_orV, a_notV, a_ifE, a_chain, a_nil, a_cons, a_lst, a_tup, a_call, a_cb, a_bm0, a_bm, a_sl, a_nopart, a_part, a_tyI, a_for, a_comp, a_ilist, a_itup, a_irng1, a_irng2, a_irng3, a_cxK, a_irev, a_ienum, a_cat, a_rep, a_pop, a_clear, a_rslL, a_ixL, a_ixT, a_setL, a_app]); (try simp only [a_ipC, a_izip, a_tComp2, a_tryAs, a_drop_nx, a_raise, a_try, a_compIf, a_seq, a_next, a_brk, a_cnt, a_drop, a_ret, a_retN, a_if, a_asg, a_gname, a_gsub, a_gtup, a_gnil, a_gcons, a_aug, a_augS, a_ipI, a_var, a_c, a_op, a_un, a_rI, a_rI0, a_rU, a_eqI, a_neI, a_eqB, a_neB, a_tB, a_test, a_and, a_or, a_not, a_andV, a_orV, a_notV, a_ifE, a_chain, a_nil, a_cons, a_lst, a_tup, a_call, a_cb, a_bm0, a_bm, a_sl, a_nopart, a_part, a_tyI, a_for, a_comp, a_ilist, a_itup, a_irng1, a_irng2, a_irng3, a_cxK, and_assoc, a_irev, a_ienum, a_cat, a_rep, a_pop, a_clear, a_rslL, a_ixL, a_ixT, a_setL, a_app,
    List.getElem?_cons_zero, List.getElem?_cons_succ, List.set_cons_zero, List.set_cons_succ, Option.some.injEq, V.int.injEq, V.bl.injEq, V.ref.injEq, V.ty.injEq, exists_eq_left', exists_eq_left, exists_and_left, decide_eq_true_eq, List.cons_append, List.nil_append, List.append_nil, List.cons.injEq, and_true, true_and, Bool.not_eq_true', decide_eq_false_iff_not, ite_true, ite_false, Bool.false_eq_true, if_true, if_false, List.length_cons, List.length_nil, L2.start, List.map_cons, List.map_nil, List.replicate_succ, List.replicate_zero])
  refine ⟨by decide, by decide, fun D hD => ?_⟩
  obtain ⟨Pc, hPc⟩ : ∃ Pc : Nat → Hp → Prop, ∀ i H', Pc i H' ↔ H' D = some (.lst ((List.range i).map fun k : Nat => V.bl (decide ((k : Int) = at')))) ∧ Same G4 H' := ⟨_, fun _ _ => Iff.rfl⟩
  refine cl_range Pc ((hPc _ _).mpr ⟨upd_same, same_upd hD _⟩) ?_ ?_
  · intro i Hx hi hc
    obtain ⟨k1, k2⟩ := (hPc _ _).mp hc
    have e0 : (0 : Int) + (i : Int) = (i : Int) := Int.zero_add _
    have hi10 : i < 10 := hi
    (try dsimp only [a_ipC, a_izip, a_tComp2, a_tryAs, a_drop_nx, a_raise, a_try, a_compIf, a_seq, a_next, a_brk, a_cnt, a_drop, a_ret, a_retN, a_if, a_asg, a_gname, a_gsub, a_gtup, a_gnil, a_gcons, a_aug, a_augS, a_ipI, a_var, a_c, a_op, a_un, a_rI, a_rI0, a_rU, a_eqI, a_neI, a_eqB, a_neB, a_tB, a_test, a_and, a_or, a_not, a_andV, a_orV, a_notV, a_ifE, a_chain, a_nil, a_cons, a_lst, a_tup, a_call, a_cb, a_bm0, a_bm, a_sl, a_nopart, a_part, a_tyI, a_for, a_comp, a_ilist, a_itup, a_irng1, a_irng2, a_irng3, a_cxK, a_irev, a_ienum, a_cat, a_rep, a_pop, a_clear, a_rslL, a_ixL, a_ixT, a_setL, a_app]); (try simp only [a_ipC, a_izip, a_tComp2, a_tryAs, a_drop_nx, a_raise, a_try, a_compIf, a_seq, a_next, a_brk, a_cnt, a_drop, a_ret, a_retN, a_if, a_asg, a_gname, a_gsub, a_gtup, a_gnil, a_gcons, a_aug, a_augS, a_ipI, a_var, a_c, a_op, a_un, a_rI, a_rI0, a_rU, a_eqI, a_neI, a_eqB, a_neB, a_tB, a_test, a_and, a_or, a_not, a_andV, a_orV, a_notV, a_ifE, a_chain, a_nil, a_cons, a_lst, a_tup, a_call, a_cb, a_bm0, a_bm, a_sl, a_nopart, a_part, a_tyI, a_for, a_comp, a_ilist, a_itup, a_irng1, a_irng2, a_irng3, a_cxK, and_assoc, a_irev, a_ienum, a_cat, a_rep, a_pop, a_clear, a_rslL, a_ixL, a_ixT, a_setL, a_app,
    List.getElem?_cons_zero, List.getElem?_cons_succ, List.set_cons_zero, List.set_cons_succ, Option.some.injEq, V.int.injEq, V.bl.injEq, V.ref.injEq, V.ty.injEq, exists_eq_left', exists_eq_left, exists_and_left, decide_eq_true_eq, List.cons_append, List.nil_append, List.append_nil, List.cons.injEq, and_true, true_and, Bool.not_eq_true', decide_eq_false_iff_not, ite_true, ite_false, Bool.false_eq_true, if_true, if_false, List.length_cons, List.length_nil, L2.start, List.map_cons, List.map_nil, List.replicate_succ, List.replicate_zero, bst, e0, Option.getD_some])
    refine ⟨_, k1, by rw [List.length_map, List.length_range]; exact small1000 (by omega), (hPc _ _).mpr ⟨?_, k2.more hD⟩⟩
    rw [upd_same, List.range_succ, List.map_append]; rfl
  intro H1 hc
  obtain ⟨k1, k2⟩ := (hPc _ _).mp hc
  have dvb : ∀ (Hx : Hp) (l : List Bool), DVs K Hx (l.map V.bl) (l.map PyData.bool) := fun Hx l => by
    induction l with
    | nil => exact .nil
    | cons x l ih => exact .cons (.bl x) ih
  have lay : ∀ l : List Bool, PyData.canLay0 (.list (l.map PyData.bool)) = true := fun l => by
    have : PyData.canLayAll0 (l.map PyData.bool) = true := by
      induction l with
      | nil => rfl
      | cons x l ih => simp [PyData.canLayAll0, PyData.canLay0, ih]
    simp [PyData.canLay0, this]
  have dep : ∀ l : List Bool, PyData.depth (.list (l.map PyData.bool)) ≤ 64 := fun l => by
    have : PyData.depthAll (l.map PyData.bool) = 0 := by
      induction l with
      | nil => rfl
      | cons x l ih => simp [PyData.depthAll, PyData.depth, ih]
    simp [PyData.depth, this]
  have k1' : H1 D = some (.lst (((List.range 10).map fun k : Nat => decide ((k : Int) = at')).map V.bl)) := by rw [k1, List.map_map]; rfl
  refine ⟨_, DV.lst (SqL.of (k2 _ _ g4)) (dvb H1 [b0, b1, b2, b3, b4, b5, b6, b7, b8, b9]), _, DV.lst (SqL.of k1') (dvb H1 _), lay _, lay _, dep _, ?_⟩
  rcases hv with ⟨⟨rfl, rfl, rfl, rfl, rfl, rfl, rfl, rfl, rfl, rfl⟩, rfl, rfl⟩ | ⟨⟨rfl, rfl, rfl, rfl, rfl, rfl, rfl, rfl, rfl, rfl⟩, rfl, rfl⟩ | ⟨⟨rfl, rfl, rfl, rfl, rfl, rfl, rfl, rfl, rfl, rfl⟩, rfl, rfl⟩
  · rw [if_neg (by decide), if_neg (by decide)]
    exact ⟨_, _, rfl, (w4.trans k2) _ _ hE, X, _, kv, q _ (w4.trans k2)⟩
  · rw [if_pos (by decide)]
    exact q _ (w4.trans k2)
  · rw [if_neg (by decide), if_neg (by decide)]
    exact ⟨_, _, rfl, (w4.trans k2) _ _ hE, X, _, kv, q _ (w4.trans k2)⟩
def spTold (K : PySem.W.Frag) : Sp := fun vs H Q _ => ∃ (R Vp : Addr) (as bs : List Addr) (ps : List (List Int)) (fs : List (Int × Int)) (n : Int), vs = [.ref R, .ref Vp, .int n] ∧ SqL K H R (as.map V.ref) ∧ LL K H as ps ∧ SqL K H Vp (bs.map V.ref) ∧ TL K H bs fs ∧ ps.length ≤ 6 ∧ fs.length ≤ 500 ∧ (∀ p ∈ ps, p.length ≤ 64 ∧ ∀ x ∈ p, Bd 1300 x) ∧ (∀ f ∈ fs, Frc f ∧ Bd 3000 f.1 ∧ Bd 400 f.2) ∧
  ((¬ IsRule ps ∧ ∀ r H', Same H H' → H' r = some (.tup [.bl false, .bl true]) → Q (.ref r) H') ∨ (IsRule ps ∧ ((n < 0 ∨ (fs.length : Int) ≤ n + ((ps.length : Int) - 1)) ∧ (∀ r H', Same H H' → H' r = some (.tup [.bl true, .bl false]) → Q (.ref r) H') ∨ (∃ m : Nat, n = (m : Int) ∧ (m : Int) + ((ps.length : Int) - 1) < (fs.length : Int) ∧ ∃ b : Bool, (b = true ↔ Kp ps fs m) ∧ ∀ r H', Same H H' → H' r = some (.tup [.bl b]) → Q (.ref r) H'))))
theorem ok__law_told {P : Program} {w : World} {K : PySem.W.Frag} {mg : Str → Option Value} {base : Heap} (T : Tx K mg) : FnOk P w K mg base CX0 6 T.a__law_told T.fd__law_told ["_law_rule_here", "_law_values_here", "_law_n"] (spTold K) := by
  refine T.F__law_told.ok sc__law_told (fun vs H Q E h => ?_) (fun cdv A outer s H vs Q E hr h => ?_)
  · obtain ⟨R, Vp, as, bs, ps, fs, n, rfl, _⟩ := h
    rfl
  obtain ⟨R, Vp, as, bs, ps, fs, n, rfl, hR, hL, hV, hT, l6, l5, hp, hf, q⟩ := h
  refine ⟨_, ((pss_cons (ps_set (i := 3) sc__law_told.nd rfl (Or.inl rfl) pe_non)
    (pss_cons (ps_set (i := 4) sc__law_told.nd rfl (Or.inl rfl) pe_non)
    (pss_cons (ps_tryAs (i := 5) ⟨rfl, rfl⟩ (px_set (i := 3) sc__law_told.nd rfl (Or.inl rfl) (px_call (FnOk.mono (ok_keeps T) (by decide)) hr rfl T.m_keeps T.F_keeps.kp T.b_keeps (pa_cons (pv 0) (pa_cons (pv 1) (pa_cons (pv 2) pa_nil))))) rfl T.mc_SumError sc__law_told.nd rfl rfl (fun _ => (pss_one (ps_set (i := 4) sc__law_told.nd rfl (Or.inl rfl) (pv 5)))))
    (pss_cons (ps_if (pt_cmpR op_isN (pv 4) pe_non (nomark _)) (pss_one (ps_ret (pe_tup (pa_cons (pv 3) pa_nil)))) pss_nil)
    (pss_cons (ps_if (pt_val (pe_call (FnOk.mono (ok__law_is T) (by decide)) hr rfl T.m__law_is T.F__law_is.kp T.b__law_is .nil pass0 (pa_cons (pv 4) (pa_cons pe_int pa_nil)))) (pss_one (ps_ret (pe_tup (pa_cons pe_bl (pa_cons pe_bl pa_nil))))) pss_nil)
    (pss_one (ps_ret (pe_tup (pa_cons pe_bl (pa_cons (pe_call (FnOk.mono (ok__law_is T) (by decide)) hr rfl T.m__law_is T.F__law_is.kp T.b__law_is .nil pass0 (pa_cons (pv 4) (pa_cons pe_int pa_nil))) pa_nil))))))))))), ?_⟩
  (try dsimp only [a_ipC, a_izip, a_tComp2, a_tryAs, a_drop_nx, a_raise, a_try, a_compIf, a_seq, a_next, a_brk, a_cnt, a_drop, a_ret, a_retN, a_if, a_asg, a_gname, a_gsub, a_gtup, a_gnil, a_gcons, a_aug, a_augS, a_ipI, a_var, a_c, a_op, a_un, a_rI, a_rI0, a_rU, a_eqI, a_neI, a_eqB, a_neB, a_tB, a_test, a_and, a_or, a_not, a_andV, a_orV, a_notV, a_ifE, a_chain, a_nil, a_cons, a_lst, a_tup, a_call, a_cb, a_bm0, a_bm, a_sl, a_nopart, a_part, a_tyI, a_for, a_comp, a_ilist, a_itup, a_irng1, a_irng2, a_irng3, a_cxK, a_irev, a_ienum, a_cat, a_rep, a_pop, a_clear, a_rslL, a_ixL, a_ixT, a_setL, a_app]); (try simp only [a_ipC, a_izip, a_tComp2, a_tryAs, a_drop_nx, a_raise, a_try, a_compIf, a_seq, a_next, a_brk, a_cnt, a_drop, a_ret, a_retN, a_if, a_asg, a_gname, a_gsub, a_gtup, a_gnil, a_gcons, a_aug, a_augS, a_ipI, a_var, a_c, a_op, a_un, a_rI, a_rI0, a_rU, a_eqI, a_neI, a_eqB, a_neB, a_tB, a_test, a_and, a_or, a_not, a_andV, a_orV, a_notV, a_ifE, a_chain, a_nil, a_cons, a_lst, a_tup, a_call, a_cb, a_bm0, a_bm, a_sl, a_nopart, a_part, a_tyI, a_for, a_comp, a_ilist, a_itup, a_irng1, a_irng2, a_irng3, a_cxK, and_assoc, a_irev, a_ienum, a_cat, a_rep, a_pop, a_clear, a_rslL, a_ixL, a_ixT, a_setL, a_app,
    List.getElem?_cons_zero, List.getElem?_cons_succ, List.set_cons_zero, List.set_cons_succ, Option.some.injEq, V.int.injEq, V.bl.injEq, V.ref.injEq, V.ty.injEq, exists_eq_left', exists_eq_left, exists_and_left, decide_eq_true_eq, List.cons_append, List.nil_append, List.append_nil, List.cons.injEq, and_true, true_and, Bool.not_eq_true', decide_eq_false_iff_not, ite_true, ite_false, Bool.false_eq_true, if_true, if_false, List.length_cons, List.length_nil, L2.start, List.map_cons, List.map_nil, List.replicate_succ, List.replicate_zero])
  refine ⟨R, Vp, as, bs, ps, fs, n, rfl, hR, hL, hV, hT, l6, l5, hp, hf, ?_⟩
  rcases q with ⟨hn, q⟩ | ⟨hI, ⟨hb, q⟩ | ⟨m, hm, hlt, b, hbk, q⟩⟩
  · refine .inl ⟨hn, _, rfl, T.kc_NoRule_SumError, fun e he => ?_⟩
    rw [if_neg (by simp)]
    have w1 := same_upd he (IsExc e T.c_NoRule)
    refine ⟨e, 5, false, rfl, .inr (.inl ⟨upd_same, rfl, rfl⟩), fun H1 s1 => ⟨false, rfl, ?_⟩⟩
    rw [if_neg (by decide)]
    exact ⟨e, 0, true, rfl, .inl ⟨s1 _ _ upd_same, rfl, rfl⟩, fun H2 s2 => ⟨by decide, fun p hp1 => q p _ (w1.trans (s1.trans (s2.trans (same_upd hp1 _)))) upd_same⟩⟩
  · refine .inr ⟨hI, .inl ⟨hb, _, rfl, T.kc_NoPlace_SumError, fun e he => ?_⟩⟩
    rw [if_neg (by simp)]
    have w1 := same_upd he (IsExc e T.c_NoPlace)
    refine ⟨e, 5, true, rfl, .inr (.inr ⟨upd_same, rfl, rfl⟩), fun H1 s1 => ⟨true, rfl, ?_⟩⟩
    rw [if_pos rfl]
    exact ⟨by decide, fun p hp1 => q p _ (w1.trans (s1.trans (same_upd hp1 _))) upd_same⟩
  · exact .inr ⟨hI, .inr ⟨m, hm, hlt, b, hbk, fun H' s' => ⟨by decide, fun p hp1 => q p _ (s'.trans (same_upd hp1 _)) upd_same⟩⟩⟩
theorem eqv_dec (xs ys : List Int) : PyData.eqv (.list (xs.map PyData.int)) (.list (ys.map PyData.int)) = decide (xs = ys) := by simp [PyData.eqv, eqvAll_ints]
theorem lay_self (xs : List Int) : PyData.canLay0 (.list (xs.map PyData.int)) = true := by simp [PyData.canLay0, lay_ints]
theorem dep_self (xs : List Int) : PyData.depth (.list (xs.map PyData.int)) ≤ 64 := by simp [PyData.depth, depth_ints]
def spLP (K : PySem.W.Frag) : Sp := fun vs H Q _ => ∃ (a : Addr) (cs : List Int) (b : Bool), vs = [.ref a, .bl b] ∧ SqL K H a (cs.map V.int) ∧ cs.length ≤ 3 ∧ ∀ ps : List Int, Nml ps → ps.length ≤ 3 → (∀ x ∈ ps, Bd 200 x) → (b = true → ps ≠ []) → newL H Q (ps.map V.int)
theorem ok__law_poly {P : Program} {w : World} {K : PySem.W.Frag} {mg : Str → Option Value} {base : Heap} (T : Tx K mg) : FnOk P w K mg base CX0 2 T.a__law_poly T.fd__law_poly ["_law_cells", "_law_other"] (spLP K) := by
  refine T.F__law_poly.ok sc__law_poly (fun vs H Q E h => ?_) (fun cdv A outer s H vs Q E hr h => ?_)
  · obtain ⟨a, cs, b, rfl, _⟩ := h
    rfl
  obtain ⟨a, cs, b, rfl, hS, l3, q⟩ := h
  refine ⟨_, ((pss_cons (ps_set (i := 2) sc__law_poly.nd rfl (Or.inl rfl) (pe_call (FnOk.mono (ok__law_cut T) (by decide)) hr rfl T.m__law_cut T.F__law_cut.kp T.b__law_cut .nil pass0 (pa_cons (pe_lcomp rfl (blkok rfl sub_nil fv_nil) (pi_list (pv 0)) (fun _ _ _ _ => (pe_call (FnOk.mono (ok__law_number T) (by decide)) hr rfl T.m__law_number T.F__law_number.kp T.b__law_number .nil pass0 (pa_cons (pv 0) (pa_cons (pe_op op_pow pe_int pe_int) pa_nil))))) pa_nil)))
    (pss_cons (ps_if (PW.pt (pw_and (pt_cmpR (op_eqD hr.units) (pv 2) (pe_lst pa_nil) (nomark _)) (pw_and1 (pt_val (pv 1))))) (pss_one (ps_ret (pe_lst (pa_cons pe_int pa_nil)))) pss_nil)
    (pss_one (ps_ret (pv 2)))))), ?_⟩
  (try dsimp only [a_ipC, a_izip, a_tComp2, a_tryAs, a_drop_nx, a_raise, a_try, a_compIf, a_seq, a_next, a_brk, a_cnt, a_drop, a_ret, a_retN, a_if, a_asg, a_gname, a_gsub, a_gtup, a_gnil, a_gcons, a_aug, a_augS, a_ipI, a_var, a_c, a_op, a_un, a_rI, a_rI0, a_rU, a_eqI, a_neI, a_eqB, a_neB, a_tB, a_test, a_and, a_or, a_not, a_andV, a_orV, a_notV, a_ifE, a_chain, a_nil, a_cons, a_lst, a_tup, a_call, a_cb, a_bm0, a_bm, a_sl, a_nopart, a_part, a_tyI, a_for, a_comp, a_ilist, a_itup, a_irng1, a_irng2, a_irng3, a_cxK, a_irev, a_ienum, a_cat, a_rep, a_pop, a_clear, a_rslL, a_ixL, a_ixT, a_setL, a_app]); (try simp only [a_ipC, a_izip, a_tComp2, a_tryAs, a_drop_nx, a_raise, a_try, a_compIf, a_seq, a_next, a_brk, a_cnt, a_drop, a_ret, a_retN, a_if, a_asg, a_gname, a_gsub, a_gtup, a_gnil, a_gcons, a_aug, a_augS, a_ipI, a_var, a_c, a_op, a_un, a_rI, a_rI0, a_rU, a_eqI, a_neI, a_eqB, a_neB, a_tB, a_test, a_and, a_or, a_not, a_andV, a_orV, a_notV, a_ifE, a_chain, a_nil, a_cons, a_lst, a_tup, a_call, a_cb, a_bm0, a_bm, a_sl, a_nopart, a_part, a_tyI, a_for, a_comp, a_ilist, a_itup, a_irng1, a_irng2, a_irng3, a_cxK, and_assoc, a_irev, a_ienum, a_cat, a_rep, a_pop, a_clear, a_rslL, a_ixL, a_ixT, a_setL, a_app,
    List.getElem?_cons_zero, List.getElem?_cons_succ, List.set_cons_zero, List.set_cons_succ, Option.some.injEq, V.int.injEq, V.bl.injEq, V.ref.injEq, V.ty.injEq, exists_eq_left', exists_eq_left, exists_and_left, decide_eq_true_eq, List.cons_append, List.nil_append, List.append_nil, List.cons.injEq, and_true, true_and, Bool.not_eq_true', decide_eq_false_iff_not, ite_true, ite_false, Bool.false_eq_true, if_true, if_false, List.length_cons, List.length_nil, L2.start, List.map_cons, List.map_nil, List.replicate_succ, List.replicate_zero])
  refine ⟨⟨_, hS⟩, fun D hD => ?_⟩
  obtain ⟨Pc, hPc⟩ : ∃ Pc : Nat → Hp → Prop, ∀ i H', Pc i H' ↔ ∃ ys : List Int, ys.length = i ∧ (∀ y ∈ ys, Bd 200 y) ∧ H' D = some (.lst (ys.map V.int)) ∧ Same H H' := ⟨_, fun _ _ => Iff.rfl⟩
  refine cl_list (xs := cs.map V.int) Pc ((hPc _ _).mpr ⟨[], rfl, by simp, upd_same, same_upd hD _⟩) (fun i H' _ z => by obtain ⟨_, _, _, _, z4⟩ := (hPc i H').mp z; exact z4.seq hS) ?_ ?_
  · intro j v Hx hv hc'
    obtain ⟨ys, hy, hb, h1, h2⟩ := (hPc _ _).mp hc'
    have hj : j < cs.length := by have := (List.getElem?_eq_some_iff.mp hv).1; rw [List.length_map] at this; exact this
    rw [List.getElem?_map] at hv
    obtain ⟨d, _, rfl⟩ := Option.map_eq_some_iff.mp hv
    (try dsimp only [a_ipC, a_izip, a_tComp2, a_tryAs, a_drop_nx, a_raise, a_try, a_compIf, a_seq, a_next, a_brk, a_cnt, a_drop, a_ret, a_retN, a_if, a_asg, a_gname, a_gsub, a_gtup, a_gnil, a_gcons, a_aug, a_augS, a_ipI, a_var, a_c, a_op, a_un, a_rI, a_rI0, a_rU, a_eqI, a_neI, a_eqB, a_neB, a_tB, a_test, a_and, a_or, a_not, a_andV, a_orV, a_notV, a_ifE, a_chain, a_nil, a_cons, a_lst, a_tup, a_call, a_cb, a_bm0, a_bm, a_sl, a_nopart, a_part, a_tyI, a_for, a_comp, a_ilist, a_itup, a_irng1, a_irng2, a_irng3, a_cxK, a_irev, a_ienum, a_cat, a_rep, a_pop, a_clear, a_rslL, a_ixL, a_ixT, a_setL, a_app]); (try simp only [a_ipC, a_izip, a_tComp2, a_tryAs, a_drop_nx, a_raise, a_try, a_compIf, a_seq, a_next, a_brk, a_cnt, a_drop, a_ret, a_retN, a_if, a_asg, a_gname, a_gsub, a_gtup, a_gnil, a_gcons, a_aug, a_augS, a_ipI, a_var, a_c, a_op, a_un, a_rI, a_rI0, a_rU, a_eqI, a_neI, a_eqB, a_neB, a_tB, a_test, a_and, a_or, a_not, a_andV, a_orV, a_notV, a_ifE, a_chain, a_nil, a_cons, a_lst, a_tup, a_call, a_cb, a_bm0, a_bm, a_sl, a_nopart, a_part, a_tyI, a_for, a_comp, a_ilist, a_itup, a_irng1, a_irng2, a_irng3, a_cxK, and_assoc, a_irev, a_ienum, a_cat, a_rep, a_pop, a_clear, a_rslL, a_ixL, a_ixT, a_setL, a_app,
    List.getElem?_cons_zero, List.getElem?_cons_succ, List.set_cons_zero, List.set_cons_succ, Option.some.injEq, V.int.injEq, V.bl.injEq, V.ref.injEq, V.ty.injEq, exists_eq_left', exists_eq_left, exists_and_left, decide_eq_true_eq, List.cons_append, List.nil_append, List.append_nil, List.cons.injEq, and_true, true_and, Bool.not_eq_true', decide_eq_false_iff_not, ite_true, ite_false, Bool.false_eq_true, if_true, if_false, List.length_cons, List.length_nil, L2.start, List.map_cons, List.map_nil, List.replicate_succ, List.replicate_zero, bst])
    refine ⟨⟨by decide, by decide, by decide⟩, d, rfl, _, h1, by rw [List.length_map]; exact small1000 (by omega), (hPc _ _).mpr ⟨ys ++ [num d], by simp [hy], ?_, by rw [upd_same]; simp, h2.more hD⟩⟩
    intro y hy'
    rcases List.mem_append.mp hy' with z | z
    · exact hb y z
    · rw [List.mem_singleton.mp z]; exact num_bd _
  intro H2 hc'
  obtain ⟨ys, hy, hb, h1, h2⟩ := (hPc _ _).mp hc'
  rw [List.length_map] at hy
  refine ⟨D, ys, rfl, SqL.of h1, by omega, fun F H3 s3 nF eF => ⟨Nat.zero_le _, fun p hp1 => ?_⟩⟩
  have w1 := same_upd hp1 (.lst [])
  have s4 := h2.trans (s3.trans w1)
  refine ⟨_, DV.ints (SqL.of (w1 _ _ eF)), _, DV.ints (ns := []) (SqL.of upd_same), lay_self _, lay_self _, dep_self _, ?_⟩
  rw [eqv_dec]
  have bt : ∀ x ∈ trim ys, Bd 200 x := fun x hx => by
    obtain ⟨k, hk, rfl⟩ := List.mem_iff_getElem.mp hx
    rw [← co_lt hk, trim_co]
    by_cases z : k < ys.length
    · rw [co_lt z]; exact hb _ (List.getElem_mem z)
    · rw [co_ge (by omega)]; exact Bd.zero _
  have lt : (trim ys).length ≤ 3 := Nat.le_trans (trim_len _) (by omega)
  refine ite2 (fun h => ite2 (fun hb' => ⟨by decide, fun p2 hp2 => ?_⟩) (fun hb' => ?_)) (fun h => ?_)
  · exact q [1] (nml_last.mpr (by simp)) (by simp) (by simp [Bd.one]) (by simp) p2 _ (s4.trans (same_upd hp2 _)) (s4.free hp2) upd_same
  · exact q (trim ys) (trim_nml _) lt bt (fun z => absurd z hb') F _ s4 (h2.free nF) (w1 _ _ eF)
  · exact q (trim ys) (trim_nml _) lt bt (fun _ z => h (decide_eq_true z)) F _ s4 (h2.free nF) (w1 _ _ eF)

/-! #### split -/
theorem co_bd {b : Nat} {xs : List Int} (h : ∀ x ∈ xs, Bd b x) (k : Nat) : Bd b (co xs k) := by
  by_cases hk : k < xs.length
  · rw [co_lt hk]; exact h _ (List.getElem_mem hk)
  · rw [co_ge (by omega)]; exact Bd.zero _
theorem cv_bd {b c : Nat} {xs ys : List Int} (hx : ∀ x ∈ xs, Bd b x) (hy : ∀ y ∈ ys, Bd c y) (k : Nat) : ∀ l, Bd (b + c + l) (cv xs ys l k)
  | 0 => Bd.zero _
  | l + 1 => by
    have e : cv xs ys (l + 1) k = cv xs ys l k + co xs l * cz ys k l := rfl
    rw [e]
    have z : Bd c (cz ys k l) := by
      unfold cz
      split
      · exact co_bd hy _
      · exact Bd.zero _
    exact (cv_bd hx hy k l).add (((co_bd hx l).mul z).mono (by omega))
def spRul12 (K : PySem.W.Frag) : Sp := fun vs H Q _ => ∃ (a p : Addr) (ns ts : List Int), vs = [.ref a, .ref p] ∧ SqL K H a (ns.map V.int) ∧ SqL K H p (ts.map V.int) ∧ Nml ts ∧ ts ≠ [] ∧ ts.length ≤ 3 ∧ (∀ x ∈ ts, Bd 200 x) ∧
  ∀ ps : List (List Int), IsRule ps → ps.length ≤ 5 → (∀ p ∈ ps, p.length ≤ 64 ∧ ∀ x ∈ p, Bd 1300 x) → ∀ (R : Addr) (as : List Addr) H', Same H H' → H' R = some (.lst (as.map V.ref)) → LH H' as ps → Q (.ref R) H'
theorem ok__law_rule {P : Program} {w : World} {K : PySem.W.Frag} {mg : Str → Option Value} {base : Heap} (T : Tx K mg) : FnOk P w K mg base CX0 3 T.a__law_rule T.fd__law_rule ["_law_script", "_law_poly_here"] (spRul12 K) := by
  refine T.F__law_rule.ok sc__law_rule (fun vs H Q E h => ?_) (fun cdv A outer s H vs Q E hr h => ?_)
  · obtain ⟨a, p, ns, ts, rfl, _⟩ := h
    rfl
  obtain ⟨a, p, ns, ts, rfl, hS, hP, nt, t0, lt, bt, q⟩ := h
  refine ⟨_, ((pss_cons (ps_set (i := 2) sc__law_rule.nd rfl (Or.inl rfl) (pe_op op_mod (pe_call (FnOk.mono (ok__law_cell_at T) (by decide)) hr rfl T.m__law_cell_at T.F__law_cell_at.kp T.b__law_cell_at .nil pass0 (pa_cons (pv 0) (pa_cons pe_int pa_nil))) pe_int))
    (pss_cons (ps_if (pt_cmpR op_eq (pv 2) pe_int (nomark _)) (pss_one (ps_ret (pe_lst (pa_cons (pe_callTy call_list_of rfl T.z_list bt_list (pa_cons (pv 1) pa_nil)) pa_nil)))) pss_nil)
    (pss_cons (ps_set (i := 3) sc__law_rule.nd rfl (Or.inl rfl) (pe_lst (pa_cons (pe_lst pa_nil) pa_nil)))
    (pss_cons (ps_for PassesOwn.never rfl (pi_range2 rfl T.z_range (pa_cons pe_int (pa_cons (pe_op op_add (pv 2) pe_int) pa_nil))) (pg_name (i := 4) sc__law_rule.nd rfl (Or.inl rfl)) (pss_cons (ps_set (i := 5) sc__law_rule.nd rfl (Or.inl rfl) (pe_call (FnOk.mono (ok__law_poly T) (by decide)) hr rfl T.m__law_poly T.F__law_poly.kp T.b__law_poly .nil pass0 (pa_cons (pe_lst (pa_cons (pe_call (FnOk.mono (ok__law_cell_at T) (by decide)) hr rfl T.m__law_cell_at T.F__law_cell_at.kp T.b__law_cell_at .nil pass0 (pa_cons (pv 0) (pa_cons (pe_op op_add pe_int (pe_op op_mul pe_int (pv 4))) pa_nil))) (pa_cons (pe_call (FnOk.mono (ok__law_cell_at T) (by decide)) hr rfl T.m__law_cell_at T.F__law_cell_at.kp T.b__law_cell_at .nil pass0 (pa_cons (pv 0) (pa_cons (pe_op op_add pe_int (pe_op op_mul pe_int (pv 4))) pa_nil))) pa_nil))) (pa_cons (pe_cmpR op_eq (pv 4) (pv 2) (nomark _)) pa_nil))))
    (pss_cons (ps_expr (pe_bm PySem.F.plainAttrs_list PySem.F.slot_list_append PySem.F.type_list_append mt_append (pv 3) (pa_cons (pe_call (FnOk.mono (ok__law_product T) (by decide)) hr rfl T.m__law_product T.F__law_product.kp T.b__law_product .nil pass0 (pa_cons (pv 5) (pa_cons (pv 1) pa_nil))) pa_nil)))
    (pss_one (ps_asg (pe_call (FnOk.mono (ok__law_less T) (by decide)) hr rfl T.m__law_less T.F__law_less.kp T.b__law_less .nil pass0 (pa_cons (pe_ix ix_list (pv 3) pe_int (fun _ _ => rfl)) (pa_cons (pe_call (FnOk.mono (ok__law_product T) (by decide)) hr rfl T.m__law_product T.F__law_product.kp T.b__law_product .nil pass0 (pa_cons (pv 5) (pa_cons (pe_call (FnOk.mono (ok__law_moved T) (by decide)) hr rfl T.m__law_moved T.F__law_moved.kp T.b__law_moved .nil pass0 (pa_cons (pv 1) (pa_cons (pv 4) pa_nil))) pa_nil))) pa_nil))) (pg_sub (pv 3) pe_int set_list))))))
    (pss_one (ps_ret (pv 3)))))))), ?_⟩
  (try dsimp only [a_ipC, a_izip, a_tComp2, a_tryAs, a_drop_nx, a_raise, a_try, a_compIf, a_seq, a_next, a_brk, a_cnt, a_drop, a_ret, a_retN, a_if, a_asg, a_gname, a_gsub, a_gtup, a_gnil, a_gcons, a_aug, a_augS, a_ipI, a_var, a_c, a_op, a_un, a_rI, a_rI0, a_rU, a_eqI, a_neI, a_eqB, a_neB, a_tB, a_test, a_and, a_or, a_not, a_andV, a_orV, a_notV, a_ifE, a_chain, a_nil, a_cons, a_lst, a_tup, a_call, a_cb, a_bm0, a_bm, a_sl, a_nopart, a_part, a_tyI, a_for, a_comp, a_ilist, a_itup, a_irng1, a_irng2, a_irng3, a_cxK, a_irev, a_ienum, a_cat, a_rep, a_pop, a_clear, a_rslL, a_ixL, a_ixT, a_setL, a_app]); (try simp only [a_ipC, a_izip, a_tComp2, a_tryAs, a_drop_nx, a_raise, a_try, a_compIf, a_seq, a_next, a_brk, a_cnt, a_drop, a_ret, a_retN, a_if, a_asg, a_gname, a_gsub, a_gtup, a_gnil, a_gcons, a_aug, a_augS, a_ipI, a_var, a_c, a_op, a_un, a_rI, a_rI0, a_rU, a_eqI, a_neI, a_eqB, a_neB, a_tB, a_test, a_and, a_or, a_not, a_andV, a_orV, a_notV, a_ifE, a_chain, a_nil, a_cons, a_lst, a_tup, a_call, a_cb, a_bm0, a_bm, a_sl, a_nopart, a_part, a_tyI, a_for, a_comp, a_ilist, a_itup, a_irng1, a_irng2, a_irng3, a_cxK, and_assoc, a_irev, a_ienum, a_cat, a_rep, a_pop, a_clear, a_rslL, a_ixL, a_ixT, a_setL, a_app,
    List.getElem?_cons_zero, List.getElem?_cons_succ, List.set_cons_zero, List.set_cons_succ, Option.some.injEq, V.int.injEq, V.bl.injEq, V.ref.injEq, V.ty.injEq, exists_eq_left', exists_eq_left, exists_and_left, decide_eq_true_eq, List.cons_append, List.nil_append, List.append_nil, List.cons.injEq, and_true, true_and, Bool.not_eq_true', decide_eq_false_iff_not, ite_true, ite_false, Bool.false_eq_true, if_true, if_false, List.length_cons, List.length_nil, L2.start, List.map_cons, List.map_nil, List.replicate_succ, List.replicate_zero])
  refine ⟨a, ns, 0, rfl, hS, _, rfl, by decide, ite2 (fun h => ⟨_, .inl hP, fun l nl => ⟨by decide, fun D nD => ?_⟩⟩) (fun h => ⟨Nat.zero_le _, fun z nz => ⟨by decide, fun D nD => ?_⟩⟩)⟩
  · have w1 := same_upd nl (.lst (ts.map V.int))
    have w2 := same_upd nD (.lst [V.ref l])
    refine q [ts] ⟨by simp, fun p' hp' => by simp at hp'; rw [← hp']; exact t0, fun p' hp' => by rw [List.mem_singleton.mp hp']; exact nt⟩ (by simp) (fun p' hp' => by rw [List.mem_singleton.mp hp']; exact ⟨by omega, fun x hx => (bt x hx).mono (by decide)⟩) D [l] _ (w1.trans w2) upd_same ?_
    exact (LH.nil _).snoc (w2 _ _ upd_same)
  obtain ⟨sz, hsz, z1, z4⟩ : ∃ sz : Nat, cell ns 0 % 5 = (sz : Int) ∧ 1 ≤ sz ∧ sz ≤ 4 := ⟨(cell ns 0 % 5).toNat, by omega, by omega, by omega⟩
  rw [hsz]
  have hN : ((sz : Int) + 1 - 1).toNat = sz := by omega
  refine ⟨by decide, by decide, by omega, by omega, ?_⟩
  rw [hN]
  have w1 := same_upd nz (.lst [])
  have nD' : H D = none := w1.free nD
  have w2 := w1.trans (same_upd nD (.lst [V.ref z]))
  have nzD : z ≠ D := fun e => by rw [← e, upd_same] at nD; cases nD
  obtain ⟨Pv, hPv⟩ : ∃ Pv : Nat → L2.St → Hp → Prop, ∀ i σ Hx, Pv i σ Hx ↔ ∃ (bs : List Addr) (q0 : List Int) (qs : List (List Int)) (r4 r5 : Option V), σ = [some (V.ref a), some (V.ref p), some (V.int sz), some (V.ref D), r4, r5] ∧ Hx D = some (.lst (bs.map V.ref)) ∧ LH Hx bs (q0 :: qs) ∧ D ∉ bs ∧ qs.length = i ∧ (∀ p ∈ q0 :: qs, Nml p) ∧ q0.length ≤ 8 ∧ (∀ x ∈ q0, Bd (1190 + i) x) ∧ (∀ p ∈ qs, p.length ≤ 8 ∧ ∀ x ∈ p, Bd 410 x) ∧ (i = sz → ∀ p, qs.getLast? = some p → p ≠ []) ∧ Same H Hx := ⟨_, fun _ _ _ => Iff.rfl⟩
  refine lp_range Pv ((hPv _ _ _).mpr ⟨[z], [], [], none, none, rfl, upd_same, ((LH.nil _).snoc (p := []) (same_upd nD (.lst [V.ref z]) _ _ (upd_same (H := H) (a := z) (o := .lst [])))), by simpa using nzD.symm, rfl, by simp [nml_nil], by simp, by simp, by simp, fun e => by omega, w2⟩) ?_ ?_
  · intro i σ Hx hi hp
    obtain ⟨bs, q0, qs, r4, r5, rfl, eD, lh, nDb, lq, nq, l0, b0, bq, lastq, sP⟩ := (hPv _ _ _).mp hp
    have e1 : (4 : Int) + 2 * (1 + (i : Int)) = ((6 + 2 * i : Nat) : Int) := by omega
    have e2 : (5 : Int) + 2 * (1 + (i : Int)) = ((7 + 2 * i : Nat) : Int) := by omega
    (try dsimp only [a_ipC, a_izip, a_tComp2, a_tryAs, a_drop_nx, a_raise, a_try, a_compIf, a_seq, a_next, a_brk, a_cnt, a_drop, a_ret, a_retN, a_if, a_asg, a_gname, a_gsub, a_gtup, a_gnil, a_gcons, a_aug, a_augS, a_ipI, a_var, a_c, a_op, a_un, a_rI, a_rI0, a_rU, a_eqI, a_neI, a_eqB, a_neB, a_tB, a_test, a_and, a_or, a_not, a_andV, a_orV, a_notV, a_ifE, a_chain, a_nil, a_cons, a_lst, a_tup, a_call, a_cb, a_bm0, a_bm, a_sl, a_nopart, a_part, a_tyI, a_for, a_comp, a_ilist, a_itup, a_irng1, a_irng2, a_irng3, a_cxK, a_irev, a_ienum, a_cat, a_rep, a_pop, a_clear, a_rslL, a_ixL, a_ixT, a_setL, a_app]); (try simp only [a_ipC, a_izip, a_tComp2, a_tryAs, a_drop_nx, a_raise, a_try, a_compIf, a_seq, a_next, a_brk, a_cnt, a_drop, a_ret, a_retN, a_if, a_asg, a_gname, a_gsub, a_gtup, a_gnil, a_gcons, a_aug, a_augS, a_ipI, a_var, a_c, a_op, a_un, a_rI, a_rI0, a_rU, a_eqI, a_neI, a_eqB, a_neB, a_tB, a_test, a_and, a_or, a_not, a_andV, a_orV, a_notV, a_ifE, a_chain, a_nil, a_cons, a_lst, a_tup, a_call, a_cb, a_bm0, a_bm, a_sl, a_nopart, a_part, a_tyI, a_for, a_comp, a_ilist, a_itup, a_irng1, a_irng2, a_irng3, a_cxK, and_assoc, a_irev, a_ienum, a_cat, a_rep, a_pop, a_clear, a_rslL, a_ixL, a_ixT, a_setL, a_app,
    List.getElem?_cons_zero, List.getElem?_cons_succ, List.set_cons_zero, List.set_cons_succ, Option.some.injEq, V.int.injEq, V.bl.injEq, V.ref.injEq, V.ty.injEq, exists_eq_left', exists_eq_left, exists_and_left, decide_eq_true_eq, List.cons_append, List.nil_append, List.append_nil, List.cons.injEq, and_true, true_and, Bool.not_eq_true', decide_eq_false_iff_not, ite_true, ite_false, Bool.false_eq_true, if_true, if_false, List.length_cons, List.length_nil, L2.start, List.map_cons, List.map_nil, List.replicate_succ, List.replicate_zero, e1, e2])
    have lb := lh.len
    rw [List.length_cons] at lb
    have i4 : 1 + i ≤ 4 := by omega
    refine ⟨.inl ⟨by decide, by decide⟩, a, ns, 6 + 2 * i, rfl, sP.seq hS, .inl ⟨by decide, by decide⟩, a, ns, 7 + 2 * i, rfl, sP.seq hS, by decide, fun p1 n1 => ?_⟩
    have u1 := same_upd n1 (.lst [V.int (cell ns (6 + 2 * i)), V.int (cell ns (7 + 2 * i))])
    refine ⟨p1, [cell ns (6 + 2 * i), cell ns (7 + 2 * i)], _, rfl, SqL.of upd_same, by simp, fun os no lo bo oo O H1 s1 nO eO => ?_⟩
    have u2 := u1.trans s1
    refine ⟨a_tyL (SqL.of (u2 _ _ eD)), O, p, os, ts, 200, 200, rfl, SqL.of eO, (sP.trans u2).seq hP, by omega, by omega, bo, bt, by decide, fun ws nw lw cw W H2 s2 nW eW => ?_⟩
    have u3 := u2.trans s2
    have nWD : W ≠ D := fun e => by rw [e, u2 _ _ eD] at nW; cases nW
    have nOD : O ≠ D := fun e => by rw [e, u1 _ _ eD] at nO; cases nO
    have m1 : D ∉ bs ++ [W] := fun y => by
      rcases List.mem_append.mp y with y | y
      · exact nDb y
      · exact nWD (List.mem_singleton.mp y).symm
    refine ⟨_, u3 _ _ eD, by rw [List.length_map]; exact small1000 (by omega), ?_⟩
    have ec : bs.map V.ref ++ [V.ref W] = (bs ++ [W]).map V.ref := by simp
    rw [ec]
    have lhA := ((lh.same u3).snoc eW).upd (o := .lst ((bs ++ [W]).map V.ref)) m1
    have eDA : upd H2 D (.lst ((bs ++ [W]).map V.ref)) D = some (.lst ((bs ++ [W]).map V.ref)) := upd_same
    have eOA : upd H2 D (.lst ((bs ++ [W]).map V.ref)) O = some (.lst (os.map V.int)) := by rw [upd_ne nOD]; exact s2 _ _ eO
    have sA : Same H (upd H2 D (.lst ((bs ++ [W]).map V.ref))) := (sP.trans u3).more nD'
    generalize upd H2 D (.lst ((bs ++ [W]).map V.ref)) = GA at lhA eDA eOA sA ⊢
    obtain ⟨b1, bt1, rfl⟩ : ∃ b1 bt1, bs = b1 :: bt1 := by cases bs with | nil => simp at lb | cons b bt => exact ⟨b, bt, rfl⟩
    have at0 : atI ((b1 :: bt1 ++ [W]).map V.ref) 0 = some (V.ref b1) := by
      unfold atI
      rw [show ixN ((b1 :: bt1 ++ [W]).map V.ref).length 0 = some 0 from (show ixN ((b1 :: bt1 ++ [W]).map V.ref).length ((0 : Nat) : Int) = some 0 from ixN_nat (by simp))]; rfl
    have e3 : (1 : Int) + (i : Int) = ((1 + i : Nat) : Int) := by omega
    have bsh : ∀ y ∈ shiftL (1 + (i : Int)) ts, Bd 970 y := fun y hy => (shift_bd (l := 3) (Bd.of_lt (m := 8) (by omega) (by decide)) (by omega) bt y hy).mono (by omega)
    have eB1 := lhA.get 0 b1 q0 rfl rfl
    refine ⟨_, SqL.of eDA, _, at0, p, ts, 1 + (i : Int), rfl, sA.seq hP, by omega, fun x hx => (bt x hx).mono (by decide), Bd.of_lt (m := 8) (by omega) (by decide), fun Mv H3 s3 nMv eMv => ?_⟩
    refine ⟨O, Mv, os, shiftL (1 + (i : Int)) ts, 200, 970, rfl, SqL.of (s3 _ _ eOA), SqL.of eMv, by omega, by rw [shift_len]; omega, bo, bsh, by decide, fun w2 nw2 lw2 cw2 W2 H4 s4 nW2 eW2 => ?_⟩
    rw [shift_len] at lw2
    have s34 := s3.trans s4
    refine ⟨b1, W2, q0, w2, rfl, SqL.of (s34 _ _ eB1), SqL.of eW2, by omega, by omega, fun w3 nw3 lw3 cw3 W3 H5 s5 nW3 eW3 => ?_⟩
    have s35 := s34.trans s5
    have nW3D : W3 ≠ D := fun e => by rw [e, s34 _ _ eDA] at nW3; cases nW3
    have m2 : D ∉ W3 :: bt1 ++ [W] := fun y => by
      rcases List.mem_cons.mp y with y | y
      · exact nW3D y.symm
      · exact m1 (List.mem_cons_of_mem _ y)
    refine ⟨_, s35 _ _ eDA, 0, (show ixN ((b1 :: bt1 ++ [W]).map V.ref).length ((0 : Nat) : Int) = some 0 from ixN_nat (by simp)), (hPv _ _ _).mpr ⟨W3 :: bt1 ++ [W], w3, qs ++ [ws], _, _, rfl, upd_same, ((lhA.same s35).set (a := W3) (p := w3) eW3 0).upd m2, m2, by simp [lq], ?_, ?_, ?_, ?_, ?_, (sA.trans s35).more nD'⟩⟩
    · intro p' hp'
      rcases List.mem_cons.mp hp' with rfl | hp'
      · exact nw3
      · rcases List.mem_append.mp hp' with z' | z'
        · exact nq p' (List.mem_cons_of_mem _ z')
        · rw [List.mem_singleton.mp z']; exact nw
    · exact nml_len nw3 fun k hk => by rw [cw3 k, co_ge (xs := q0) (by omega), co_ge (xs := w2) (by omega)]; rfl
    · intro x hx
      obtain ⟨k, hk, rfl⟩ := List.mem_iff_getElem.mp hx
      rw [← co_lt hk, cw3 k, cw2 k, pm_cv]
      exact ((co_bd b0 k).sub ((cv_bd bo bsh k os.length).mono (by omega))).mono (by omega)
    · intro p' hp'
      rcases List.mem_append.mp hp' with z' | z'
      · exact bq p' z'
      · rw [List.mem_singleton.mp z']
        refine ⟨by omega, fun x hx => ?_⟩
        obtain ⟨k, hk, rfl⟩ := List.mem_iff_getElem.mp hx
        rw [← co_lt hk, cw k, pm_cv]
        exact (cv_bd bo bt k os.length).mono (by omega)
    · intro e p' hp'
      rw [List.getLast?_concat] at hp'
      rw [← Option.some.inj hp']
      have o0 := oo (by rw [decide_eq_true_iff]; omega)
      intro z'
      have h1 := cw (ts.length - 1 + (os.length - 1))
      rw [z', co_nil, pm_top (fun j hj => co_over j hj) (fun j hj => co_over j hj)] at h1
      exact Int.mul_ne_zero (co_last no o0) (co_last nt t0) h1.symm
  · intro σ Hx hp
    obtain ⟨bs, q0, qs, r4, r5, rfl, eD, lh, nDb, lq, nq, l0, b0, bq, lastq, sP⟩ := (hPv _ _ _).mp hp
    (try dsimp only [a_ipC, a_izip, a_tComp2, a_tryAs, a_drop_nx, a_raise, a_try, a_compIf, a_seq, a_next, a_brk, a_cnt, a_drop, a_ret, a_retN, a_if, a_asg, a_gname, a_gsub, a_gtup, a_gnil, a_gcons, a_aug, a_augS, a_ipI, a_var, a_c, a_op, a_un, a_rI, a_rI0, a_rU, a_eqI, a_neI, a_eqB, a_neB, a_tB, a_test, a_and, a_or, a_not, a_andV, a_orV, a_notV, a_ifE, a_chain, a_nil, a_cons, a_lst, a_tup, a_call, a_cb, a_bm0, a_bm, a_sl, a_nopart, a_part, a_tyI, a_for, a_comp, a_ilist, a_itup, a_irng1, a_irng2, a_irng3, a_cxK, a_irev, a_ienum, a_cat, a_rep, a_pop, a_clear, a_rslL, a_ixL, a_ixT, a_setL, a_app]); (try simp only [a_ipC, a_izip, a_tComp2, a_tryAs, a_drop_nx, a_raise, a_try, a_compIf, a_seq, a_next, a_brk, a_cnt, a_drop, a_ret, a_retN, a_if, a_asg, a_gname, a_gsub, a_gtup, a_gnil, a_gcons, a_aug, a_augS, a_ipI, a_var, a_c, a_op, a_un, a_rI, a_rI0, a_rU, a_eqI, a_neI, a_eqB, a_neB, a_tB, a_test, a_and, a_or, a_not, a_andV, a_orV, a_notV, a_ifE, a_chain, a_nil, a_cons, a_lst, a_tup, a_call, a_cb, a_bm0, a_bm, a_sl, a_nopart, a_part, a_tyI, a_for, a_comp, a_ilist, a_itup, a_irng1, a_irng2, a_irng3, a_cxK, and_assoc, a_irev, a_ienum, a_cat, a_rep, a_pop, a_clear, a_rslL, a_ixL, a_ixT, a_setL, a_app,
    List.getElem?_cons_zero, List.getElem?_cons_succ, List.set_cons_zero, List.set_cons_succ, Option.some.injEq, V.int.injEq, V.bl.injEq, V.ref.injEq, V.ty.injEq, exists_eq_left', exists_eq_left, exists_and_left, decide_eq_true_eq, List.cons_append, List.nil_append, List.append_nil, List.cons.injEq, and_true, true_and, Bool.not_eq_true', decide_eq_false_iff_not, ite_true, ite_false, Bool.false_eq_true, if_true, if_false, List.length_cons, List.length_nil, L2.start, List.map_cons, List.map_nil, List.replicate_succ, List.replicate_zero])
    have qs0 : qs ≠ [] := fun e => by rw [e] at lq; simp at lq; omega
    refine q (q0 :: qs) ⟨by simp, fun p' hp' => lastq rfl p' (by rw [List.getLast?_cons_of_ne_nil qs0] at hp'; exact hp'), nq⟩ (by simp; omega) (fun p' hp' => ?_) D bs _ sP eD lh
    rcases List.mem_cons.mp hp' with rfl | hp'
    · exact ⟨by omega, fun x hx => (b0 x hx).mono (by omega)⟩
    · exact ⟨by have := (bq p' hp').1; omega, fun x hx => ((bq p' hp').2 x hx).mono (by decide)⟩

/-! #### split -/
/-! #### _law_values -/
def spVals (K : PySem.W.Frag) : Sp := fun vs H Q _ => ∃ (a R p : Addr) (ns ts : List Int) (as : List V), vs = [.ref a, .ref R, .ref p] ∧ SqL K H a (ns.map V.int) ∧ ns.length ≤ 63 ∧ SqL K H R as ∧ SqL K H p (ts.map V.int) ∧ ts.length ≤ 3 ∧ (∀ x ∈ ts, Bd 200 x) ∧
  ∀ fs : List (Int × Int), fs.length ≤ 63 → (∀ f ∈ fs, Frc f ∧ Bd 700 f.1 ∧ Bd 20 f.2) → ∀ D bs H', Same H H' → H' D = some (.lst (bs.map V.ref)) → TL K H' bs fs → Q (.ref D) H'
theorem ok__law_values {P : Program} {w : World} {K : PySem.W.Frag} {mg : Str → Option Value} {base : Heap} (T : Tx K mg) : FnOk P w K mg base CX0 4 T.a__law_values T.fd__law_values ["_law_script", "_law_rule_here", "_law_poly_here"] (spVals K) := by
  refine T.F__law_values.ok sc__law_values (fun vs H Q E h => ?_) (fun cdv A outer s H vs Q E hr h => ?_)
  · obtain ⟨a, R, p, ns, ts, as, rfl, _⟩ := h
    rfl
  obtain ⟨a, R, p, ns, ts, as, rfl, hA, hl, hR, hP, lt, bt, q⟩ := h
  refine ⟨_, ((pss_cons (ps_set (i := 3) sc__law_values.nd rfl (Or.inl rfl) (pe_call (FnOk.mono (ok__law_fraction T) (by decide)) hr rfl T.m__law_fraction T.F__law_fraction.kp T.b__law_fraction .nil pass0 (pa_cons (pe_call (FnOk.mono (ok__law_cell_at T) (by decide)) hr rfl T.m__law_cell_at T.F__law_cell_at.kp T.b__law_cell_at .nil pass0 (pa_cons (pv 0) (pa_cons pe_int pa_nil))) pa_nil)))
    (pss_cons (ps_set (i := 4) sc__law_values.nd rfl (Or.inl rfl) (pe_lst pa_nil))
    (pss_cons (ps_for PassesOwn.never rfl (pi_enum rfl T.z_enumerate (pa_cons (pe_slice sl_list (pv 0) (po_some pe_int) (po_some pe_int)) pa_nil)) (pg_tup rfl (pgs_cons (pg_name (i := 5) sc__law_values.nd rfl (Or.inl rfl)) (pgs_cons (pg_name (i := 6) sc__law_values.nd rfl (Or.inl rfl)) pgs_nil))) (pss_cons (ps_set (i := 7) sc__law_values.nd rfl (Or.inl rfl) (pe_tup (pa_cons pe_int (pa_cons pe_int pa_nil))))
    (pss_mid (ps_if (pt_cmpR op_gt (pe_callB call_len_seq rfl T.z_len bt_len (pa_cons (pv 1) pa_nil)) pe_int (nomark _)) (pss_one (ps_set (i := 7) sc__law_values.nd rfl (Or.inl rfl) (pe_call (FnOk.mono (ok__law_lowest T) (by decide)) hr rfl T.m__law_lowest T.F__law_lowest.kp T.b__law_lowest .nil pass0 (pa_cons (pe_op op_mulZ (pe_ix ix_tup (pv 3) pe_int (fun _ _ => rfl)) (pe_call (FnOk.mono (ok__law_value T) (by decide)) hr rfl T.m__law_value T.F__law_value.kp T.b__law_value .nil pass0 (pa_cons (pv 2) (pa_cons (pv 5) pa_nil)))) (pa_cons (pe_ix ix_tup (pv 3) pe_int (fun _ _ => rfl)) pa_nil))))) pss_nil)
    (pss_mid (ps_if (pt_cmpR op_eq (pe_op op_mod (pv 6) pe_int) pe_int (nomark _)) (pss_cons (ps_set (i := 8) sc__law_values.nd rfl (Or.inl rfl) (pe_call (FnOk.mono (ok__law_fraction T) (by decide)) hr rfl T.m__law_fraction T.F__law_fraction.kp T.b__law_fraction .nil pass0 (pa_cons (pe_op op_fdiv (pv 6) pe_int) pa_nil)))
    (pss_one (ps_set (i := 7) sc__law_values.nd rfl (Or.inl rfl) (pe_call (FnOk.mono (ok__law_lowest T) (by decide)) hr rfl T.m__law_lowest T.F__law_lowest.kp T.b__law_lowest .nil pass0 (pa_cons (pe_op op_add (pe_op op_mulZ (pe_ix ix_tup (pv 7) pe_int (fun _ _ => rfl)) (pe_ix ix_tup (pv 8) pe_int (fun _ _ => rfl))) (pe_op op_mulZ (pe_ix ix_tup (pv 8) pe_int (fun _ _ => rfl)) (pe_ix ix_tup (pv 7) pe_int (fun _ _ => rfl)))) (pa_cons (pe_op op_mulZ (pe_ix ix_tup (pv 7) pe_int (fun _ _ => rfl)) (pe_ix ix_tup (pv 8) pe_int (fun _ _ => rfl))) pa_nil)))))) pss_nil)
    (pss_one (ps_expr (pe_bm PySem.F.plainAttrs_list PySem.F.slot_list_append PySem.F.type_list_append mt_append (pv 4) (pa_cons (pv 7) pa_nil))))))))
    (pss_one (ps_ret (pv 4))))))), ?_⟩
  (try dsimp only [a_ipC, a_izip, a_tComp2, a_tryAs, a_drop_nx, a_raise, a_try, a_compIf, a_seq, a_next, a_brk, a_cnt, a_drop, a_ret, a_retN, a_if, a_asg, a_gname, a_gsub, a_gtup, a_gnil, a_gcons, a_aug, a_augS, a_ipI, a_var, a_c, a_op, a_un, a_rI, a_rI0, a_rU, a_eqI, a_neI, a_eqB, a_neB, a_tB, a_test, a_and, a_or, a_not, a_andV, a_orV, a_notV, a_ifE, a_chain, a_nil, a_cons, a_lst, a_tup, a_call, a_cb, a_bm0, a_bm, a_sl, a_nopart, a_part, a_tyI, a_for, a_comp, a_ilist, a_itup, a_irng1, a_irng2, a_irng3, a_cxK, a_irev, a_ienum, a_cat, a_rep, a_pop, a_clear, a_rslL, a_ixL, a_ixT, a_setL, a_app]); (try simp only [a_ipC, a_izip, a_tComp2, a_tryAs, a_drop_nx, a_raise, a_try, a_compIf, a_seq, a_next, a_brk, a_cnt, a_drop, a_ret, a_retN, a_if, a_asg, a_gname, a_gsub, a_gtup, a_gnil, a_gcons, a_aug, a_augS, a_ipI, a_var, a_c, a_op, a_un, a_rI, a_rI0, a_rU, a_eqI, a_neI, a_eqB, a_neB, a_tB, a_test, a_and, a_or, a_not, a_andV, a_orV, a_notV, a_ifE, a_chain, a_nil, a_cons, a_lst, a_tup, a_call, a_cb, a_bm0, a_bm, a_sl, a_nopart, a_part, a_tyI, a_for, a_comp, a_ilist, a_itup, a_irng1, a_irng2, a_irng3, a_cxK, and_assoc, a_irev, a_ienum, a_cat, a_rep, a_pop, a_clear, a_rslL, a_ixL, a_ixT, a_setL, a_app,
    List.getElem?_cons_zero, List.getElem?_cons_succ, List.set_cons_zero, List.set_cons_succ, Option.some.injEq, V.int.injEq, V.bl.injEq, V.ref.injEq, V.ty.injEq, exists_eq_left', exists_eq_left, exists_and_left, decide_eq_true_eq, List.cons_append, List.nil_append, List.append_nil, List.cons.injEq, and_true, true_and, Bool.not_eq_true', decide_eq_false_iff_not, ite_true, ite_false, Bool.false_eq_true, if_true, if_false, List.length_cons, List.length_nil, L2.start, List.map_cons, List.map_nil, List.replicate_succ, List.replicate_zero])
  refine ⟨a, ns, 5, rfl, hA, _, rfl, fun x0 y0 f0 bx0 by0 F H1 s1 eF => ?_⟩
  refine ⟨Nat.zero_le _, fun D nD => ?_⟩
  have sD := s1.trans (same_upd nD (.lst []))
  have eF1 := same_upd nD (.lst []) _ _ eF
  have eD1 : upd H1 D (.lst []) D = some (.lst []) := upd_same
  have nDH : H D = none := s1.free nD
  generalize upd H1 D (.lst []) = G at sD eF1 eD1 ⊢
  refine ⟨_, sD.seq hA, fun S nS => ⟨_, SqL.of upd_same, ?_⟩⟩
  have hcs : ((ns.drop (HT.sIx ns.length 0 (some 14))).take (HT.sIx ns.length ns.length (some 63) - HT.sIx ns.length 0 (some 14))).length ≤ 63 := by rw [List.length_take, List.length_drop]; omega
  rw [cutV_map]
  generalize ((ns.drop (HT.sIx ns.length 0 (some 14))).take (HT.sIx ns.length ns.length (some 63) - HT.sIx ns.length 0 (some 14))) = cs0 at hcs ⊢
  have s3 := sD.trans (same_upd nS (.lst (cs0.map V.int)))
  have eF3 := same_upd nS (.lst (cs0.map V.int)) _ _ eF1
  have eD3 := same_upd nS (.lst (cs0.map V.int)) _ _ eD1
  have eS3 : upd G S (.lst (cs0.map V.int)) S = _ := upd_same
  have nSD : S ≠ D := (ne_of_none eD1 nS).symm
  have nFD : F ≠ D := fun e => by rw [e, nD] at eF; cases eF
  generalize upd G S (.lst (cs0.map V.int)) = G3 at s3 eF3 eD3 eS3 ⊢
  have by0' : Bd 10 y0 := Bd.of_lt (m := 1001) (by omega) (by decide)
  obtain ⟨Pv, hPv⟩ : ∃ Pv : Nat → L2.St → Hp → Prop, ∀ i σ H', Pv i σ H' ↔ ∃ (bs : List Addr) (fs : List (Int × Int)) (r5 r6 r7 r8 : Option V), σ = [some (V.ref a), some (V.ref R), some (V.ref p), some (V.ref F), some (V.ref D), r5, r6, r7, r8] ∧ H' D = some (.lst (bs.map V.ref)) ∧ TL K H' bs fs ∧ fs.length = i ∧ (∀ f ∈ fs, Frc f ∧ Bd 700 f.1 ∧ Bd 20 f.2) ∧ Same H H' ∧ H' S = some (.lst (cs0.map V.int)) ∧ H' F = some (.tup [.int x0, .int y0]) := ⟨_, fun _ _ _ => Iff.rfl⟩
  refine lp_enum Pv ((hPv _ _ _).mpr ⟨[], [], none, none, none, none, rfl, eD3, TL.nil _ _, rfl, by simp, s3, eS3, eF3⟩) (fun i σ H' _ z => by obtain ⟨_, _, _, _, _, _, _, _, _, _, _, _, z5, _⟩ := (hPv i σ H').mp z; exact SqL.of z5) ?_ ?_
  · intro i v pt σ H' hv hp' hpt
    obtain ⟨bs, fs, r5, r6, r7, r8, rfl, eD, tl, lf, bf, sH, eS, eF'⟩ := (hPv _ _ _).mp hp'
    rw [List.getElem?_map] at hv
    obtain ⟨c, hc, rfl⟩ := Option.map_eq_some_iff.mp hv
    have hi : i < cs0.length := (List.getElem?_eq_some_iff.mp hc).1
    have bi : Bd 6 (i : Int) := Bd.of_lt (m := 63) (by omega) (by decide)
    have s5 := same_upd hpt (.tup [V.int i, V.int c])
    (try dsimp only [a_ipC, a_izip, a_tComp2, a_tryAs, a_drop_nx, a_raise, a_try, a_compIf, a_seq, a_next, a_brk, a_cnt, a_drop, a_ret, a_retN, a_if, a_asg, a_gname, a_gsub, a_gtup, a_gnil, a_gcons, a_aug, a_augS, a_ipI, a_var, a_c, a_op, a_un, a_rI, a_rI0, a_rU, a_eqI, a_neI, a_eqB, a_neB, a_tB, a_test, a_and, a_or, a_not, a_andV, a_orV, a_notV, a_ifE, a_chain, a_nil, a_cons, a_lst, a_tup, a_call, a_cb, a_bm0, a_bm, a_sl, a_nopart, a_part, a_tyI, a_for, a_comp, a_ilist, a_itup, a_irng1, a_irng2, a_irng3, a_cxK, a_irev, a_ienum, a_cat, a_rep, a_pop, a_clear, a_rslL, a_ixL, a_ixT, a_setL, a_app]); (try simp only [a_ipC, a_izip, a_tComp2, a_tryAs, a_drop_nx, a_raise, a_try, a_compIf, a_seq, a_next, a_brk, a_cnt, a_drop, a_ret, a_retN, a_if, a_asg, a_gname, a_gsub, a_gtup, a_gnil, a_gcons, a_aug, a_augS, a_ipI, a_var, a_c, a_op, a_un, a_rI, a_rI0, a_rU, a_eqI, a_neI, a_eqB, a_neB, a_tB, a_test, a_and, a_or, a_not, a_andV, a_orV, a_notV, a_ifE, a_chain, a_nil, a_cons, a_lst, a_tup, a_call, a_cb, a_bm0, a_bm, a_sl, a_nopart, a_part, a_tyI, a_for, a_comp, a_ilist, a_itup, a_irng1, a_irng2, a_irng3, a_cxK, and_assoc, a_irev, a_ienum, a_cat, a_rep, a_pop, a_clear, a_rslL, a_ixL, a_ixT, a_setL, a_app,
    List.getElem?_cons_zero, List.getElem?_cons_succ, List.set_cons_zero, List.set_cons_succ, Option.some.injEq, V.int.injEq, V.bl.injEq, V.ref.injEq, V.ty.injEq, exists_eq_left', exists_eq_left, exists_and_left, decide_eq_true_eq, List.cons_append, List.nil_append, List.append_nil, List.cons.injEq, and_true, true_and, Bool.not_eq_true', decide_eq_false_iff_not, ite_true, ite_false, Bool.false_eq_true, if_true, if_false, List.length_cons, List.length_nil, L2.start, List.map_cons, List.map_nil, List.replicate_succ, List.replicate_zero])
    refine ⟨_, SqT.of upd_same, rfl, ?_⟩
    (try dsimp only [a_ipC, a_izip, a_tComp2, a_tryAs, a_drop_nx, a_raise, a_try, a_compIf, a_seq, a_next, a_brk, a_cnt, a_drop, a_ret, a_retN, a_if, a_asg, a_gname, a_gsub, a_gtup, a_gnil, a_gcons, a_aug, a_augS, a_ipI, a_var, a_c, a_op, a_un, a_rI, a_rI0, a_rU, a_eqI, a_neI, a_eqB, a_neB, a_tB, a_test, a_and, a_or, a_not, a_andV, a_orV, a_notV, a_ifE, a_chain, a_nil, a_cons, a_lst, a_tup, a_call, a_cb, a_bm0, a_bm, a_sl, a_nopart, a_part, a_tyI, a_for, a_comp, a_ilist, a_itup, a_irng1, a_irng2, a_irng3, a_cxK, a_irev, a_ienum, a_cat, a_rep, a_pop, a_clear, a_rslL, a_ixL, a_ixT, a_setL, a_app]); (try simp only [a_ipC, a_izip, a_tComp2, a_tryAs, a_drop_nx, a_raise, a_try, a_compIf, a_seq, a_next, a_brk, a_cnt, a_drop, a_ret, a_retN, a_if, a_asg, a_gname, a_gsub, a_gtup, a_gnil, a_gcons, a_aug, a_augS, a_ipI, a_var, a_c, a_op, a_un, a_rI, a_rI0, a_rU, a_eqI, a_neI, a_eqB, a_neB, a_tB, a_test, a_and, a_or, a_not, a_andV, a_orV, a_notV, a_ifE, a_chain, a_nil, a_cons, a_lst, a_tup, a_call, a_cb, a_bm0, a_bm, a_sl, a_nopart, a_part, a_tyI, a_for, a_comp, a_ilist, a_itup, a_irng1, a_irng2, a_irng3, a_cxK, and_assoc, a_irev, a_ienum, a_cat, a_rep, a_pop, a_clear, a_rslL, a_ixL, a_ixT, a_setL, a_app,
    List.getElem?_cons_zero, List.getElem?_cons_succ, List.set_cons_zero, List.set_cons_succ, Option.some.injEq, V.int.injEq, V.bl.injEq, V.ref.injEq, V.ty.injEq, exists_eq_left', exists_eq_left, exists_and_left, decide_eq_true_eq, List.cons_append, List.nil_append, List.append_nil, List.cons.injEq, and_true, true_and, Bool.not_eq_true', decide_eq_false_iff_not, ite_true, ite_false, Bool.false_eq_true, if_true, if_false, List.length_cons, List.length_nil, L2.start, List.map_cons, List.map_nil, List.replicate_succ, List.replicate_zero])
    have t5 := tl.same s5
    have sH5 := sH.trans s5
    have eD5 := s5 _ _ eD
    have eS5 := s5 _ _ eS
    have eF5 := s5 _ _ eF'
    generalize upd H' pt (.tup [V.int i, V.int c]) = H5 at t5 sH5 eD5 eS5 eF5 ⊢
    refine ⟨by decide, fun O nO => ?_⟩
    have u6 := same_upd nO (.tup [V.int 0, V.int 1])
    have t6 := t5.same u6
    have sH6 := sH5.trans u6
    have eD6 := u6 _ _ eD5
    have eS6 := u6 _ _ eS5
    have eF6 := u6 _ _ eF5
    have eO6 : upd H5 O (.tup [V.int 0, V.int 1]) O = some (.tup [V.int 0, V.int 1]) := upd_same
    generalize upd H5 O (.tup [V.int 0, V.int 1]) = H6 at t6 sH6 eD6 eS6 eF6 eO6 ⊢
    obtain ⟨M, hM⟩ : ∃ M : Nat → Nat → L2.St → Hp → Prop, ∀ k l σ H2, M k l σ H2 ↔ ∃ (O : Addr) (x y : Int) (r8 : Option V), σ = [some (V.ref a), some (V.ref R), some (V.ref p), some (V.ref F), some (V.ref D), some (V.int i), some (V.int c), some (V.ref O), r8] ∧ H2 O = some (.tup [.int x, .int y]) ∧ Frc (x, y) ∧ Bd k x ∧ Bd l y ∧ H2 D = some (.lst (bs.map V.ref)) ∧ TL K H2 bs fs ∧ Same H H2 ∧ H2 S = some (.lst (cs0.map V.int)) ∧ H2 F = some (.tup [.int x0, .int y0]) := ⟨_, fun _ _ _ _ => Iff.rfl⟩
    refine mid_of (M 440 10) ?_ ?_
    · (try dsimp only [a_ipC, a_izip, a_tComp2, a_tryAs, a_drop_nx, a_raise, a_try, a_compIf, a_seq, a_next, a_brk, a_cnt, a_drop, a_ret, a_retN, a_if, a_asg, a_gname, a_gsub, a_gtup, a_gnil, a_gcons, a_aug, a_augS, a_ipI, a_var, a_c, a_op, a_un, a_rI, a_rI0, a_rU, a_eqI, a_neI, a_eqB, a_neB, a_tB, a_test, a_and, a_or, a_not, a_andV, a_orV, a_notV, a_ifE, a_chain, a_nil, a_cons, a_lst, a_tup, a_call, a_cb, a_bm0, a_bm, a_sl, a_nopart, a_part, a_tyI, a_for, a_comp, a_ilist, a_itup, a_irng1, a_irng2, a_irng3, a_cxK, a_irev, a_ienum, a_cat, a_rep, a_pop, a_clear, a_rslL, a_ixL, a_ixT, a_setL, a_app]); (try simp only [a_ipC, a_izip, a_tComp2, a_tryAs, a_drop_nx, a_raise, a_try, a_compIf, a_seq, a_next, a_brk, a_cnt, a_drop, a_ret, a_retN, a_if, a_asg, a_gname, a_gsub, a_gtup, a_gnil, a_gcons, a_aug, a_augS, a_ipI, a_var, a_c, a_op, a_un, a_rI, a_rI0, a_rU, a_eqI, a_neI, a_eqB, a_neB, a_tB, a_test, a_and, a_or, a_not, a_andV, a_orV, a_notV, a_ifE, a_chain, a_nil, a_cons, a_lst, a_tup, a_call, a_cb, a_bm0, a_bm, a_sl, a_nopart, a_part, a_tyI, a_for, a_comp, a_ilist, a_itup, a_irng1, a_irng2, a_irng3, a_cxK, and_assoc, a_irev, a_ienum, a_cat, a_rep, a_pop, a_clear, a_rslL, a_ixL, a_ixT, a_setL, a_app,
    List.getElem?_cons_zero, List.getElem?_cons_succ, List.set_cons_zero, List.set_cons_succ, Option.some.injEq, V.int.injEq, V.bl.injEq, V.ref.injEq, V.ty.injEq, exists_eq_left', exists_eq_left, exists_and_left, decide_eq_true_eq, List.cons_append, List.nil_append, List.append_nil, List.cons.injEq, and_true, true_and, Bool.not_eq_true', decide_eq_false_iff_not, ite_true, ite_false, Bool.false_eq_true, if_true, if_false, List.length_cons, List.length_nil, L2.start, List.map_cons, List.map_nil, List.replicate_succ, List.replicate_zero])
      refine ⟨as, .inl (sH6.seq hR), ite2 (fun h => ?_) (fun h => (hM _ _ _ _).mpr ⟨O, 0, 1, _, rfl, eO6, ⟨by decide, by decide⟩, Bd.zero _, Bd.of_lt (m := 2) (by decide) (by decide), eD6, t6, sH6, eS6, eF6⟩)⟩
      have bv : Bd 221 (val i ts) := (val_bd bi ts bt).mono (by omega)
      refine ⟨_, SqT.of eF6, _, rfl, p, ts, (i : Int), 200, 6, rfl, sH6.seq hP, by omega, bt, bi, by decide, x0, rfl, _, rfl, bx0.fits bv (by decide), _, SqT.of eF6, _, rfl, x0 * val i ts, y0, rfl, by have := f0.1; simp only at this; omega, by0'.mono (by decide), fun x y y1 cg e lx ly r nr => ?_⟩
      have u7 := same_upd nr (.tup [V.int x, V.int y])
      exact (hM _ _ _ _).mpr ⟨r, x, y, _, rfl, upd_same, ⟨y1, cg⟩, Nat.lt_of_le_of_lt lx ((bx0.mul bv).mono (by decide)), Nat.lt_of_le_of_lt ly by0', u7 _ _ eD6, t6.same u7, sH6.trans u7, u7 _ _ eS6, u7 _ _ eF6⟩
    · intro σ H7 hm
      obtain ⟨O', x, y, r8', rfl, eO, fr, bx, by', eD7, t7, sH7, eS7, eF7⟩ := (hM _ _ _ _).mp hm
      refine mid_of (M 660 20) ?_ ?_
      · (try dsimp only [a_ipC, a_izip, a_tComp2, a_tryAs, a_drop_nx, a_raise, a_try, a_compIf, a_seq, a_next, a_brk, a_cnt, a_drop, a_ret, a_retN, a_if, a_asg, a_gname, a_gsub, a_gtup, a_gnil, a_gcons, a_aug, a_augS, a_ipI, a_var, a_c, a_op, a_un, a_rI, a_rI0, a_rU, a_eqI, a_neI, a_eqB, a_neB, a_tB, a_test, a_and, a_or, a_not, a_andV, a_orV, a_notV, a_ifE, a_chain, a_nil, a_cons, a_lst, a_tup, a_call, a_cb, a_bm0, a_bm, a_sl, a_nopart, a_part, a_tyI, a_for, a_comp, a_ilist, a_itup, a_irng1, a_irng2, a_irng3, a_cxK, a_irev, a_ienum, a_cat, a_rep, a_pop, a_clear, a_rslL, a_ixL, a_ixT, a_setL, a_app]); (try simp only [a_ipC, a_izip, a_tComp2, a_tryAs, a_drop_nx, a_raise, a_try, a_compIf, a_seq, a_next, a_brk, a_cnt, a_drop, a_ret, a_retN, a_if, a_asg, a_gname, a_gsub, a_gtup, a_gnil, a_gcons, a_aug, a_augS, a_ipI, a_var, a_c, a_op, a_un, a_rI, a_rI0, a_rU, a_eqI, a_neI, a_eqB, a_neB, a_tB, a_test, a_and, a_or, a_not, a_andV, a_orV, a_notV, a_ifE, a_chain, a_nil, a_cons, a_lst, a_tup, a_call, a_cb, a_bm0, a_bm, a_sl, a_nopart, a_part, a_tyI, a_for, a_comp, a_ilist, a_itup, a_irng1, a_irng2, a_irng3, a_cxK, and_assoc, a_irev, a_ienum, a_cat, a_rep, a_pop, a_clear, a_rslL, a_ixL, a_ixT, a_setL, a_app,
    List.getElem?_cons_zero, List.getElem?_cons_succ, List.set_cons_zero, List.set_cons_succ, Option.some.injEq, V.int.injEq, V.bl.injEq, V.ref.injEq, V.ty.injEq, exists_eq_left', exists_eq_left, exists_and_left, decide_eq_true_eq, List.cons_append, List.nil_append, List.append_nil, List.cons.injEq, and_true, true_and, Bool.not_eq_true', decide_eq_false_iff_not, ite_true, ite_false, Bool.false_eq_true, if_true, if_false, List.length_cons, List.length_nil, L2.start, List.map_cons, List.map_nil, List.replicate_succ, List.replicate_zero])
        refine ⟨by decide, ite2 (fun h => ⟨⟨by decide, by decide⟩, c / 5, rfl, fun x2 y2 f2 bx2 by2 r H8 s8 e8 => ?_⟩) (fun h => (hM _ _ _ _).mpr ⟨O', x, y, _, rfl, eO, fr, bx.mono (by decide), by'.mono (by decide), eD7, t7, sH7, eS7, eF7⟩)⟩
        have eO8 := s8 _ _ eO
        have by2' : Bd 10 y2 := Bd.of_lt (m := 1001) (by omega) (by decide)
        have y0' : y * y2 ≠ 0 := Int.mul_ne_zero (by have := fr.1; simp only at this; omega) (by have := f2.1; simp only at this; omega)
        have bxx : Bd 660 (x * y2 + x2 * y) := (((bx.mul by2').mono (show 440 + 10 ≤ 459 by decide)).add ((bx2.mul by').mono (show 200 + 10 ≤ 459 by decide))).mono (by decide)
        refine ⟨_, SqT.of eO8, _, rfl, r, rfl, _, SqT.of e8, _, rfl, x, rfl, y2, rfl, bx.fits by2' (by decide), r, rfl, _, SqT.of e8, _, rfl, _, SqT.of eO8, _, rfl, x2, rfl, y, rfl, bx2.fits by' (by decide), ?_⟩
        refine ⟨_, SqT.of eO8, _, rfl, r, rfl, _, SqT.of e8, _, rfl, y, rfl, y2, rfl, by'.fits by2' (by decide), _, _, rfl, y0', (by'.mul by2').mono (by decide), fun x3 y3 y1 cg e lx ly r' nr => ?_⟩
        have u9 := s8.trans (same_upd nr (.tup [V.int x3, V.int y3]))
        exact (hM _ _ _ _).mpr ⟨r', x3, y3, _, rfl, upd_same, ⟨y1, cg⟩, Nat.lt_of_le_of_lt lx bxx, Nat.lt_of_le_of_lt ly (by'.mul by2'), u9 _ _ eD7, t7.same u9, sH7.trans u9, u9 _ _ eS7, u9 _ _ eF7⟩
      · intro σ H8 hm'
        obtain ⟨O', x, y, r8', rfl, eO, fr, bx, by', eD8, t8, sH8, eS8, eF8⟩ := (hM _ _ _ _).mp hm'
        (try dsimp only [a_ipC, a_izip, a_tComp2, a_tryAs, a_drop_nx, a_raise, a_try, a_compIf, a_seq, a_next, a_brk, a_cnt, a_drop, a_ret, a_retN, a_if, a_asg, a_gname, a_gsub, a_gtup, a_gnil, a_gcons, a_aug, a_augS, a_ipI, a_var, a_c, a_op, a_un, a_rI, a_rI0, a_rU, a_eqI, a_neI, a_eqB, a_neB, a_tB, a_test, a_and, a_or, a_not, a_andV, a_orV, a_notV, a_ifE, a_chain, a_nil, a_cons, a_lst, a_tup, a_call, a_cb, a_bm0, a_bm, a_sl, a_nopart, a_part, a_tyI, a_for, a_comp, a_ilist, a_itup, a_irng1, a_irng2, a_irng3, a_cxK, a_irev, a_ienum, a_cat, a_rep, a_pop, a_clear, a_rslL, a_ixL, a_ixT, a_setL, a_app]); (try simp only [a_ipC, a_izip, a_tComp2, a_tryAs, a_drop_nx, a_raise, a_try, a_compIf, a_seq, a_next, a_brk, a_cnt, a_drop, a_ret, a_retN, a_if, a_asg, a_gname, a_gsub, a_gtup, a_gnil, a_gcons, a_aug, a_augS, a_ipI, a_var, a_c, a_op, a_un, a_rI, a_rI0, a_rU, a_eqI, a_neI, a_eqB, a_neB, a_tB, a_test, a_and, a_or, a_not, a_andV, a_orV, a_notV, a_ifE, a_chain, a_nil, a_cons, a_lst, a_tup, a_call, a_cb, a_bm0, a_bm, a_sl, a_nopart, a_part, a_tyI, a_for, a_comp, a_ilist, a_itup, a_irng1, a_irng2, a_irng3, a_cxK, and_assoc, a_irev, a_ienum, a_cat, a_rep, a_pop, a_clear, a_rslL, a_ixL, a_ixT, a_setL, a_app,
    List.getElem?_cons_zero, List.getElem?_cons_succ, List.set_cons_zero, List.set_cons_succ, Option.some.injEq, V.int.injEq, V.bl.injEq, V.ref.injEq, V.ty.injEq, exists_eq_left', exists_eq_left, exists_and_left, decide_eq_true_eq, List.cons_append, List.nil_append, List.append_nil, List.cons.injEq, and_true, true_and, Bool.not_eq_true', decide_eq_false_iff_not, ite_true, ite_false, Bool.false_eq_true, if_true, if_false, List.length_cons, List.length_nil, L2.start, List.map_cons, List.map_nil, List.replicate_succ, List.replicate_zero])
        have nOD : O' ≠ D := fun e => by rw [e, eD8] at eO; cases eO
        refine ⟨a_tyL (SqL.of eD8), _, eD8, by rw [List.length_map, t8.len]; exact small1000 (by omega), (hPv _ _ _).mpr ⟨bs ++ [O'], fs ++ [(x, y)], _, _, _, _, rfl, by rw [upd_same, List.map_append]; rfl, (t8.upd eD8).snoc (SqT.of (by rw [upd_ne nOD]; exact eO)), by simp [lf], fun f hf => ?_, sH8.more nDH, by rw [upd_ne nSD]; exact eS8, by rw [upd_ne nFD]; exact eF8⟩⟩
        rcases List.mem_append.mp hf with z | z
        · exact bf f z
        · rw [List.mem_singleton.mp z]; exact ⟨fr, bx.mono (by decide), by'⟩
  · intro σ H' hp'
    obtain ⟨bs, fs, r5, r6, r7, r8, rfl, eD, tl, lf, bf, sH, eS, eF'⟩ := (hPv _ _ _).mp hp'
    (try dsimp only [a_ipC, a_izip, a_tComp2, a_tryAs, a_drop_nx, a_raise, a_try, a_compIf, a_seq, a_next, a_brk, a_cnt, a_drop, a_ret, a_retN, a_if, a_asg, a_gname, a_gsub, a_gtup, a_gnil, a_gcons, a_aug, a_augS, a_ipI, a_var, a_c, a_op, a_un, a_rI, a_rI0, a_rU, a_eqI, a_neI, a_eqB, a_neB, a_tB, a_test, a_and, a_or, a_not, a_andV, a_orV, a_notV, a_ifE, a_chain, a_nil, a_cons, a_lst, a_tup, a_call, a_cb, a_bm0, a_bm, a_sl, a_nopart, a_part, a_tyI, a_for, a_comp, a_ilist, a_itup, a_irng1, a_irng2, a_irng3, a_cxK, a_irev, a_ienum, a_cat, a_rep, a_pop, a_clear, a_rslL, a_ixL, a_ixT, a_setL, a_app]); (try simp only [a_ipC, a_izip, a_tComp2, a_tryAs, a_drop_nx, a_raise, a_try, a_compIf, a_seq, a_next, a_brk, a_cnt, a_drop, a_ret, a_retN, a_if, a_asg, a_gname, a_gsub, a_gtup, a_gnil, a_gcons, a_aug, a_augS, a_ipI, a_var, a_c, a_op, a_un, a_rI, a_rI0, a_rU, a_eqI, a_neI, a_eqB, a_neB, a_tB, a_test, a_and, a_or, a_not, a_andV, a_orV, a_notV, a_ifE, a_chain, a_nil, a_cons, a_lst, a_tup, a_call, a_cb, a_bm0, a_bm, a_sl, a_nopart, a_part, a_tyI, a_for, a_comp, a_ilist, a_itup, a_irng1, a_irng2, a_irng3, a_cxK, and_assoc, a_irev, a_ienum, a_cat, a_rep, a_pop, a_clear, a_rslL, a_ixL, a_ixT, a_setL, a_app,
    List.getElem?_cons_zero, List.getElem?_cons_succ, List.set_cons_zero, List.set_cons_succ, Option.some.injEq, V.int.injEq, V.bl.injEq, V.ref.injEq, V.ty.injEq, exists_eq_left', exists_eq_left, exists_and_left, decide_eq_true_eq, List.cons_append, List.nil_append, List.append_nil, List.cons.injEq, and_true, true_and, Bool.not_eq_true', decide_eq_false_iff_not, ite_true, ite_false, Bool.false_eq_true, if_true, if_false, List.length_cons, List.length_nil, L2.start, List.map_cons, List.map_nil, List.replicate_succ, List.replicate_zero])
    rw [List.length_map] at lf
    exact q fs (by omega) bf D bs _ sH eD tl

/-! #### split -/
/-! #### _law_all -/
def spAll (K : PySem.W.Frag) : Sp := fun vs H Q _ => ∃ (R Vp : Addr) (as bs : List Addr) (ps : List (List Int)) (fs : List (Int × Int)), vs = [.ref R, .ref Vp] ∧ SqL K H R (as.map V.ref) ∧ LL K H as ps ∧ SqL K H Vp (bs.map V.ref) ∧ TL K H bs fs ∧ ps.length ≤ 6 ∧ IsRule ps ∧ fs.length ≤ 200 ∧ (∀ p ∈ ps, p.length ≤ 64 ∧ ∀ x ∈ p, Bd 1300 x) ∧ (∀ f ∈ fs, Frc f ∧ Bd 3000 f.1 ∧ Bd 400 f.2) ∧ ∀ H', Same H H' → Q (.bl true) H'
theorem ok__law_all {P : Program} {w : World} {K : PySem.W.Frag} {mg : Str → Option Value} {base : Heap} (T : Tx K mg) : FnOk P w K mg base CX0 7 T.a__law_all T.fd__law_all ["_law_rule_here", "_law_values_here"] (spAll K) := by
  refine T.F__law_all.ok sc__law_all (fun vs H Q E h => ?_) (fun cdv A outer s H vs Q E hr h => ?_)
  · obtain ⟨R, Vp, as, bs, ps, fs, rfl, _⟩ := h
    rfl
  obtain ⟨R, Vp, as, bs, ps, fs, rfl, hR, hL, hV, hT, lp, ru, lf, bp, bf, q⟩ := h
  refine ⟨_, ((pss_cons (ps_set (i := 2) sc__law_all.nd rfl (Or.inl rfl) (pe_op op_add (pe_op op_sub (pe_callB call_len_seq rfl T.z_len bt_len (pa_cons (pv 1) pa_nil)) (pe_callB call_len_seq rfl T.z_len bt_len (pa_cons (pv 0) pa_nil))) pe_int))
    (pss_cons (ps_for PassesOwn.never rfl (pi_range1 rfl T.z_range (pa_cons (pv 2) pa_nil)) (pg_name (i := 3) sc__law_all.nd rfl (Or.inl rfl)) (pss_cons (ps_set (i := 4) sc__law_all.nd rfl (Or.inl rfl) (pe_call (FnOk.mono (ok__law_told T) (by decide)) hr rfl T.m__law_told T.F__law_told.kp T.b__law_told .nil pass0 (pa_cons (pv 0) (pa_cons (pv 1) (pa_cons (pv 3) pa_nil)))))
    (pss_one (ps_if (PW.pt (pw_or (pt_cmpR op_ne (pe_callB call_len_seq rfl T.z_len bt_len (pa_cons (pv 4) pa_nil)) pe_int (nomark _)) (pw_or (pt_not (pt_val (pe_callB call_isinst rfl T.z_isinstance bt_isinstance (pa_cons (pe_ix ix_tup (pv 4) pe_int (fun _ _ => rfl)) (pa_cons (pe_bltn (v := .ty "bool") rfl T.z_bool bt_bool rfl) pa_nil))))) (pw_or1 (pt_cmpR op_ne (pe_ix ix_tup (pv 4) pe_int (fun _ _ => rfl)) (pe_cmpR op_eq (pe_ix ix_tup (pe_call (FnOk.mono (ok__law_weighed T) (by decide)) hr rfl T.m__law_weighed T.F__law_weighed.kp T.b__law_weighed .nil pass0 (pa_cons (pv 0) (pa_cons (pv 1) (pa_cons (pv 3) pa_nil)))) pe_int (fun _ _ => rfl)) pe_int (nomark _)) (nomark _)))))) (pss_one (ps_ret pe_bl)) pss_nil))))
    (pss_cons (ps_for PassesOwn.never rfl (pi_list (pe_lst (pa_cons (pe_un un_neg pe_int) (pa_cons (pe_op op_sub (pe_un un_neg pe_int) (pe_callB call_len_seq rfl T.z_len bt_len (pa_cons (pv 1) pa_nil))) (pa_cons (pe_callB (call_max2 rfl) rfl T.z_max bt_max (pa_cons (pv 2) (pa_cons pe_int pa_nil))) (pa_cons (pe_callB call_len_seq rfl T.z_len bt_len (pa_cons (pv 1) pa_nil)) (pa_cons (pe_op op_pow pe_int pe_int) pa_nil))))))) (pg_name (i := 3) sc__law_all.nd rfl (Or.inl rfl)) (pss_one (ps_if (pt_cmpR (op_neD hr.units) (pe_call (FnOk.mono (ok__law_told T) (by decide)) hr rfl T.m__law_told T.F__law_told.kp T.b__law_told .nil pass0 (pa_cons (pv 0) (pa_cons (pv 1) (pa_cons (pv 3) pa_nil)))) (pe_tup (pa_cons pe_bl (pa_cons pe_bl pa_nil))) (nomark _)) (pss_one (ps_ret pe_bl)) pss_nil)))
    (pss_one (ps_ret pe_bl)))))), ?_⟩
  (try dsimp only [a_ipC, a_izip, a_tComp2, a_tryAs, a_drop_nx, a_raise, a_try, a_compIf, a_seq, a_next, a_brk, a_cnt, a_drop, a_ret, a_retN, a_if, a_asg, a_gname, a_gsub, a_gtup, a_gnil, a_gcons, a_aug, a_augS, a_ipI, a_var, a_c, a_op, a_un, a_rI, a_rI0, a_rU, a_eqI, a_neI, a_eqB, a_neB, a_tB, a_test, a_and, a_or, a_not, a_andV, a_orV, a_notV, a_ifE, a_chain, a_nil, a_cons, a_lst, a_tup, a_call, a_cb, a_bm0, a_bm, a_sl, a_nopart, a_part, a_tyI, a_for, a_comp, a_ilist, a_itup, a_irng1, a_irng2, a_irng3, a_cxK, a_irev, a_ienum, a_cat, a_rep, a_pop, a_clear, a_rslL, a_ixL, a_ixT, a_setL, a_app]); (try simp only [a_ipC, a_izip, a_tComp2, a_tryAs, a_drop_nx, a_raise, a_try, a_compIf, a_seq, a_next, a_brk, a_cnt, a_drop, a_ret, a_retN, a_if, a_asg, a_gname, a_gsub, a_gtup, a_gnil, a_gcons, a_aug, a_augS, a_ipI, a_var, a_c, a_op, a_un, a_rI, a_rI0, a_rU, a_eqI, a_neI, a_eqB, a_neB, a_tB, a_test, a_and, a_or, a_not, a_andV, a_orV, a_notV, a_ifE, a_chain, a_nil, a_cons, a_lst, a_tup, a_call, a_cb, a_bm0, a_bm, a_sl, a_nopart, a_part, a_tyI, a_for, a_comp, a_ilist, a_itup, a_irng1, a_irng2, a_irng3, a_cxK, and_assoc, a_irev, a_ienum, a_cat, a_rep, a_pop, a_clear, a_rslL, a_ixL, a_ixT, a_setL, a_app,
    List.getElem?_cons_zero, List.getElem?_cons_succ, List.set_cons_zero, List.set_cons_succ, Option.some.injEq, V.int.injEq, V.bl.injEq, V.ref.injEq, V.ty.injEq, exists_eq_left', exists_eq_left, exists_and_left, decide_eq_true_eq, List.cons_append, List.nil_append, List.append_nil, List.cons.injEq, and_true, true_and, Bool.not_eq_true', decide_eq_false_iff_not, ite_true, ite_false, Bool.false_eq_true, if_true, if_false, List.length_cons, List.length_nil, L2.start, List.map_cons, List.map_nil, List.replicate_succ, List.replicate_zero])
  refine ⟨_, .inl hV, _, .inl hR, ?_⟩
  have lb := hT.len
  have la := hL.len
  rw [List.length_map, List.length_map]
  obtain ⟨fa, hfa⟩ : ∃ fa : Int, ((bs.length : Nat) : Int) - ((as.length : Nat) : Int) + 1 = fa := ⟨_, rfl⟩
  rw [hfa]
  refine ⟨by omega, by omega, ?_⟩
  obtain ⟨Pv, hPv⟩ : ∃ Pv : Nat → L2.St → Hp → Prop, ∀ i σ H', Pv i σ H' ↔ ∃ r3 r4 : Option V, σ = [some (V.ref R), some (V.ref Vp), some (V.int fa), r3, r4] ∧ Same H H' := ⟨_, fun _ _ _ => Iff.rfl⟩
  refine lp_range Pv ((hPv _ _ _).mpr ⟨none, none, rfl, Same.refl _⟩) ?_ ?_
  · intro i σ H' hi hp
    obtain ⟨r3, r4, rfl, sP⟩ := (hPv _ _ _).mp hp
    (try dsimp only [a_ipC, a_izip, a_tComp2, a_tryAs, a_drop_nx, a_raise, a_try, a_compIf, a_seq, a_next, a_brk, a_cnt, a_drop, a_ret, a_retN, a_if, a_asg, a_gname, a_gsub, a_gtup, a_gnil, a_gcons, a_aug, a_augS, a_ipI, a_var, a_c, a_op, a_un, a_rI, a_rI0, a_rU, a_eqI, a_neI, a_eqB, a_neB, a_tB, a_test, a_and, a_or, a_not, a_andV, a_orV, a_notV, a_ifE, a_chain, a_nil, a_cons, a_lst, a_tup, a_call, a_cb, a_bm0, a_bm, a_sl, a_nopart, a_part, a_tyI, a_for, a_comp, a_ilist, a_itup, a_irng1, a_irng2, a_irng3, a_cxK, a_irev, a_ienum, a_cat, a_rep, a_pop, a_clear, a_rslL, a_ixL, a_ixT, a_setL, a_app]); (try simp only [a_ipC, a_izip, a_tComp2, a_tryAs, a_drop_nx, a_raise, a_try, a_compIf, a_seq, a_next, a_brk, a_cnt, a_drop, a_ret, a_retN, a_if, a_asg, a_gname, a_gsub, a_gtup, a_gnil, a_gcons, a_aug, a_augS, a_ipI, a_var, a_c, a_op, a_un, a_rI, a_rI0, a_rU, a_eqI, a_neI, a_eqB, a_neB, a_tB, a_test, a_and, a_or, a_not, a_andV, a_orV, a_notV, a_ifE, a_chain, a_nil, a_cons, a_lst, a_tup, a_call, a_cb, a_bm0, a_bm, a_sl, a_nopart, a_part, a_tyI, a_for, a_comp, a_ilist, a_itup, a_irng1, a_irng2, a_irng3, a_cxK, and_assoc, a_irev, a_ienum, a_cat, a_rep, a_pop, a_clear, a_rslL, a_ixL, a_ixT, a_setL, a_app,
    List.getElem?_cons_zero, List.getElem?_cons_succ, List.set_cons_zero, List.set_cons_succ, Option.some.injEq, V.int.injEq, V.bl.injEq, V.ref.injEq, V.ty.injEq, exists_eq_left', exists_eq_left, exists_and_left, decide_eq_true_eq, List.cons_append, List.nil_append, List.append_nil, List.cons.injEq, and_true, true_and, Bool.not_eq_true', decide_eq_false_iff_not, ite_true, ite_false, Bool.false_eq_true, if_true, if_false, List.length_cons, List.length_nil, L2.start, List.map_cons, List.map_nil, List.replicate_succ, List.replicate_zero])
    obtain ⟨b, hb⟩ : ∃ b : Bool, (b = true ↔ Kp ps fs i) := by
      by_cases h : Kp ps fs i
      · exact ⟨true, by simp [h]⟩
      · exact ⟨false, by simp [h]⟩
    refine ⟨R, Vp, as, bs, ps, fs, _, rfl, sP.seq hR, hL.same sP, sP.seq hV, hT.same sP, lp, by omega, bp, bf, .inr ⟨ru, .inr ⟨i, by omega, by omega, b, hb, fun r H2 s2 e2 => ?_⟩⟩⟩
    have sP2 := sP.trans s2
    refine ⟨r, rfl, _, .inr (SqT.of e2), ?_⟩
    rw [if_neg (by simp)]
    refine ⟨r, rfl, _, SqT.of e2, _, rfl, _, .bl _, true, rfl, ?_⟩
    rw [if_neg (by simp)]
    refine ⟨r, rfl, _, SqT.of e2, _, rfl, R, Vp, as, bs, ps, fs, i, by rw [Int.zero_add], sP2.seq hR, hL.same sP2, sP2.seq hV, hT.same sP2, lp, by omega, by omega, bp, bf, fun t bb ht r2 H3 s3 e3 => ⟨r2, rfl, _, SqT.of e3, _, rfl, ?_⟩⟩
    (try dsimp only [a_ipC, a_izip, a_tComp2, a_tryAs, a_drop_nx, a_raise, a_try, a_compIf, a_seq, a_next, a_brk, a_cnt, a_drop, a_ret, a_retN, a_if, a_asg, a_gname, a_gsub, a_gtup, a_gnil, a_gcons, a_aug, a_augS, a_ipI, a_var, a_c, a_op, a_un, a_rI, a_rI0, a_rU, a_eqI, a_neI, a_eqB, a_neB, a_tB, a_test, a_and, a_or, a_not, a_andV, a_orV, a_notV, a_ifE, a_chain, a_nil, a_cons, a_lst, a_tup, a_call, a_cb, a_bm0, a_bm, a_sl, a_nopart, a_part, a_tyI, a_for, a_comp, a_ilist, a_itup, a_irng1, a_irng2, a_irng3, a_cxK, a_irev, a_ienum, a_cat, a_rep, a_pop, a_clear, a_rslL, a_ixL, a_ixT, a_setL, a_app]); (try simp only [a_ipC, a_izip, a_tComp2, a_tryAs, a_drop_nx, a_raise, a_try, a_compIf, a_seq, a_next, a_brk, a_cnt, a_drop, a_ret, a_retN, a_if, a_asg, a_gname, a_gsub, a_gtup, a_gnil, a_gcons, a_aug, a_augS, a_ipI, a_var, a_c, a_op, a_un, a_rI, a_rI0, a_rU, a_eqI, a_neI, a_eqB, a_neB, a_tB, a_test, a_and, a_or, a_not, a_andV, a_orV, a_notV, a_ifE, a_chain, a_nil, a_cons, a_lst, a_tup, a_call, a_cb, a_bm0, a_bm, a_sl, a_nopart, a_part, a_tyI, a_for, a_comp, a_ilist, a_itup, a_irng1, a_irng2, a_irng3, a_cxK, and_assoc, a_irev, a_ienum, a_cat, a_rep, a_pop, a_clear, a_rslL, a_ixL, a_ixT, a_setL, a_app,
    List.getElem?_cons_zero, List.getElem?_cons_succ, List.set_cons_zero, List.set_cons_succ, Option.some.injEq, V.int.injEq, V.bl.injEq, V.ref.injEq, V.ty.injEq, exists_eq_left', exists_eq_left, exists_and_left, decide_eq_true_eq, List.cons_append, List.nil_append, List.append_nil, List.cons.injEq, and_true, true_and, Bool.not_eq_true', decide_eq_false_iff_not, ite_true, ite_false, Bool.false_eq_true, if_true, if_false, List.length_cons, List.length_nil, L2.start, List.map_cons, List.map_nil, List.replicate_succ, List.replicate_zero])
    have e : b = decide (t = 0) := by
      rw [Bool.eq_iff_iff, hb, ← ht, decide_eq_true_iff]
    rw [if_neg (by simp [e])]
    exact (hPv _ _ _).mpr ⟨_, _, rfl, sP2.trans s3⟩
  · intro σ H' hp
    obtain ⟨r3, r4, rfl, sP⟩ := (hPv _ _ _).mp hp
    (try dsimp only [a_ipC, a_izip, a_tComp2, a_tryAs, a_drop_nx, a_raise, a_try, a_compIf, a_seq, a_next, a_brk, a_cnt, a_drop, a_ret, a_retN, a_if, a_asg, a_gname, a_gsub, a_gtup, a_gnil, a_gcons, a_aug, a_augS, a_ipI, a_var, a_c, a_op, a_un, a_rI, a_rI0, a_rU, a_eqI, a_neI, a_eqB, a_neB, a_tB, a_test, a_and, a_or, a_not, a_andV, a_orV, a_notV, a_ifE, a_chain, a_nil, a_cons, a_lst, a_tup, a_call, a_cb, a_bm0, a_bm, a_sl, a_nopart, a_part, a_tyI, a_for, a_comp, a_ilist, a_itup, a_irng1, a_irng2, a_irng3, a_cxK, a_irev, a_ienum, a_cat, a_rep, a_pop, a_clear, a_rslL, a_ixL, a_ixT, a_setL, a_app]); (try simp only [a_ipC, a_izip, a_tComp2, a_tryAs, a_drop_nx, a_raise, a_try, a_compIf, a_seq, a_next, a_brk, a_cnt, a_drop, a_ret, a_retN, a_if, a_asg, a_gname, a_gsub, a_gtup, a_gnil, a_gcons, a_aug, a_augS, a_ipI, a_var, a_c, a_op, a_un, a_rI, a_rI0, a_rU, a_eqI, a_neI, a_eqB, a_neB, a_tB, a_test, a_and, a_or, a_not, a_andV, a_orV, a_notV, a_ifE, a_chain, a_nil, a_cons, a_lst, a_tup, a_call, a_cb, a_bm0, a_bm, a_sl, a_nopart, a_part, a_tyI, a_for, a_comp, a_ilist, a_itup, a_irng1, a_irng2, a_irng3, a_cxK, and_assoc, a_irev, a_ienum, a_cat, a_rep, a_pop, a_clear, a_rslL, a_ixL, a_ixT, a_setL, a_app,
    List.getElem?_cons_zero, List.getElem?_cons_succ, List.set_cons_zero, List.set_cons_succ, Option.some.injEq, V.int.injEq, V.bl.injEq, V.ref.injEq, V.ty.injEq, exists_eq_left', exists_eq_left, exists_and_left, decide_eq_true_eq, List.cons_append, List.nil_append, List.append_nil, List.cons.injEq, and_true, true_and, Bool.not_eq_true', decide_eq_false_iff_not, ite_true, ite_false, Bool.false_eq_true, if_true, if_false, List.length_cons, List.length_nil, L2.start, List.map_cons, List.map_nil, List.replicate_succ, List.replicate_zero])
    have p1 : 1 ≤ ps.length := by
      have := ru.1
      cases ps with
      | nil => exact absurd rfl this
      | cons _ _ => simp
    refine ⟨_, .inl (sP.seq hV), _, .inl (sP.seq hV), ⟨by decide, by decide, by decide⟩, by decide, fun L nL => ⟨⟨_, SqL.of upd_same⟩, ?_⟩⟩
    rw [List.length_map]
    obtain ⟨z, hz, z1⟩ : ∃ z : Int, (10 : Int) ^ Int.toNat 60 = z ∧ 1000 ≤ z := ⟨_, rfl, by decide⟩
    rw [hz]
    obtain ⟨m, hm, m1, m2⟩ : ∃ m : Int, (if 0 > fa then 0 else fa) = m ∧ 0 ≤ m ∧ fa ≤ m := by
      by_cases h : 0 > fa
      · exact ⟨_, if_pos h, by omega, by omega⟩
      · exact ⟨_, if_neg h, by omega, by omega⟩
    rw [hm]
    have all : ∀ v ∈ [V.int (-1), V.int (-1 - (bs.length : Int)), V.int m, V.int (bs.length : Int), V.int z], ∃ n : Int, v = .int n ∧ (n < 0 ∨ (fs.length : Int) ≤ n + ((ps.length : Int) - 1)) := by
      intro v hv
      simp only [List.mem_cons, List.not_mem_nil, or_false] at hv
      rcases hv with rfl | rfl | rfl | rfl | rfl
      · exact ⟨_, rfl, .inl (by omega)⟩
      · exact ⟨_, rfl, .inl (by omega)⟩
      · exact ⟨_, rfl, .inr (by omega)⟩
      · exact ⟨_, rfl, .inr (by omega)⟩
      · exact ⟨_, rfl, .inr (by omega)⟩
    generalize [V.int (-1), V.int (-1 - (bs.length : Int)), V.int m, V.int (bs.length : Int), V.int z] = xs at all ⊢
    have s4 := sP.trans (same_upd nL (.lst xs))
    have e4 : upd H' L (.lst xs) L = some (.lst xs) := upd_same
    generalize upd H' L (.lst xs) = G at s4 e4 ⊢
    obtain ⟨Pw, hPw⟩ : ∃ Pw : Nat → L2.St → Hp → Prop, ∀ i σ H', Pw i σ H' ↔ ∃ r3 r4 : Option V, σ = [some (V.ref R), some (V.ref Vp), some (V.int fa), r3, r4] ∧ Same H H' ∧ H' L = some (.lst xs) := ⟨_, fun _ _ _ => Iff.rfl⟩
    refine lp_list Pw ((hPw _ _ _).mpr ⟨_, _, rfl, s4, e4⟩) (fun i σ H' _ z => by obtain ⟨_, _, _, _, z5⟩ := (hPw i σ H').mp z; exact SqL.of z5) ?_ ?_
    · intro i v σ H5 hv hp5
      obtain ⟨r3, r4, rfl, s5, e5⟩ := (hPw _ _ _).mp hp5
      obtain ⟨n, rfl, hn⟩ := all v (List.mem_of_getElem? hv)
      (try dsimp only [a_ipC, a_izip, a_tComp2, a_tryAs, a_drop_nx, a_raise, a_try, a_compIf, a_seq, a_next, a_brk, a_cnt, a_drop, a_ret, a_retN, a_if, a_asg, a_gname, a_gsub, a_gtup, a_gnil, a_gcons, a_aug, a_augS, a_ipI, a_var, a_c, a_op, a_un, a_rI, a_rI0, a_rU, a_eqI, a_neI, a_eqB, a_neB, a_tB, a_test, a_and, a_or, a_not, a_andV, a_orV, a_notV, a_ifE, a_chain, a_nil, a_cons, a_lst, a_tup, a_call, a_cb, a_bm0, a_bm, a_sl, a_nopart, a_part, a_tyI, a_for, a_comp, a_ilist, a_itup, a_irng1, a_irng2, a_irng3, a_cxK, a_irev, a_ienum, a_cat, a_rep, a_pop, a_clear, a_rslL, a_ixL, a_ixT, a_setL, a_app]); (try simp only [a_ipC, a_izip, a_tComp2, a_tryAs, a_drop_nx, a_raise, a_try, a_compIf, a_seq, a_next, a_brk, a_cnt, a_drop, a_ret, a_retN, a_if, a_asg, a_gname, a_gsub, a_gtup, a_gnil, a_gcons, a_aug, a_augS, a_ipI, a_var, a_c, a_op, a_un, a_rI, a_rI0, a_rU, a_eqI, a_neI, a_eqB, a_neB, a_tB, a_test, a_and, a_or, a_not, a_andV, a_orV, a_notV, a_ifE, a_chain, a_nil, a_cons, a_lst, a_tup, a_call, a_cb, a_bm0, a_bm, a_sl, a_nopart, a_part, a_tyI, a_for, a_comp, a_ilist, a_itup, a_irng1, a_irng2, a_irng3, a_cxK, and_assoc, a_irev, a_ienum, a_cat, a_rep, a_pop, a_clear, a_rslL, a_ixL, a_ixT, a_setL, a_app,
    List.getElem?_cons_zero, List.getElem?_cons_succ, List.set_cons_zero, List.set_cons_succ, Option.some.injEq, V.int.injEq, V.bl.injEq, V.ref.injEq, V.ty.injEq, exists_eq_left', exists_eq_left, exists_and_left, decide_eq_true_eq, List.cons_append, List.nil_append, List.append_nil, List.cons.injEq, and_true, true_and, Bool.not_eq_true', decide_eq_false_iff_not, ite_true, ite_false, Bool.false_eq_true, if_true, if_false, List.length_cons, List.length_nil, L2.start, List.map_cons, List.map_nil, List.replicate_succ, List.replicate_zero])
      refine ⟨R, Vp, as, bs, ps, fs, n, rfl, s5.seq hR, hL.same s5, s5.seq hV, hT.same s5, lp, by omega, bp, bf, .inr ⟨ru, .inl ⟨hn, fun r H6 s6 e6 => ?_⟩⟩⟩
      refine ⟨by decide, fun t nt => ?_⟩
      have v7 := same_upd nt (.tup [V.bl true, V.bl false])
      refine ⟨_, DV.tup (SqT.of (v7 _ _ e6)) (.cons (.bl _) (.cons (.bl _) .nil)), _, DV.tup (SqT.of upd_same) (.cons (.bl _) (.cons (.bl _) .nil)), by simp [PyData.canLay0, PyData.canLayAll0], by simp [PyData.canLay0, PyData.canLayAll0], by simp [PyData.depth, PyData.depthAll], ?_⟩
      have e : PyData.eqv (.tuple [.bool true, .bool false]) (.tuple [.bool true, .bool false]) = true := by simp [PyData.eqv, PyData.eqvAll]
      rw [e]
      have s8 := s6.trans v7
      exact (hPw _ _ _).mpr ⟨_, _, rfl, s5.trans s8, s8 _ _ e5⟩
    · intro σ H5 hp5
      obtain ⟨r3, r4, rfl, s5, e5⟩ := (hPw _ _ _).mp hp5
      (try dsimp only [a_ipC, a_izip, a_tComp2, a_tryAs, a_drop_nx, a_raise, a_try, a_compIf, a_seq, a_next, a_brk, a_cnt, a_drop, a_ret, a_retN, a_if, a_asg, a_gname, a_gsub, a_gtup, a_gnil, a_gcons, a_aug, a_augS, a_ipI, a_var, a_c, a_op, a_un, a_rI, a_rI0, a_rU, a_eqI, a_neI, a_eqB, a_neB, a_tB, a_test, a_and, a_or, a_not, a_andV, a_orV, a_notV, a_ifE, a_chain, a_nil, a_cons, a_lst, a_tup, a_call, a_cb, a_bm0, a_bm, a_sl, a_nopart, a_part, a_tyI, a_for, a_comp, a_ilist, a_itup, a_irng1, a_irng2, a_irng3, a_cxK, a_irev, a_ienum, a_cat, a_rep, a_pop, a_clear, a_rslL, a_ixL, a_ixT, a_setL, a_app]); (try simp only [a_ipC, a_izip, a_tComp2, a_tryAs, a_drop_nx, a_raise, a_try, a_compIf, a_seq, a_next, a_brk, a_cnt, a_drop, a_ret, a_retN, a_if, a_asg, a_gname, a_gsub, a_gtup, a_gnil, a_gcons, a_aug, a_augS, a_ipI, a_var, a_c, a_op, a_un, a_rI, a_rI0, a_rU, a_eqI, a_neI, a_eqB, a_neB, a_tB, a_test, a_and, a_or, a_not, a_andV, a_orV, a_notV, a_ifE, a_chain, a_nil, a_cons, a_lst, a_tup, a_call, a_cb, a_bm0, a_bm, a_sl, a_nopart, a_part, a_tyI, a_for, a_comp, a_ilist, a_itup, a_irng1, a_irng2, a_irng3, a_cxK, and_assoc, a_irev, a_ienum, a_cat, a_rep, a_pop, a_clear, a_rslL, a_ixL, a_ixT, a_setL, a_app,
    List.getElem?_cons_zero, List.getElem?_cons_succ, List.set_cons_zero, List.set_cons_succ, Option.some.injEq, V.int.injEq, V.bl.injEq, V.ref.injEq, V.ty.injEq, exists_eq_left', exists_eq_left, exists_and_left, decide_eq_true_eq, List.cons_append, List.nil_append, List.append_nil, List.cons.injEq, and_true, true_and, Bool.not_eq_true', decide_eq_false_iff_not, ite_true, ite_false, Bool.false_eq_true, if_true, if_false, List.length_cons, List.length_nil, L2.start, List.map_cons, List.map_nil, List.replicate_succ, List.replicate_zero])
      exact q _ s5

/-! #### split -/
/-! #### lists of fractions: set, joined, as data -/
theorem TL.set {K : PySem.W.Frag} {H : Hp} {as : List Addr} {fs : List (Int × Int)} {a : Addr} {f : Int × Int} (h : TL K H as fs) (e : SqT K H a [.int f.1, .int f.2]) (i : Nat) : TL K H (as.set i a) (fs.set i f) := by
  refine ⟨by simp [h.len], fun j b r h1 h2 => ?_⟩
  by_cases z : i = j
  · subst z
    have l1 : i < as.length := by have := (List.getElem?_eq_some_iff.mp h1).1; simpa using this
    rw [List.getElem?_set_self l1] at h1
    rw [List.getElem?_set_self (by rw [← h.len]; exact l1)] at h2
    rw [← Option.some.inj h1, ← Option.some.inj h2]; exact e
  · rw [List.getElem?_set_ne z] at h1 h2
    exact h.get j b r h1 h2
theorem TL.app {K : PySem.W.Frag} {H : Hp} {as bs : List Addr} {fs gs : List (Int × Int)} (h : TL K H as fs) (g : TL K H bs gs) : TL K H (as ++ bs) (fs ++ gs) := by
  refine ⟨by simp [h.len, g.len], fun i b r h1 h2 => ?_⟩
  by_cases z : i < as.length
  · rw [List.getElem?_append_left z] at h1
    rw [List.getElem?_append_left (by rw [← h.len]; exact z)] at h2
    exact h.get i b r h1 h2
  · rw [List.getElem?_append_right (by omega)] at h1
    rw [List.getElem?_append_right (by rw [← h.len]; omega), ← h.len] at h2
    exact g.get _ b r h1 h2
def dT (f : Int × Int) : PyData := .tuple [.int f.1, .int f.2]
theorem dvs_tl {K : PySem.W.Frag} {H : Hp} : ∀ (as : List Addr) (fs : List (Int × Int)), TL K H as fs → DVs K H (as.map V.ref) (fs.map dT)
  | [], [], _ => .nil
  | a :: as, f :: fs, h => .cons (DV.tup (h.get 0 a f rfl rfl) (.cons (.int _) (.cons (.int _) .nil))) (dvs_tl as fs ⟨by have := h.len; simpa using this, fun i b r h1 h2 => h.get (i + 1) b r (by simpa using h1) (by simpa using h2)⟩)
  | [], _ :: _, h => by have := h.len; simp at this
  | _ :: _, [], h => by have := h.len; simp at this
theorem eqvAll_tl (fs : List (Int × Int)) : PyData.eqvAll (fs.map dT) (fs.map dT) = true := by
  induction fs with
  | nil => rfl
  | cons p ps ih => simp [PyData.eqvAll, PyData.eqv, dT, ih]
theorem layAll_tl (fs : List (Int × Int)) : PyData.canLayAll0 (fs.map dT) = true := by
  induction fs with
  | nil => rfl
  | cons p ps ih => simp [PyData.canLayAll0, PyData.canLay0, dT, ih]
theorem depAll_tl (fs : List (Int × Int)) : PyData.depthAll (fs.map dT) ≤ 1 := by
  induction fs with
  | nil => exact Nat.zero_le _
  | cons p ps ih => simp [PyData.depthAll, PyData.depth, dT]; omega

/-! #### law -/
def spLaw (K : PySem.W.Frag) : Sp := fun vs H Q _ => ∃ (a : Addr) (ns : List Int), vs = [.ref a] ∧ SqL K H a (ns.map V.int) ∧ ns.length ≤ 63 ∧ ∀ H', Q (.bl true) H'
theorem ok_law {P : Program} {w : World} {K : PySem.W.Frag} {mg : Str → Option Value} {base : Heap} (T : Tx K mg) : FnOk P w K mg base CX0 8 T.a_law T.fd_law ["_law_script"] (spLaw K) := by
  refine T.F_law.ok sc_law (fun vs H Q E h => ?_) (fun cdv A outer s H vs Q E hr h => ?_)
  · obtain ⟨a, ns, rfl, _⟩ := h
    rfl
  obtain ⟨a, ns, rfl, hA, hl, q⟩ := h
  refine ⟨_, ((pss_cons (ps_set (i := 1) sc_law.nd rfl (Or.inl rfl) (pe_call (FnOk.mono (ok__law_poly T) (by decide)) hr rfl T.m__law_poly T.F__law_poly.kp T.b__law_poly .nil pass0 (pa_cons (pe_lcomp rfl (blkok rfl (sub_cons rfl sub_nil) (fv_cons 0 "_law_script" (by decide) rfl (Or.inl rfl) (Or.inl rfl) ⟨_, rfl⟩ fv_nil)) (pi_range1 rfl T.z_range (pa_cons (pe_op op_add pe_int (pe_op op_mod (pe_call (FnOk.mono (ok__law_cell_at T) (by decide)) hr rfl T.m__law_cell_at T.F__law_cell_at.kp T.b__law_cell_at .nil pass0 (pa_cons (pv 0) (pa_cons pe_int pa_nil))) pe_int)) pa_nil)) (fun _ _ _ _ => (pe_call (FnOk.mono (ok__law_cell_at T) (by decide)) hr rfl T.m__law_cell_at T.F__law_cell_at.kp T.b__law_cell_at .nil pass0 (pa_cons (pv 1) (pa_cons (pe_op op_add pe_int (pv 0)) pa_nil))))) (pa_cons pe_bl pa_nil))))
    (pss_cons (ps_set (i := 2) sc_law.nd rfl (Or.inl rfl) (pe_call (FnOk.mono (ok__law_rule T) (by decide)) hr rfl T.m__law_rule T.F__law_rule.kp T.b__law_rule .nil pass0 (pa_cons (pv 0) (pa_cons (pv 1) pa_nil))))
    (pss_mid (ps_set (i := 3) sc_law.nd rfl (Or.inl rfl) (pe_call (FnOk.mono (ok__law_values T) (by decide)) hr rfl T.m__law_values T.F__law_values.kp T.b__law_values .nil pass0 (pa_cons (pv 0) (pa_cons (pv 2) (pa_cons (pv 1) pa_nil)))))
    (pss_cons (ps_set (i := 4) sc_law.nd rfl (Or.inl rfl) (pe_lst (pa_cons (pe_lcomp rfl (blkok rfl sub_nil fv_nil) (pi_list (pv 2)) (fun _ _ _ _ => (pe_callTy (call_list_ofK (K := K) rfl) rfl T.z_list bt_list (pa_cons (pv 0) pa_nil)))) (pa_cons (pe_callTy call_list_of rfl T.z_list bt_list (pa_cons (pv 3) pa_nil)) pa_nil))))
    (pss_cons (ps_if (PW.pt (pw_or (pt_not (pt_val (pe_call (FnOk.mono (ok__law_all T) (by decide)) hr rfl T.m__law_all T.F__law_all.kp T.b__law_all .nil pass0 (pa_cons (pe_ix ix_list (pv 4) pe_int (fun _ _ => rfl)) (pa_cons (pe_ix ix_list (pv 4) pe_int (fun _ _ => rfl)) pa_nil))))) (pw_or1 (pt_cmpR (op_neD hr.units) (pv 4) (pe_lst (pa_cons (pv 2) (pa_cons (pv 3) pa_nil))) (nomark _))))) (pss_one (ps_ret pe_bl)) pss_nil)
    (pss_mid (ps_if (pt_cmpR op_gt (pe_callB call_len_seq rfl T.z_len bt_len (pa_cons (pv 3) pa_nil)) pe_int (nomark _)) (pss_cons (ps_set (i := 5) sc_law.nd rfl (Or.inl rfl) (pe_op op_mod (pe_op op_fdiv (pe_call (FnOk.mono (ok__law_cell_at T) (by decide)) hr rfl T.m__law_cell_at T.F__law_cell_at.kp T.b__law_cell_at .nil pass0 (pa_cons (pv 0) (pa_cons pe_int pa_nil))) pe_int) (pe_callB call_len_seq rfl T.z_len bt_len (pa_cons (pv 3) pa_nil))))
    (pss_cons (ps_asg (pe_call (FnOk.mono (ok__law_lowest T) (by decide)) hr rfl T.m__law_lowest T.F__law_lowest.kp T.b__law_lowest .nil pass0 (pa_cons (pe_op op_add (pe_ix ix_tup (pe_ix ix_list (pv 3) (pv 5) (fun _ _ => rfl)) pe_int (fun _ _ => rfl)) (pe_ix ix_tup (pe_ix ix_list (pv 3) (pv 5) (fun _ _ => rfl)) pe_int (fun _ _ => rfl))) (pa_cons (pe_ix ix_tup (pe_ix ix_list (pv 3) (pv 5) (fun _ _ => rfl)) pe_int (fun _ _ => rfl)) pa_nil))) (pg_sub (pe_ix ix_list (pv 4) pe_int (fun _ _ => rfl)) (pv 5) set_list))
    (pss_one (ps_if (pt_not (pt_val (pe_call (FnOk.mono (ok__law_all T) (by decide)) hr rfl T.m__law_all T.F__law_all.kp T.b__law_all .nil pass0 (pa_cons (pe_ix ix_list (pv 4) pe_int (fun _ _ => rfl)) (pa_cons (pe_ix ix_list (pv 4) pe_int (fun _ _ => rfl)) pa_nil))))) (pss_one (ps_ret pe_bl)) pss_nil)))) pss_nil)
    (pss_cons (ps_expr (pe_bm PySem.F.plainAttrs_list PySem.F.slot_list_append PySem.F.type_list_append mt_append (pe_ix ix_list (pv 4) pe_int (fun _ _ => rfl)) (pa_cons (pe_lst pa_nil) pa_nil)))
    (pss_one (ps_ret (pe_cmpR (op_eqD hr.units) (pe_call (FnOk.mono (ok__law_told T) (by decide)) hr rfl T.m__law_told T.F__law_told.kp T.b__law_told .nil pass0 (pa_cons (pe_ix ix_list (pv 4) pe_int (fun _ _ => rfl)) (pa_cons (pe_op op_cat (pv 3) (pv 3)) (pa_cons pe_int pa_nil)))) (pe_tup (pa_cons pe_bl (pa_cons pe_bl pa_nil))) (nomark _)))))))))))), ?_⟩
  (try dsimp only [a_ipC, a_izip, a_tComp2, a_tryAs, a_drop_nx, a_raise, a_try, a_compIf, a_seq, a_next, a_brk, a_cnt, a_drop, a_ret, a_retN, a_if, a_asg, a_gname, a_gsub, a_gtup, a_gnil, a_gcons, a_aug, a_augS, a_ipI, a_var, a_c, a_op, a_un, a_rI, a_rI0, a_rU, a_eqI, a_neI, a_eqB, a_neB, a_tB, a_test, a_and, a_or, a_not, a_andV, a_orV, a_notV, a_ifE, a_chain, a_nil, a_cons, a_lst, a_tup, a_call, a_cb, a_bm0, a_bm, a_sl, a_nopart, a_part, a_tyI, a_for, a_comp, a_ilist, a_itup, a_irng1, a_irng2, a_irng3, a_cxK, a_irev, a_ienum, a_cat, a_rep, a_pop, a_clear, a_rslL, a_ixL, a_ixT, a_setL, a_app]); (try simp only [a_ipC, a_izip, a_tComp2, a_tryAs, a_drop_nx, a_raise, a_try, a_compIf, a_seq, a_next, a_brk, a_cnt, a_drop, a_ret, a_retN, a_if, a_asg, a_gname, a_gsub, a_gtup, a_gnil, a_gcons, a_aug, a_augS, a_ipI, a_var, a_c, a_op, a_un, a_rI, a_rI0, a_rU, a_eqI, a_neI, a_eqB, a_neB, a_tB, a_test, a_and, a_or, a_not, a_andV, a_orV, a_notV, a_ifE, a_chain, a_nil, a_cons, a_lst, a_tup, a_call, a_cb, a_bm0, a_bm, a_sl, a_nopart, a_part, a_tyI, a_for, a_comp, a_ilist, a_itup, a_irng1, a_irng2, a_irng3, a_cxK, and_assoc, a_irev, a_ienum, a_cat, a_rep, a_pop, a_clear, a_rslL, a_ixL, a_ixT, a_setL, a_app,
    List.getElem?_cons_zero, List.getElem?_cons_succ, List.set_cons_zero, List.set_cons_succ, Option.some.injEq, V.int.injEq, V.bl.injEq, V.ref.injEq, V.ty.injEq, exists_eq_left', exists_eq_left, exists_and_left, decide_eq_true_eq, List.cons_append, List.nil_append, List.append_nil, List.cons.injEq, and_true, true_and, Bool.not_eq_true', decide_eq_false_iff_not, ite_true, ite_false, Bool.false_eq_true, if_true, if_false, List.length_cons, List.length_nil, L2.start, List.map_cons, List.map_nil, List.replicate_succ, List.replicate_zero])
  refine ⟨a, ns, 1, rfl, hA, _, rfl, by decide, by omega, by omega, fun D hD => ?_⟩
  obtain ⟨m, hm⟩ : ∃ m : Nat, (1 + cell ns 1 % 3).toNat = m := ⟨_, rfl⟩
  have hm3 : m ≤ 3 := by omega
  rw [hm]
  obtain ⟨Pc, hPc⟩ : ∃ Pc : Nat → Hp → Prop, ∀ i H', Pc i H' ↔ ∃ ys : List Int, ys.length = i ∧ H' D = some (.lst (ys.map V.int)) ∧ Same H H' := ⟨_, fun _ _ => Iff.rfl⟩
  refine cl_range Pc ((hPc _ _).mpr ⟨[], rfl, upd_same, same_upd hD _⟩) ?_ ?_
  · intro i H' hi hc
    obtain ⟨ys, hy, h1, h2⟩ := (hPc _ _).mp hc
    have e1 : (2 : Int) + (0 + (i : Int)) = ((2 + i : Nat) : Int) := by omega
    (try dsimp only [a_ipC, a_izip, a_tComp2, a_tryAs, a_drop_nx, a_raise, a_try, a_compIf, a_seq, a_next, a_brk, a_cnt, a_drop, a_ret, a_retN, a_if, a_asg, a_gname, a_gsub, a_gtup, a_gnil, a_gcons, a_aug, a_augS, a_ipI, a_var, a_c, a_op, a_un, a_rI, a_rI0, a_rU, a_eqI, a_neI, a_eqB, a_neB, a_tB, a_test, a_and, a_or, a_not, a_andV, a_orV, a_notV, a_ifE, a_chain, a_nil, a_cons, a_lst, a_tup, a_call, a_cb, a_bm0, a_bm, a_sl, a_nopart, a_part, a_tyI, a_for, a_comp, a_ilist, a_itup, a_irng1, a_irng2, a_irng3, a_cxK, a_irev, a_ienum, a_cat, a_rep, a_pop, a_clear, a_rslL, a_ixL, a_ixT, a_setL, a_app]); (try simp only [a_ipC, a_izip, a_tComp2, a_tryAs, a_drop_nx, a_raise, a_try, a_compIf, a_seq, a_next, a_brk, a_cnt, a_drop, a_ret, a_retN, a_if, a_asg, a_gname, a_gsub, a_gtup, a_gnil, a_gcons, a_aug, a_augS, a_ipI, a_var, a_c, a_op, a_un, a_rI, a_rI0, a_rU, a_eqI, a_neI, a_eqB, a_neB, a_tB, a_test, a_and, a_or, a_not, a_andV, a_orV, a_notV, a_ifE, a_chain, a_nil, a_cons, a_lst, a_tup, a_call, a_cb, a_bm0, a_bm, a_sl, a_nopart, a_part, a_tyI, a_for, a_comp, a_ilist, a_itup, a_irng1, a_irng2, a_irng3, a_cxK, and_assoc, a_irev, a_ienum, a_cat, a_rep, a_pop, a_clear, a_rslL, a_ixL, a_ixT, a_setL, a_app,
    List.getElem?_cons_zero, List.getElem?_cons_succ, List.set_cons_zero, List.set_cons_succ, Option.some.injEq, V.int.injEq, V.bl.injEq, V.ref.injEq, V.ty.injEq, exists_eq_left', exists_eq_left, exists_and_left, decide_eq_true_eq, List.cons_append, List.nil_append, List.append_nil, List.cons.injEq, and_true, true_and, Bool.not_eq_true', decide_eq_false_iff_not, ite_true, ite_false, Bool.false_eq_true, if_true, if_false, List.length_cons, List.length_nil, L2.start, List.map_cons, List.map_nil, List.replicate_succ, List.replicate_zero, bst, Option.getD_some, e1])
    exact ⟨a, ns, 2 + i, rfl, h2.seq hA, _, h1, by rw [List.length_map]; exact small1000 (by omega), (hPc _ _).mpr ⟨ys ++ [cell ns (2 + i)], by simp [hy], by rw [upd_same]; simp, h2.more hD⟩⟩
  intro H1 hc
  obtain ⟨ys, hy, h1, s1⟩ := (hPc _ _).mp hc
  refine ⟨D, ys, true, rfl, SqL.of h1, by omega, fun ts nt lt bt t0 F H2 s2 nF eF => ?_⟩
  have s12 := s1.trans s2
  refine ⟨a, F, ns, ts, rfl, s12.seq hA, SqL.of eF, nt, t0 rfl, lt, bt, fun ps ru lp bp R as H3 s3 eR lh => ?_⟩
  have s13 := s12.trans s3
  obtain ⟨M, hM⟩ : ∃ M : L2.St → Hp → Prop, ∀ σ Hx, M σ Hx ↔ ∃ (fs : List (Int × Int)) (Vp : Addr) (vs' : List Addr), σ = [some (V.ref a), some (V.ref F), some (V.ref R), some (V.ref Vp), none, none] ∧ fs.length ≤ 63 ∧ (∀ f ∈ fs, Frc f ∧ Bd 700 f.1 ∧ Bd 20 f.2) ∧ Same H3 Hx ∧ Hx Vp = some (.lst (vs'.map V.ref)) ∧ TL K Hx vs' fs := ⟨_, fun _ _ => Iff.rfl⟩
  refine mid_of M ?_ ?_
  · (try dsimp only [a_ipC, a_izip, a_tComp2, a_tryAs, a_drop_nx, a_raise, a_try, a_compIf, a_seq, a_next, a_brk, a_cnt, a_drop, a_ret, a_retN, a_if, a_asg, a_gname, a_gsub, a_gtup, a_gnil, a_gcons, a_aug, a_augS, a_ipI, a_var, a_c, a_op, a_un, a_rI, a_rI0, a_rU, a_eqI, a_neI, a_eqB, a_neB, a_tB, a_test, a_and, a_or, a_not, a_andV, a_orV, a_notV, a_ifE, a_chain, a_nil, a_cons, a_lst, a_tup, a_call, a_cb, a_bm0, a_bm, a_sl, a_nopart, a_part, a_tyI, a_for, a_comp, a_ilist, a_itup, a_irng1, a_irng2, a_irng3, a_cxK, a_irev, a_ienum, a_cat, a_rep, a_pop, a_clear, a_rslL, a_ixL, a_ixT, a_setL, a_app]); (try simp only [a_ipC, a_izip, a_tComp2, a_tryAs, a_drop_nx, a_raise, a_try, a_compIf, a_seq, a_next, a_brk, a_cnt, a_drop, a_ret, a_retN, a_if, a_asg, a_gname, a_gsub, a_gtup, a_gnil, a_gcons, a_aug, a_augS, a_ipI, a_var, a_c, a_op, a_un, a_rI, a_rI0, a_rU, a_eqI, a_neI, a_eqB, a_neB, a_tB, a_test, a_and, a_or, a_not, a_andV, a_orV, a_notV, a_ifE, a_chain, a_nil, a_cons, a_lst, a_tup, a_call, a_cb, a_bm0, a_bm, a_sl, a_nopart, a_part, a_tyI, a_for, a_comp, a_ilist, a_itup, a_irng1, a_irng2, a_irng3, a_cxK, and_assoc, a_irev, a_ienum, a_cat, a_rep, a_pop, a_clear, a_rslL, a_ixL, a_ixT, a_setL, a_app,
    List.getElem?_cons_zero, List.getElem?_cons_succ, List.set_cons_zero, List.set_cons_succ, Option.some.injEq, V.int.injEq, V.bl.injEq, V.ref.injEq, V.ty.injEq, exists_eq_left', exists_eq_left, exists_and_left, decide_eq_true_eq, List.cons_append, List.nil_append, List.append_nil, List.cons.injEq, and_true, true_and, Bool.not_eq_true', decide_eq_false_iff_not, ite_true, ite_false, Bool.false_eq_true, if_true, if_false, List.length_cons, List.length_nil, L2.start, List.map_cons, List.map_nil, List.replicate_succ, List.replicate_zero])
    exact ⟨a, R, F, ns, ts, _, rfl, s13.seq hA, hl, SqL.of eR, SqL.of (s3 _ _ eF), lt, bt, fun fs lf bf Vp vs' H4 s4 eV tl => (hM _ _).mpr ⟨fs, Vp, vs', rfl, lf, bf, s4, eV, tl⟩⟩
  intro σ H4 hm
  obtain ⟨fs, Vp, vs', rfl, lf, bf, s4, eV, tl⟩ := (hM _ _).mp hm
  clear hm hM M
  (try dsimp only [a_ipC, a_izip, a_tComp2, a_tryAs, a_drop_nx, a_raise, a_try, a_compIf, a_seq, a_next, a_brk, a_cnt, a_drop, a_ret, a_retN, a_if, a_asg, a_gname, a_gsub, a_gtup, a_gnil, a_gcons, a_aug, a_augS, a_ipI, a_var, a_c, a_op, a_un, a_rI, a_rI0, a_rU, a_eqI, a_neI, a_eqB, a_neB, a_tB, a_test, a_and, a_or, a_not, a_andV, a_orV, a_notV, a_ifE, a_chain, a_nil, a_cons, a_lst, a_tup, a_call, a_cb, a_bm0, a_bm, a_sl, a_nopart, a_part, a_tyI, a_for, a_comp, a_ilist, a_itup, a_irng1, a_irng2, a_irng3, a_cxK, a_irev, a_ienum, a_cat, a_rep, a_pop, a_clear, a_rslL, a_ixL, a_ixT, a_setL, a_app]); (try simp only [a_ipC, a_izip, a_tComp2, a_tryAs, a_drop_nx, a_raise, a_try, a_compIf, a_seq, a_next, a_brk, a_cnt, a_drop, a_ret, a_retN, a_if, a_asg, a_gname, a_gsub, a_gtup, a_gnil, a_gcons, a_aug, a_augS, a_ipI, a_var, a_c, a_op, a_un, a_rI, a_rI0, a_rU, a_eqI, a_neI, a_eqB, a_neB, a_tB, a_test, a_and, a_or, a_not, a_andV, a_orV, a_notV, a_ifE, a_chain, a_nil, a_cons, a_lst, a_tup, a_call, a_cb, a_bm0, a_bm, a_sl, a_nopart, a_part, a_tyI, a_for, a_comp, a_ilist, a_itup, a_irng1, a_irng2, a_irng3, a_cxK, and_assoc, a_irev, a_ienum, a_cat, a_rep, a_pop, a_clear, a_rslL, a_ixL, a_ixT, a_setL, a_app,
    List.getElem?_cons_zero, List.getElem?_cons_succ, List.set_cons_zero, List.set_cons_succ, Option.some.injEq, V.int.injEq, V.bl.injEq, V.ref.injEq, V.ty.injEq, exists_eq_left', exists_eq_left, exists_and_left, decide_eq_true_eq, List.cons_append, List.nil_append, List.append_nil, List.cons.injEq, and_true, true_and, Bool.not_eq_true', decide_eq_false_iff_not, ite_true, ite_false, Bool.false_eq_true, if_true, if_false, List.length_cons, List.length_nil, L2.start, List.map_cons, List.map_nil, List.replicate_succ, List.replicate_zero])
  have s14 := s13.trans s4
  have eR4 := s4 _ _ eR
  have lh4 := lh.same s4
  refine ⟨⟨_, SqL.of eR4⟩, fun D2 nD2 => ?_⟩
  obtain ⟨Pd, hPd⟩ : ∃ Pd : Nat → Hp → Prop, ∀ j Hx, Pd j Hx ↔ ∃ bs : List Addr, Hx D2 = some (.lst (bs.map V.ref)) ∧ LH Hx bs (ps.take j) ∧ D2 ∉ bs ∧ Same H4 Hx := ⟨_, fun _ _ => Iff.rfl⟩
  refine cl_list (xs := as.map V.ref) Pd ((hPd _ _).mpr ⟨[], upd_same, LH.nil _, by simp, same_upd nD2 _⟩) (fun i Hx _ z => by obtain ⟨_, _, _, _, z4⟩ := (hPd i Hx).mp z; exact SqL.of (z4 _ _ eR4)) ?_ ?_
  · intro j v Hx hv hc'
    obtain ⟨bs, h1, h2, h3, h4⟩ := (hPd _ _).mp hc'
    obtain ⟨a', p', rfl, ha, hp', hA'⟩ := (lh4.ll (K := K)).nth hv
    have hj : j < ps.length := (List.getElem?_eq_some_iff.mp hp').1
    have lb := h2.len
    rw [List.length_take] at lb
    (try dsimp only [a_ipC, a_izip, a_tComp2, a_tryAs, a_drop_nx, a_raise, a_try, a_compIf, a_seq, a_next, a_brk, a_cnt, a_drop, a_ret, a_retN, a_if, a_asg, a_gname, a_gsub, a_gtup, a_gnil, a_gcons, a_aug, a_augS, a_ipI, a_var, a_c, a_op, a_un, a_rI, a_rI0, a_rU, a_eqI, a_neI, a_eqB, a_neB, a_tB, a_test, a_and, a_or, a_not, a_andV, a_orV, a_notV, a_ifE, a_chain, a_nil, a_cons, a_lst, a_tup, a_call, a_cb, a_bm0, a_bm, a_sl, a_nopart, a_part, a_tyI, a_for, a_comp, a_ilist, a_itup, a_irng1, a_irng2, a_irng3, a_cxK, a_irev, a_ienum, a_cat, a_rep, a_pop, a_clear, a_rslL, a_ixL, a_ixT, a_setL, a_app]); (try simp only [a_ipC, a_izip, a_tComp2, a_tryAs, a_drop_nx, a_raise, a_try, a_compIf, a_seq, a_next, a_brk, a_cnt, a_drop, a_ret, a_retN, a_if, a_asg, a_gname, a_gsub, a_gtup, a_gnil, a_gcons, a_aug, a_augS, a_ipI, a_var, a_c, a_op, a_un, a_rI, a_rI0, a_rU, a_eqI, a_neI, a_eqB, a_neB, a_tB, a_test, a_and, a_or, a_not, a_andV, a_orV, a_notV, a_ifE, a_chain, a_nil, a_cons, a_lst, a_tup, a_call, a_cb, a_bm0, a_bm, a_sl, a_nopart, a_part, a_tyI, a_for, a_comp, a_ilist, a_itup, a_irng1, a_irng2, a_irng3, a_cxK, and_assoc, a_irev, a_ienum, a_cat, a_rep, a_pop, a_clear, a_rslL, a_ixL, a_ixT, a_setL, a_app,
    List.getElem?_cons_zero, List.getElem?_cons_succ, List.set_cons_zero, List.set_cons_succ, Option.some.injEq, V.int.injEq, V.bl.injEq, V.ref.injEq, V.ty.injEq, exists_eq_left', exists_eq_left, exists_and_left, decide_eq_true_eq, List.cons_append, List.nil_append, List.append_nil, List.cons.injEq, and_true, true_and, Bool.not_eq_true', decide_eq_false_iff_not, ite_true, ite_false, Bool.false_eq_true, if_true, if_false, List.length_cons, List.length_nil, L2.start, List.map_cons, List.map_nil, List.replicate_succ, List.replicate_zero, bst])
    refine ⟨_, .inl (h4.seq hA'), fun l nl => ?_⟩
    have w1 := same_upd nl (.lst (p'.map V.int))
    have nlD : l ≠ D2 := fun z => by rw [z, h1] at nl; cases nl
    have nDb : D2 ∉ bs ++ [l] := fun z => by
      rcases List.mem_append.mp z with z | z
      · exact h3 z
      · exact nlD (List.mem_singleton.mp z).symm
    refine ⟨_, w1 _ _ h1, by rw [List.length_map]; exact small1000 (by omega), (hPd _ _).mpr ⟨bs ++ [l], by rw [upd_same]; simp, ?_, nDb, (h4.trans w1).more nD2⟩⟩
    have e : ps.take (j + 1) = ps.take j ++ [p'] := by rw [List.take_succ, hp']; rfl
    rw [e]
    exact ((h2.same w1).snoc upd_same).upd nDb
  intro H5 hc'
  obtain ⟨bs, eD5, lh5, nDb, s5⟩ := (hPd _ _).mp hc'
  rw [List.length_map, lh4.len, List.take_length] at lh5
  have eV5 := s5 _ _ eV
  refine ⟨_, .inl (SqL.of eV5), fun L nL => ⟨by decide, fun W nW => ?_⟩⟩
  have u6 := same_upd nL (.lst (vs'.map V.ref))
  have eL6 : upd H5 L (.lst (vs'.map V.ref)) L = some (.lst (vs'.map V.ref)) := upd_same
  generalize upd H5 L (.lst (vs'.map V.ref)) = H6 at u6 eL6 nW ⊢
  have u7 := same_upd nW (.lst [V.ref D2, V.ref L])
  have eW7 : upd H6 W (.lst [V.ref D2, V.ref L]) W = some (.lst [V.ref D2, V.ref L]) := upd_same
  generalize upd H6 W (.lst [V.ref D2, V.ref L]) = H7 at u7 eW7 ⊢
  have u57 := u6.trans u7
  have s47 := s5.trans u57
  have bf' : ∀ f ∈ fs, Frc f ∧ Bd 3000 f.1 ∧ Bd 400 f.2 := fun f hf => ⟨(bf f hf).1, (bf f hf).2.1.mono (by decide), (bf f hf).2.2.mono (by decide)⟩
  have eD7 := u57 _ _ eD5
  have eL7 := u7 _ _ eL6
  have lh7 := lh5.same u57
  have tl7 := tl.same s47
  refine ⟨_, SqL.of eW7, _, rfl, _, SqL.of eW7, _, rfl, D2, L, bs, vs', ps, fs, rfl, SqL.of eD7, lh7.ll, SqL.of eL7, tl7, by omega, ru, by omega, bp, bf', fun H8 s8 => ?_⟩
  have s48 := s47.trans s8
  refine ⟨true, rfl, ?_⟩
  rw [if_neg (by simp)]
  refine ⟨by decide, fun Pp nP => ?_⟩
  have u9 := same_upd nP (.lst [V.ref R, V.ref Vp])
  have eP9 : upd H8 Pp (.lst [V.ref R, V.ref Vp]) Pp = some (.lst [V.ref R, V.ref Vp]) := upd_same
  generalize upd H8 Pp (.lst [V.ref R, V.ref Vp]) = H9 at u9 eP9 ⊢
  have u79 := s8.trans u9
  have s49 := s48.trans u9
  have eW9 := u79 _ _ eW7
  have eD9 := u79 _ _ eD7
  have eL9 := u79 _ _ eL7
  have lh9 := lh7.same u79
  have tl9 := tl7.same u79
  have eR9 := s49 _ _ eR4
  have eV9 := s49 _ _ eV
  have lhR9 := lh4.same s49
  refine ⟨.list [.list (ps.map dL), .list (fs.map dT)], DV.lst (SqL.of eW9) (.cons (dv_ll (SqL.of eD9) lh9.ll) (.cons (.lst (SqL.of eL9) (dvs_tl _ _ tl9)) .nil)), .list [.list (ps.map dL), .list (fs.map dT)], DV.lst (SqL.of eP9) (.cons (dv_ll (SqL.of eR9) lhR9.ll) (.cons (.lst (SqL.of eV9) (dvs_tl _ _ tl9)) .nil)), ?_, ?_, ?_, ?_⟩
  · simp [PyData.canLay0, PyData.canLayAll0, layAll_ll, layAll_tl]
  · simp [PyData.canLay0, PyData.canLayAll0, layAll_ll, layAll_tl]
  · have h1 := depAll_ll ps
    have h2 := depAll_tl fs
    simp [PyData.depth, PyData.depthAll]; omega
  have e : PyData.eqv (.list [.list (ps.map dL), .list (fs.map dT)]) (.list [.list (ps.map dL), .list (fs.map dT)]) = true := by simp [PyData.eqv, PyData.eqvAll, eqvAll_ll, eqvAll_tl]
  rw [e, if_neg (by simp)]
  have s09 := s14.trans s49
  have n4D : H D2 = none := s14.free nD2
  have nWD : W ≠ D2 := fun z => by rw [z, u6 _ _ eD5] at nW; cases nW
  have nLD : L ≠ D2 := fun z => by rw [z, eD5] at nL; cases nL
  have nVD : Vp ≠ D2 := fun z => by rw [z, nD2] at eV; cases eV
  have nVL : Vp ≠ L := fun z => by rw [z, nL] at eV5; cases eV5
  have nWL : W ≠ L := fun z => by rw [z, eL6] at nW; cases nW
  have n4L : H L = none := (s14.trans s5).free nL
  have lb := tl9.len
  obtain ⟨M, hM⟩ : ∃ M : L2.St → Hp → Prop, ∀ σ H2, M σ H2 ↔ ∃ r5 : Option V, σ = [some (V.ref a), some (V.ref F), some (V.ref R), some (V.ref Vp), some (V.ref W), r5] ∧ H2 W = some (.lst [V.ref D2, V.ref L]) ∧ H2 D2 = some (.lst (bs.map V.ref)) ∧ LH H2 bs ps ∧ H2 Vp = some (.lst (vs'.map V.ref)) ∧ TL K H2 vs' fs := ⟨_, fun _ _ => Iff.rfl⟩
  refine mid_of M ?_ ?_
  · (try dsimp only [a_ipC, a_izip, a_tComp2, a_tryAs, a_drop_nx, a_raise, a_try, a_compIf, a_seq, a_next, a_brk, a_cnt, a_drop, a_ret, a_retN, a_if, a_asg, a_gname, a_gsub, a_gtup, a_gnil, a_gcons, a_aug, a_augS, a_ipI, a_var, a_c, a_op, a_un, a_rI, a_rI0, a_rU, a_eqI, a_neI, a_eqB, a_neB, a_tB, a_test, a_and, a_or, a_not, a_andV, a_orV, a_notV, a_ifE, a_chain, a_nil, a_cons, a_lst, a_tup, a_call, a_cb, a_bm0, a_bm, a_sl, a_nopart, a_part, a_tyI, a_for, a_comp, a_ilist, a_itup, a_irng1, a_irng2, a_irng3, a_cxK, a_irev, a_ienum, a_cat, a_rep, a_pop, a_clear, a_rslL, a_ixL, a_ixT, a_setL, a_app]); (try simp only [a_ipC, a_izip, a_tComp2, a_tryAs, a_drop_nx, a_raise, a_try, a_compIf, a_seq, a_next, a_brk, a_cnt, a_drop, a_ret, a_retN, a_if, a_asg, a_gname, a_gsub, a_gtup, a_gnil, a_gcons, a_aug, a_augS, a_ipI, a_var, a_c, a_op, a_un, a_rI, a_rI0, a_rU, a_eqI, a_neI, a_eqB, a_neB, a_tB, a_test, a_and, a_or, a_not, a_andV, a_orV, a_notV, a_ifE, a_chain, a_nil, a_cons, a_lst, a_tup, a_call, a_cb, a_bm0, a_bm, a_sl, a_nopart, a_part, a_tyI, a_for, a_comp, a_ilist, a_itup, a_irng1, a_irng2, a_irng3, a_cxK, and_assoc, a_irev, a_ienum, a_cat, a_rep, a_pop, a_clear, a_rslL, a_ixL, a_ixT, a_setL, a_app,
    List.getElem?_cons_zero, List.getElem?_cons_succ, List.set_cons_zero, List.set_cons_succ, Option.some.injEq, V.int.injEq, V.bl.injEq, V.ref.injEq, V.ty.injEq, exists_eq_left', exists_eq_left, exists_and_left, decide_eq_true_eq, List.cons_append, List.nil_append, List.append_nil, List.cons.injEq, and_true, true_and, Bool.not_eq_true', decide_eq_false_iff_not, ite_true, ite_false, Bool.false_eq_true, if_true, if_false, List.length_cons, List.length_nil, L2.start, List.map_cons, List.map_nil, List.replicate_succ, List.replicate_zero])
    refine ⟨_, .inl (SqL.of eV9), ite2 (fun h => ?_) (fun h => (hM _ _).mpr ⟨_, rfl, eW9, eD9, lh9, eV9, tl9⟩)⟩
    obtain ⟨j, hj, jl⟩ : ∃ j : Nat, cell ns 1 / 3 % ((vs'.map V.ref).length : Int) = (j : Int) ∧ j < vs'.length := by
      rw [List.length_map] at h ⊢
      have h1 := Int.emod_nonneg (cell ns 1 / 3) (show (vs'.length : Int) ≠ 0 by omega)
      have h2 := Int.emod_lt_of_pos (cell ns 1 / 3) h
      exact ⟨(cell ns 1 / 3 % (vs'.length : Int)).toNat, by omega, by omega⟩
    obtain ⟨b, hb⟩ : ∃ b, vs'[j]? = some b := ⟨_, List.getElem?_eq_getElem jl⟩
    obtain ⟨f, hf⟩ : ∃ f, fs[j]? = some f := ⟨_, List.getElem?_eq_getElem (by omega)⟩
    have at' : atI (vs'.map V.ref) (j : Int) = some (.ref b) := by
      unfold atI
      rw [ixN_nat (by rw [List.length_map]; exact jl)]
      show (vs'.map V.ref)[j]? = _
      rw [List.getElem?_map, hb]; rfl
    have tb := tl9.get j b f hb hf
    have bff := bf f (List.mem_of_getElem? hf)
    have f0 : f.2 ≠ 0 := by have := bff.1.1; omega
    refine ⟨a, ns, 1, rfl, s09.seq hA, _, rfl, ⟨by decide, by decide⟩, _, .inl (SqL.of eV9), h, ?_⟩
    rw [hj]
    refine ⟨_, SqL.of eV9, _, at', b, rfl, _, tb, _, rfl, _, SqL.of eV9, _, at', b, rfl, _, tb, _, rfl, _, rfl, _, rfl, ?_⟩
    refine ⟨_, SqL.of eV9, _, at', b, rfl, _, tb, _, rfl, _, _, rfl, f0, bff.2.2.mono (by decide), fun x y y1 cg e lx ly r nr => ?_⟩
    have w1 := same_upd nr (.tup [V.int x, V.int y])
    have eT : upd H9 r (.tup [V.int x, V.int y]) r = some (.tup [V.int x, V.int y]) := upd_same
    generalize upd H9 r (.tup [V.int x, V.int y]) = HA at w1 eT ⊢
    have nrL : r ≠ L := fun e => by rw [e, eL9] at nr; cases nr
    refine ⟨_, SqL.of (w1 _ _ eW9), _, rfl, L, rfl, _, w1 _ _ eL9, j, ixN_nat (by rw [List.length_map]; exact jl), ?_⟩
    have eWB : upd HA L (.lst ((vs'.map V.ref).set j (V.ref r))) W = some (.lst [V.ref D2, V.ref L]) := by rw [upd_ne nWL]; exact w1 _ _ eW9
    have eLB : upd HA L (.lst ((vs'.map V.ref).set j (V.ref r))) L = some (.lst ((vs'.set j r).map V.ref)) := by rw [upd_same, List.map_set]
    have eDB : upd HA L (.lst ((vs'.map V.ref).set j (V.ref r))) D2 = some (.lst (bs.map V.ref)) := by rw [upd_ne nLD.symm]; exact w1 _ _ eD9
    have eVB : upd HA L (.lst ((vs'.map V.ref).set j (V.ref r))) Vp = some (.lst (vs'.map V.ref)) := by rw [upd_ne nVL]; exact w1 _ _ eV9
    have tlB : TL K (upd HA L (.lst ((vs'.map V.ref).set j (V.ref r)))) vs' fs := (tl9.same w1).upd (w1 _ _ eL9)
    have eTB : upd HA L (.lst ((vs'.map V.ref).set j (V.ref r))) r = some (.tup [V.int x, V.int y]) := by rw [upd_ne nrL]; exact eT
    have lhB : LH (upd HA L (.lst ((vs'.map V.ref).set j (V.ref r)))) bs ps := (lh9.same w1).upd (lh5.notin nL)
    generalize upd HA L (.lst ((vs'.map V.ref).set j (V.ref r))) = HB at eWB eLB eDB eVB tlB eTB lhB ⊢
    refine ⟨_, SqL.of eWB, _, rfl, _, SqL.of eWB, _, rfl, D2, L, bs, vs'.set j r, ps, fs.set j (x, y), rfl, SqL.of eDB, lhB.ll, SqL.of eLB, tlB.set (SqT.of eTB) j, by omega, ru, by rw [List.length_set]; omega, bp, fun g hg => ?_, fun HC sC => ⟨true, rfl, ?_⟩⟩
    · rcases List.mem_or_eq_of_mem_set hg with z | z
      · exact bf' g z
      · rw [z]
        exact ⟨⟨y1, cg⟩, Bd.mono (Nat.lt_of_le_of_lt lx (bff.2.1.add (bff.2.2.mono (by decide)))) (by decide), Bd.mono (Nat.lt_of_le_of_lt ly bff.2.2) (by decide)⟩
    · rw [if_neg (by simp)]
      exact (hM _ _).mpr ⟨_, rfl, sC _ _ eWB, sC _ _ eDB, lhB.same sC, sC _ _ eVB, tlB.same sC⟩
  · intro σ Hx hm'
    obtain ⟨r5, rfl, eW, eD, lhx, eV, tlx⟩ := (hM _ _).mp hm'
    (try dsimp only [a_ipC, a_izip, a_tComp2, a_tryAs, a_drop_nx, a_raise, a_try, a_compIf, a_seq, a_next, a_brk, a_cnt, a_drop, a_ret, a_retN, a_if, a_asg, a_gname, a_gsub, a_gtup, a_gnil, a_gcons, a_aug, a_augS, a_ipI, a_var, a_c, a_op, a_un, a_rI, a_rI0, a_rU, a_eqI, a_neI, a_eqB, a_neB, a_tB, a_test, a_and, a_or, a_not, a_andV, a_orV, a_notV, a_ifE, a_chain, a_nil, a_cons, a_lst, a_tup, a_call, a_cb, a_bm0, a_bm, a_sl, a_nopart, a_part, a_tyI, a_for, a_comp, a_ilist, a_itup, a_irng1, a_irng2, a_irng3, a_cxK, a_irev, a_ienum, a_cat, a_rep, a_pop, a_clear, a_rslL, a_ixL, a_ixT, a_setL, a_app]); (try simp only [a_ipC, a_izip, a_tComp2, a_tryAs, a_drop_nx, a_raise, a_try, a_compIf, a_seq, a_next, a_brk, a_cnt, a_drop, a_ret, a_retN, a_if, a_asg, a_gname, a_gsub, a_gtup, a_gnil, a_gcons, a_aug, a_augS, a_ipI, a_var, a_c, a_op, a_un, a_rI, a_rI0, a_rU, a_eqI, a_neI, a_eqB, a_neB, a_tB, a_test, a_and, a_or, a_not, a_andV, a_orV, a_notV, a_ifE, a_chain, a_nil, a_cons, a_lst, a_tup, a_call, a_cb, a_bm0, a_bm, a_sl, a_nopart, a_part, a_tyI, a_for, a_comp, a_ilist, a_itup, a_irng1, a_irng2, a_irng3, a_cxK, and_assoc, a_irev, a_ienum, a_cat, a_rep, a_pop, a_clear, a_rslL, a_ixL, a_ixT, a_setL, a_app,
    List.getElem?_cons_zero, List.getElem?_cons_succ, List.set_cons_zero, List.set_cons_succ, Option.some.injEq, V.int.injEq, V.bl.injEq, V.ref.injEq, V.ty.injEq, exists_eq_left', exists_eq_left, exists_and_left, decide_eq_true_eq, List.cons_append, List.nil_append, List.append_nil, List.cons.injEq, and_true, true_and, Bool.not_eq_true', decide_eq_false_iff_not, ite_true, ite_false, Bool.false_eq_true, if_true, if_false, List.length_cons, List.length_nil, L2.start, List.map_cons, List.map_nil, List.replicate_succ, List.replicate_zero])
    have lx := lhx.len
    have lp5 := lp
    refine ⟨_, SqL.of eW, _, rfl, a_tyL (SqL.of eD), Nat.zero_le _, fun z nz => ⟨D2, rfl, _, (same_upd nz (.lst [])) _ _ eD, by rw [List.length_map]; exact small1000 (by omega), ?_⟩⟩
    have v1 := same_upd nz (.lst [])
    have nzD : z ≠ D2 := fun e => by rw [e, eD] at nz; cases nz
    have nDz : D2 ∉ bs ++ [z] := fun y => by
      rcases List.mem_append.mp y with y | y
      · exact nDb y
      · exact nzD (List.mem_singleton.mp y).symm
    have eWG : upd (upd Hx z (.lst [])) D2 (.lst (bs.map V.ref ++ [V.ref z])) W = some (.lst [V.ref D2, V.ref L]) := by rw [upd_ne nWD]; exact v1 _ _ eW
    have eDG : upd (upd Hx z (.lst [])) D2 (.lst (bs.map V.ref ++ [V.ref z])) D2 = some (.lst ((bs ++ [z]).map V.ref)) := by rw [upd_same]; simp
    have eVG : upd (upd Hx z (.lst [])) D2 (.lst (bs.map V.ref ++ [V.ref z])) Vp = some (.lst (vs'.map V.ref)) := by rw [upd_ne nVD]; exact v1 _ _ eV
    have tlG : TL K (upd (upd Hx z (.lst [])) D2 (.lst (bs.map V.ref ++ [V.ref z]))) vs' fs := (tlx.same v1).upd (v1 _ _ eD)
    have lhG : LH (upd (upd Hx z (.lst [])) D2 (.lst (bs.map V.ref ++ [V.ref z]))) (bs ++ [z]) (ps ++ [[]]) := ((lhx.same v1).snoc (p := []) upd_same).upd nDz
    generalize upd (upd Hx z (.lst [])) D2 (.lst (bs.map V.ref ++ [V.ref z])) = G at eWG eDG eVG tlG lhG ⊢
    refine ⟨_, SqL.of eWG, _, rfl, _, eVG, _, eVG, by rw [List.length_map]; exact Nat.le_of_lt (small1000 (by omega)), fun y ny => ?_⟩
    have v2 := same_upd ny (.lst (vs'.map V.ref ++ vs'.map V.ref))
    have eY : upd G y (.lst (vs'.map V.ref ++ vs'.map V.ref)) y = some (.lst ((vs' ++ vs').map V.ref)) := by rw [upd_same]; simp
    generalize upd G y (.lst (vs'.map V.ref ++ vs'.map V.ref)) = G2 at v2 eY ⊢
    refine ⟨D2, y, bs ++ [z], vs' ++ vs', ps ++ [[]], fs ++ fs, 0, rfl, SqL.of (v2 _ _ eDG), (lhG.same v2).ll, SqL.of eY, (tlG.app tlG).same v2, by simp; omega, by simp; omega, fun p' hp' => ?_, fun f hf => ?_, .inl ⟨fun hI => hI.2.1 [] (by simp) rfl, fun r Hr sr er => ?_⟩⟩
    · rcases List.mem_append.mp hp' with z | z
      · exact bp p' z
      · rw [List.mem_singleton.mp z]; exact ⟨by simp, by simp⟩
    · rcases List.mem_append.mp hf with z | z <;> exact bf' f z
    · refine ⟨by decide, fun t nt => ?_⟩
      have v7 := same_upd nt (.tup [V.bl false, V.bl true])
      refine ⟨_, DV.tup (SqT.of (v7 _ _ er)) (.cons (.bl _) (.cons (.bl _) .nil)), _, DV.tup (SqT.of upd_same) (.cons (.bl _) (.cons (.bl _) .nil)), by simp [PyData.canLay0, PyData.canLayAll0], by simp [PyData.canLay0, PyData.canLayAll0], by simp [PyData.depth, PyData.depthAll], ?_⟩
      have e : PyData.eqv (.tuple [.bool false, .bool true]) (.tuple [.bool false, .bool true]) = true := by simp [PyData.eqv, PyData.eqvAll]
      rw [e]
      exact q _

theorem ln_1 {us : List Value} (h : us.length = 1) : ∃ x0, us = [x0] := by
  match us, h with
  | [x0], _ => exact ⟨x0, rfl⟩
theorem ln_2 {us : List Value} (h : us.length = 2) : ∃ x0 x1, us = [x0, x1] := by
  match us, h with
  | [x0, x1], _ => exact ⟨x0, x1, rfl⟩
theorem ln_3 {us : List Value} (h : us.length = 3) : ∃ x0 x1 x2, us = [x0, x1, x2] := by
  match us, h with
  | [x0, x1, x2], _ => exact ⟨x0, x1, x2, rfl⟩
theorem all_mk {K : PySem.W.Frag} {h : Heap} {mg : Str → Option Value} {fa f0 f1 f2 f3 f4 f5 f6 f7 f8 f9 f10 f11 f12 f13 f14 f15 f16 f17 f18 f19 f20 f21 f22 f23 f24 f25 : Addr} (X : K.In h) (G : h.Ns mainGlobals mg) (hfa : mg "law" = some (.ref fa))
    {od0 an0 : Option Addr} {sl0 : Array (Option Value)} {oc0 kV0 dc0 pm0 cd0 ct0 : Value}
    (a0 : PySem.W.nsIn K mainGlobals "poly_value" = some (some (.ref f0))) (l0 : K.lookup f0 = some ⟨oc0, od0, .func (PySem.W.fnOf "poly_value" "poly_value" (defArgs s_poly_value) (defBody s_poly_value) (defScope s_poly_value) .none kV0 dc0 pm0 an0 cd0 ct0), sl0⟩) (c0 : PySem.W.codeIn K cd0 "poly_value" = true) (k0 : PySem.W.keepIn K (.ref f0) = true)
    {od1 an1 : Option Addr} {sl1 : Array (Option Value)} {oc1 kV1 dc1 pm1 cd1 ct1 : Value}
    (a1 : PySem.W.nsIn K mainGlobals "divisor" = some (some (.ref f1))) (l1 : K.lookup f1 = some ⟨oc1, od1, .func (PySem.W.fnOf "divisor" "divisor" (defArgs s_divisor) (defBody s_divisor) (defScope s_divisor) .none kV1 dc1 pm1 an1 cd1 ct1), sl1⟩) (c1 : PySem.W.codeIn K cd1 "divisor" = true) (k1 : PySem.W.keepIn K (.ref f1) = true)
    {od2 an2 : Option Addr} {sl2 : Array (Option Value)} {oc2 kV2 dc2 pm2 cd2 ct2 : Value}
    (a2 : PySem.W.nsIn K mainGlobals "ratio" = some (some (.ref f2))) (l2 : K.lookup f2 = some ⟨oc2, od2, .func (PySem.W.fnOf "ratio" "ratio" (defArgs s_ratio) (defBody s_ratio) (defScope s_ratio) .none kV2 dc2 pm2 an2 cd2 ct2), sl2⟩) (c2 : PySem.W.codeIn K cd2 "ratio" = true) (k2 : PySem.W.keepIn K (.ref f2) = true)
    {od3 an3 : Option Addr} {sl3 : Array (Option Value)} {oc3 kV3 dc3 pm3 cd3 ct3 : Value}
    (a3 : PySem.W.nsIn K mainGlobals "order_of" = some (some (.ref f3))) (l3 : K.lookup f3 = some ⟨oc3, od3, .func (PySem.W.fnOf "order_of" "order_of" (defArgs s_order_of) (defBody s_order_of) (defScope s_order_of) .none kV3 dc3 pm3 an3 cd3 ct3), sl3⟩) (c3 : PySem.W.codeIn K cd3 "order_of" = true) (k3 : PySem.W.keepIn K (.ref f3) = true)
    {od4 an4 : Option Addr} {sl4 : Array (Option Value)} {oc4 kV4 dc4 pm4 cd4 ct4 : Value}
    (a4 : PySem.W.nsIn K mainGlobals "weighted" = some (some (.ref f4))) (l4 : K.lookup f4 = some ⟨oc4, od4, .func (PySem.W.fnOf "weighted" "weighted" (defArgs s_weighted) (defBody s_weighted) (defScope s_weighted) .none kV4 dc4 pm4 an4 cd4 ct4), sl4⟩) (c4 : PySem.W.codeIn K cd4 "weighted" = true) (k4 : PySem.W.keepIn K (.ref f4) = true)
    {od5 an5 : Option Addr} {sl5 : Array (Option Value)} {oc5 kV5 dc5 pm5 cd5 ct5 : Value}
    (a5 : PySem.W.nsIn K mainGlobals "total" = some (some (.ref f5))) (l5 : K.lookup f5 = some ⟨oc5, od5, .func (PySem.W.fnOf "total" "total" (defArgs s_total) (defBody s_total) (defScope s_total) .none kV5 dc5 pm5 an5 cd5 ct5), sl5⟩) (c5 : PySem.W.codeIn K cd5 "total" = true) (k5 : PySem.W.keepIn K (.ref f5) = true)
    {od6 an6 : Option Addr} {sl6 : Array (Option Value)} {oc6 kV6 dc6 pm6 cd6 ct6 : Value}
    (a6 : PySem.W.nsIn K mainGlobals "rule_sum" = some (some (.ref f6))) (l6 : K.lookup f6 = some ⟨oc6, od6, .func (PySem.W.fnOf "rule_sum" "rule_sum" (defArgs s_rule_sum) (defBody s_rule_sum) (defScope s_rule_sum) .none kV6 dc6 pm6 an6 cd6 ct6), sl6⟩) (c6 : PySem.W.codeIn K cd6 "rule_sum" = true) (k6 : PySem.W.keepIn K (.ref f6) = true)
    {od7 an7 : Option Addr} {sl7 : Array (Option Value)} {oc7 kV7 dc7 pm7 cd7 ct7 : Value}
    (a7 : PySem.W.nsIn K mainGlobals "keeps" = some (some (.ref f7))) (l7 : K.lookup f7 = some ⟨oc7, od7, .func (PySem.W.fnOf "keeps" "keeps" (defArgs s_keeps) (defBody s_keeps) (defScope s_keeps) .none kV7 dc7 pm7 an7 cd7 ct7), sl7⟩) (c7 : PySem.W.codeIn K cd7 "keeps" = true) (k7 : PySem.W.keepIn K (.ref f7) = true)
    {od8 an8 : Option Addr} {sl8 : Array (Option Value)} {oc8 kV8 dc8 pm8 cd8 ct8 : Value}
    (a8 : PySem.W.nsIn K mainGlobals "_law_cell_at" = some (some (.ref f8))) (l8 : K.lookup f8 = some ⟨oc8, od8, .func (PySem.W.fnOf "_law_cell_at" "_law_cell_at" (defArgs s__law_cell_at) (defBody s__law_cell_at) (defScope s__law_cell_at) .none kV8 dc8 pm8 an8 cd8 ct8), sl8⟩) (c8 : PySem.W.codeIn K cd8 "_law_cell_at" = true) (k8 : PySem.W.keepIn K (.ref f8) = true)
    {od9 an9 : Option Addr} {sl9 : Array (Option Value)} {oc9 kV9 dc9 pm9 cd9 ct9 : Value}
    (a9 : PySem.W.nsIn K mainGlobals "_law_number" = some (some (.ref f9))) (l9 : K.lookup f9 = some ⟨oc9, od9, .func (PySem.W.fnOf "_law_number" "_law_number" (defArgs s__law_number) (defBody s__law_number) (defScope s__law_number) .none kV9 dc9 pm9 an9 cd9 ct9), sl9⟩) (c9 : PySem.W.codeIn K cd9 "_law_number" = true) (k9 : PySem.W.keepIn K (.ref f9) = true)
    {od10 an10 : Option Addr} {sl10 : Array (Option Value)} {oc10 kV10 dc10 pm10 cd10 ct10 : Value}
    (a10 : PySem.W.nsIn K mainGlobals "_law_cut" = some (some (.ref f10))) (l10 : K.lookup f10 = some ⟨oc10, od10, .func (PySem.W.fnOf "_law_cut" "_law_cut" (defArgs s__law_cut) (defBody s__law_cut) (defScope s__law_cut) .none kV10 dc10 pm10 an10 cd10 ct10), sl10⟩) (c10 : PySem.W.codeIn K cd10 "_law_cut" = true) (k10 : PySem.W.keepIn K (.ref f10) = true)
    {od11 an11 : Option Addr} {sl11 : Array (Option Value)} {oc11 kV11 dc11 pm11 cd11 ct11 : Value}
    (a11 : PySem.W.nsIn K mainGlobals "_law_product" = some (some (.ref f11))) (l11 : K.lookup f11 = some ⟨oc11, od11, .func (PySem.W.fnOf "_law_product" "_law_product" (defArgs s__law_product) (defBody s__law_product) (defScope s__law_product) .none kV11 dc11 pm11 an11 cd11 ct11), sl11⟩) (c11 : PySem.W.codeIn K cd11 "_law_product" = true) (k11 : PySem.W.keepIn K (.ref f11) = true)
    {od12 an12 : Option Addr} {sl12 : Array (Option Value)} {oc12 kV12 dc12 pm12 cd12 ct12 : Value}
    (a12 : PySem.W.nsIn K mainGlobals "_law_moved" = some (some (.ref f12))) (l12 : K.lookup f12 = some ⟨oc12, od12, .func (PySem.W.fnOf "_law_moved" "_law_moved" (defArgs s__law_moved) (defBody s__law_moved) (defScope s__law_moved) .none kV12 dc12 pm12 an12 cd12 ct12), sl12⟩) (c12 : PySem.W.codeIn K cd12 "_law_moved" = true) (k12 : PySem.W.keepIn K (.ref f12) = true)
    {od13 an13 : Option Addr} {sl13 : Array (Option Value)} {oc13 kV13 dc13 pm13 cd13 ct13 : Value}
    (a13 : PySem.W.nsIn K mainGlobals "_law_value" = some (some (.ref f13))) (l13 : K.lookup f13 = some ⟨oc13, od13, .func (PySem.W.fnOf "_law_value" "_law_value" (defArgs s__law_value) (defBody s__law_value) (defScope s__law_value) .none kV13 dc13 pm13 an13 cd13 ct13), sl13⟩) (c13 : PySem.W.codeIn K cd13 "_law_value" = true) (k13 : PySem.W.keepIn K (.ref f13) = true)
    {od14 an14 : Option Addr} {sl14 : Array (Option Value)} {oc14 kV14 dc14 pm14 cd14 ct14 : Value}
    (a14 : PySem.W.nsIn K mainGlobals "_law_divisor" = some (some (.ref f14))) (l14 : K.lookup f14 = some ⟨oc14, od14, .func (PySem.W.fnOf "_law_divisor" "_law_divisor" (defArgs s__law_divisor) (defBody s__law_divisor) (defScope s__law_divisor) .none kV14 dc14 pm14 an14 cd14 ct14), sl14⟩) (c14 : PySem.W.codeIn K cd14 "_law_divisor" = true) (k14 : PySem.W.keepIn K (.ref f14) = true)
    {od15 an15 : Option Addr} {sl15 : Array (Option Value)} {oc15 kV15 dc15 pm15 cd15 ct15 : Value}
    (a15 : PySem.W.nsIn K mainGlobals "_law_lowest" = some (some (.ref f15))) (l15 : K.lookup f15 = some ⟨oc15, od15, .func (PySem.W.fnOf "_law_lowest" "_law_lowest" (defArgs s__law_lowest) (defBody s__law_lowest) (defScope s__law_lowest) .none kV15 dc15 pm15 an15 cd15 ct15), sl15⟩) (c15 : PySem.W.codeIn K cd15 "_law_lowest" = true) (k15 : PySem.W.keepIn K (.ref f15) = true)
    {od16 an16 : Option Addr} {sl16 : Array (Option Value)} {oc16 kV16 dc16 pm16 cd16 ct16 : Value}
    (a16 : PySem.W.nsIn K mainGlobals "_law_fraction" = some (some (.ref f16))) (l16 : K.lookup f16 = some ⟨oc16, od16, .func (PySem.W.fnOf "_law_fraction" "_law_fraction" (defArgs s__law_fraction) (defBody s__law_fraction) (defScope s__law_fraction) .none kV16 dc16 pm16 an16 cd16 ct16), sl16⟩) (c16 : PySem.W.codeIn K cd16 "_law_fraction" = true) (k16 : PySem.W.keepIn K (.ref f16) = true)
    {od17 an17 : Option Addr} {sl17 : Array (Option Value)} {oc17 kV17 dc17 pm17 cd17 ct17 : Value}
    (a17 : PySem.W.nsIn K mainGlobals "_law_weighed" = some (some (.ref f17))) (l17 : K.lookup f17 = some ⟨oc17, od17, .func (PySem.W.fnOf "_law_weighed" "_law_weighed" (defArgs s__law_weighed) (defBody s__law_weighed) (defScope s__law_weighed) .none kV17 dc17 pm17 an17 cd17 ct17), sl17⟩) (c17 : PySem.W.codeIn K cd17 "_law_weighed" = true) (k17 : PySem.W.keepIn K (.ref f17) = true)
    {od18 an18 : Option Addr} {sl18 : Array (Option Value)} {oc18 kV18 dc18 pm18 cd18 ct18 : Value}
    (a18 : PySem.W.nsIn K mainGlobals "_law_poly" = some (some (.ref f18))) (l18 : K.lookup f18 = some ⟨oc18, od18, .func (PySem.W.fnOf "_law_poly" "_law_poly" (defArgs s__law_poly) (defBody s__law_poly) (defScope s__law_poly) .none kV18 dc18 pm18 an18 cd18 ct18), sl18⟩) (c18 : PySem.W.codeIn K cd18 "_law_poly" = true) (k18 : PySem.W.keepIn K (.ref f18) = true)
    {od19 an19 : Option Addr} {sl19 : Array (Option Value)} {oc19 kV19 dc19 pm19 cd19 ct19 : Value}
    (a19 : PySem.W.nsIn K mainGlobals "_law_less" = some (some (.ref f19))) (l19 : K.lookup f19 = some ⟨oc19, od19, .func (PySem.W.fnOf "_law_less" "_law_less" (defArgs s__law_less) (defBody s__law_less) (defScope s__law_less) .none kV19 dc19 pm19 an19 cd19 ct19), sl19⟩) (c19 : PySem.W.codeIn K cd19 "_law_less" = true) (k19 : PySem.W.keepIn K (.ref f19) = true)
    {od20 an20 : Option Addr} {sl20 : Array (Option Value)} {oc20 kV20 dc20 pm20 cd20 ct20 : Value}
    (a20 : PySem.W.nsIn K mainGlobals "_law_rule" = some (some (.ref f20))) (l20 : K.lookup f20 = some ⟨oc20, od20, .func (PySem.W.fnOf "_law_rule" "_law_rule" (defArgs s__law_rule) (defBody s__law_rule) (defScope s__law_rule) .none kV20 dc20 pm20 an20 cd20 ct20), sl20⟩) (c20 : PySem.W.codeIn K cd20 "_law_rule" = true) (k20 : PySem.W.keepIn K (.ref f20) = true)
    {od21 an21 : Option Addr} {sl21 : Array (Option Value)} {oc21 kV21 dc21 pm21 cd21 ct21 : Value}
    (a21 : PySem.W.nsIn K mainGlobals "_law_values" = some (some (.ref f21))) (l21 : K.lookup f21 = some ⟨oc21, od21, .func (PySem.W.fnOf "_law_values" "_law_values" (defArgs s__law_values) (defBody s__law_values) (defScope s__law_values) .none kV21 dc21 pm21 an21 cd21 ct21), sl21⟩) (c21 : PySem.W.codeIn K cd21 "_law_values" = true) (k21 : PySem.W.keepIn K (.ref f21) = true)
    {od22 an22 : Option Addr} {sl22 : Array (Option Value)} {oc22 kV22 dc22 pm22 cd22 ct22 : Value}
    (a22 : PySem.W.nsIn K mainGlobals "_law_is" = some (some (.ref f22))) (l22 : K.lookup f22 = some ⟨oc22, od22, .func (PySem.W.fnOf "_law_is" "_law_is" (defArgs s__law_is) (defBody s__law_is) (defScope s__law_is) .none kV22 dc22 pm22 an22 cd22 ct22), sl22⟩) (c22 : PySem.W.codeIn K cd22 "_law_is" = true) (k22 : PySem.W.keepIn K (.ref f22) = true)
    {od23 an23 : Option Addr} {sl23 : Array (Option Value)} {oc23 kV23 dc23 pm23 cd23 ct23 : Value}
    (a23 : PySem.W.nsIn K mainGlobals "_law_told" = some (some (.ref f23))) (l23 : K.lookup f23 = some ⟨oc23, od23, .func (PySem.W.fnOf "_law_told" "_law_told" (defArgs s__law_told) (defBody s__law_told) (defScope s__law_told) .none kV23 dc23 pm23 an23 cd23 ct23), sl23⟩) (c23 : PySem.W.codeIn K cd23 "_law_told" = true) (k23 : PySem.W.keepIn K (.ref f23) = true)
    {od24 an24 : Option Addr} {sl24 : Array (Option Value)} {oc24 kV24 dc24 pm24 cd24 ct24 : Value}
    (a24 : PySem.W.nsIn K mainGlobals "_law_all" = some (some (.ref f24))) (l24 : K.lookup f24 = some ⟨oc24, od24, .func (PySem.W.fnOf "_law_all" "_law_all" (defArgs s__law_all) (defBody s__law_all) (defScope s__law_all) .none kV24 dc24 pm24 an24 cd24 ct24), sl24⟩) (c24 : PySem.W.codeIn K cd24 "_law_all" = true) (k24 : PySem.W.keepIn K (.ref f24) = true)
    {od25 an25 : Option Addr} {sl25 : Array (Option Value)} {oc25 kV25 dc25 pm25 cd25 ct25 : Value}
    (a25 : PySem.W.nsIn K mainGlobals "law" = some (some (.ref f25))) (l25 : K.lookup f25 = some ⟨oc25, od25, .func (PySem.W.fnOf "law" "law" (defArgs s_law) (defBody s_law) (defScope s_law) .none kV25 dc25 pm25 an25 cd25 ct25), sl25⟩) (c25 : PySem.W.codeIn K cd25 "law" = true) (k25 : PySem.W.keepIn K (.ref f25) = true)
    {e_NoNumber : Addr} (xa_NoNumber : PySem.W.nsIn K mainGlobals "NoNumber" = some (some (.ref e_NoNumber))) (xx_NoNumber : PySem.W.excIn K e_NoNumber bmV "ValueError.__new__" = true)
    {e_NoRule : Addr} (xa_NoRule : PySem.W.nsIn K mainGlobals "NoRule" = some (some (.ref e_NoRule))) (xx_NoRule : PySem.W.excIn K e_NoRule bmV "ValueError.__new__" = true)
    {e_NoPlace : Addr} (xa_NoPlace : PySem.W.nsIn K mainGlobals "NoPlace" = some (some (.ref e_NoPlace))) (xx_NoPlace : PySem.W.excIn K e_NoPlace bmV "ValueError.__new__" = true)
    {e_SumError : Addr} (xa_SumError : PySem.W.nsIn K mainGlobals "SumError" = some (some (.ref e_SumError))) (xx_SumError : PySem.W.excIn K e_SumError bmV "ValueError.__new__" = true)
    {e_TooFew : Addr} (xa_TooFew : PySem.W.nsIn K mainGlobals "TooFew" = some (some (.ref e_TooFew)))
    {e_NotKept : Addr} (xa_NotKept : PySem.W.nsIn K mainGlobals "NotKept" = some (some (.ref e_NotKept)))
    {e_TooGreat : Addr} (xa_TooGreat : PySem.W.nsIn K mainGlobals "TooGreat" = some (some (.ref e_TooGreat)))
    {e_NoTerm : Addr} (xa_NoTerm : PySem.W.nsIn K mainGlobals "NoTerm" = some (some (.ref e_NoTerm)))
    {e_NoEnds : Addr} (xa_NoEnds : PySem.W.nsIn K mainGlobals "NoEnds" = some (some (.ref e_NoEnds)))
    {e_NoLine : Addr} (xa_NoLine : PySem.W.nsIn K mainGlobals "NoLine" = some (some (.ref e_NoLine)))
    {e_NoName : Addr} (xa_NoName : PySem.W.nsIn K mainGlobals "NoName" = some (some (.ref e_NoName)))
    (xga_NoRule : PySem.W.findIn K (.ref e_NoRule) "__getattribute__" = some (some (.builtin "BaseException.__getattribute__")))
    (xgn_NoRule : PySem.W.findIn K (.ref e_NoRule) "__getattr__" = some none)
    (xcl_NoRule : PySem.W.findIn K (.ref e_NoRule) "__class__" = some (some (.builtin "object.__class__")))
    (xob_NoRule : PySem.W.mroIn K e_NoRule (.type "object") = some true)
    (xbe_NoRule : PySem.W.mroIn K e_NoRule (.type "BaseException") = some true)
    (xdg_NoRule : PySem.W.specialIn K (.builtin "object.__class__") "__get__" = some (some (.builtin "getset_descriptor.__get__")))
    (xdt_NoRule : PySem.W.takesIn K (.builtin "object.__class__") = some true)
    (xga_NoPlace : PySem.W.findIn K (.ref e_NoPlace) "__getattribute__" = some (some (.builtin "BaseException.__getattribute__")))
    (xgn_NoPlace : PySem.W.findIn K (.ref e_NoPlace) "__getattr__" = some none)
    (xcl_NoPlace : PySem.W.findIn K (.ref e_NoPlace) "__class__" = some (some (.builtin "object.__class__")))
    (xob_NoPlace : PySem.W.mroIn K e_NoPlace (.type "object") = some true)
    (xbe_NoPlace : PySem.W.mroIn K e_NoPlace (.type "BaseException") = some true)
    (xdg_NoPlace : PySem.W.specialIn K (.builtin "object.__class__") "__get__" = some (some (.builtin "getset_descriptor.__get__")))
    (xdt_NoPlace : PySem.W.takesIn K (.builtin "object.__class__") = some true)
    (xk_NoRule_TooGreat : PySem.W.kitOne K (.ref e_NoRule) (.ref e_TooGreat) = some false)
    (xk_NoRule_TooFew : PySem.W.kitOne K (.ref e_NoRule) (.ref e_TooFew) = some false)
    (xk_NoRule_NotKept : PySem.W.kitOne K (.ref e_NoRule) (.ref e_NotKept) = some false)
    (xk_NoRule_NoNumber : PySem.W.kitOne K (.ref e_NoRule) (.ref e_NoNumber) = some false)
    (xk_NoRule_NoTerm : PySem.W.kitOne K (.ref e_NoRule) (.ref e_NoTerm) = some false)
    (xk_NoRule_NoEnds : PySem.W.kitOne K (.ref e_NoRule) (.ref e_NoEnds) = some false)
    (xk_NoRule_NoLine : PySem.W.kitOne K (.ref e_NoRule) (.ref e_NoLine) = some false)
    (xk_NoRule_NoName : PySem.W.kitOne K (.ref e_NoRule) (.ref e_NoName) = some false)
    (xk_NoPlace_TooGreat : PySem.W.kitOne K (.ref e_NoPlace) (.ref e_TooGreat) = some false)
    (xk_NoPlace_TooFew : PySem.W.kitOne K (.ref e_NoPlace) (.ref e_TooFew) = some false)
    (xk_NoPlace_NotKept : PySem.W.kitOne K (.ref e_NoPlace) (.ref e_NotKept) = some false)
    (xk_NoPlace_NoNumber : PySem.W.kitOne K (.ref e_NoPlace) (.ref e_NoNumber) = some false)
    (xk_NoPlace_NoTerm : PySem.W.kitOne K (.ref e_NoPlace) (.ref e_NoTerm) = some false)
    (xk_NoPlace_NoEnds : PySem.W.kitOne K (.ref e_NoPlace) (.ref e_NoEnds) = some false)
    (xk_NoPlace_NoLine : PySem.W.kitOne K (.ref e_NoPlace) (.ref e_NoLine) = some false)
    (xk_NoPlace_NoName : PySem.W.kitOne K (.ref e_NoPlace) (.ref e_NoName) = some false)
    (xk_NoRule_NoRule : PySem.W.kitOne K (.ref e_NoRule) (.ref e_NoRule) = some true)
    (xk_NoRule_NoPlace : PySem.W.kitOne K (.ref e_NoRule) (.ref e_NoPlace) = some false)
    (xk_NoPlace_NoPlace : PySem.W.kitOne K (.ref e_NoPlace) (.ref e_NoPlace) = some true)
    (xk_NoPlace_NoRule : PySem.W.kitOne K (.ref e_NoPlace) (.ref e_NoRule) = some false)
    (xk_NoRule_ValueError : PySem.W.kitOne K (.ref e_NoRule) (.type "ValueError") = some true)
    (xk_NoPlace_ValueError : PySem.W.kitOne K (.ref e_NoPlace) (.type "ValueError") = some true)
    (xb_NoRule_SumError : PySem.W.mroIn K e_SumError (.type "BaseException") = some true) (xs_NoRule_SumError : PySem.W.mroIn K e_NoRule (.ref e_SumError) = some true)
    (xb_NoPlace_SumError : PySem.W.mroIn K e_SumError (.type "BaseException") = some true) (xs_NoPlace_SumError : PySem.W.mroIn K e_NoPlace (.ref e_SumError) = some true)
    (z0 : PySem.W.nsIn K mainGlobals "reversed" = some none)
    (z1 : PySem.W.nsIn K mainGlobals "abs" = some none)
    (z2 : PySem.W.nsIn K mainGlobals "len" = some none)
    (z3 : PySem.W.nsIn K mainGlobals "sum" = some none)
    (z4 : PySem.W.nsIn K mainGlobals "zip" = some none)
    (z5 : PySem.W.nsIn K mainGlobals "list" = some none)
    (z6 : PySem.W.nsIn K mainGlobals "range" = some none)
    (z7 : PySem.W.nsIn K mainGlobals "max" = some none)
    (z8 : PySem.W.nsIn K mainGlobals "enumerate" = some none)
    (z9 : PySem.W.nsIn K mainGlobals "isinstance" = some none)
    (z10 : PySem.W.nsIn K mainGlobals "ValueError" = some none)
    (z11 : PySem.W.nsIn K mainGlobals "bool" = some none)
    {t0 : Tok} (g0 : PySem.W.nsIn K mainGlobals "LONG" = some (some (.int 4000 t0)))
    : ∃ T : Tx K mg, T.a_law = fa ∧ ∀ (s : Shared) (v : Value), BindsTo s T.fd_law ⟨[v], []⟩ [("_law_script", v)] := by
  have e := hfa.symm.trans (PySem.W.mg_of X G a25)
  cases e
  have F0 := fun_mk (st := s_poly_value) l0 c0 k0
  have b0 := F0.binds (ps := ["poly", "n"]) fun _ _ _ _ _ _ us hl => by obtain ⟨x0, x1, rfl⟩ := ln_2 hl; rfl
  have F1 := fun_mk (st := s_divisor) l1 c1 k1
  have b1 := F1.binds (ps := ["one", "other"]) fun _ _ _ _ _ _ us hl => by obtain ⟨x0, x1, rfl⟩ := ln_2 hl; rfl
  have F2 := fun_mk (st := s_ratio) l2 c2 k2
  have b2 := F2.binds (ps := ["top", "bottom"]) fun _ _ _ _ _ _ us hl => by obtain ⟨x0, x1, rfl⟩ := ln_2 hl; rfl
  have F3 := fun_mk (st := s_order_of) l3 c3 k3
  have b3 := F3.binds (ps := ["rule"]) fun _ _ _ _ _ _ us hl => by obtain ⟨x0, rfl⟩ := ln_1 hl; rfl
  have F4 := fun_mk (st := s_weighted) l4 c4 k4
  have b4 := F4.binds (ps := ["weight", "fraction"]) fun _ _ _ _ _ _ us hl => by obtain ⟨x0, x1, rfl⟩ := ln_2 hl; rfl
  have F5 := fun_mk (st := s_total) l5 c5 k5
  have b5 := F5.binds (ps := ["fractions"]) fun _ _ _ _ _ _ us hl => by obtain ⟨x0, rfl⟩ := ln_1 hl; rfl
  have F6 := fun_mk (st := s_rule_sum) l6 c6 k6
  have b6 := F6.binds (ps := ["rule", "values", "n"]) fun _ _ _ _ _ _ us hl => by obtain ⟨x0, x1, x2, rfl⟩ := ln_3 hl; rfl
  have F7 := fun_mk (st := s_keeps) l7 c7 k7
  have b7 := F7.binds (ps := ["rule", "values", "n"]) fun _ _ _ _ _ _ us hl => by obtain ⟨x0, x1, x2, rfl⟩ := ln_3 hl; rfl
  have F8 := fun_mk (st := s__law_cell_at) l8 c8 k8
  have b8 := F8.binds (ps := ["_law_script", "_law_k"]) fun _ _ _ _ _ _ us hl => by obtain ⟨x0, x1, rfl⟩ := ln_2 hl; rfl
  have F9 := fun_mk (st := s__law_number) l9 c9 k9
  have b9 := F9.binds (ps := ["_law_cell", "_law_most"]) fun _ _ _ _ _ _ us hl => by obtain ⟨x0, x1, rfl⟩ := ln_2 hl; rfl
  have F10 := fun_mk (st := s__law_cut) l10 c10 k10
  have b10 := F10.binds (ps := ["_law_numbers"]) fun _ _ _ _ _ _ us hl => by obtain ⟨x0, rfl⟩ := ln_1 hl; rfl
  have F11 := fun_mk (st := s__law_product) l11 c11 k11
  have b11 := F11.binds (ps := ["_law_one", "_law_other"]) fun _ _ _ _ _ _ us hl => by obtain ⟨x0, x1, rfl⟩ := ln_2 hl; rfl
  have F12 := fun_mk (st := s__law_moved) l12 c12 k12
  have b12 := F12.binds (ps := ["_law_poly_here", "_law_by"]) fun _ _ _ _ _ _ us hl => by obtain ⟨x0, x1, rfl⟩ := ln_2 hl; rfl
  have F13 := fun_mk (st := s__law_value) l13 c13 k13
  have b13 := F13.binds (ps := ["_law_poly_here", "_law_n"]) fun _ _ _ _ _ _ us hl => by obtain ⟨x0, x1, rfl⟩ := ln_2 hl; rfl
  have F14 := fun_mk (st := s__law_divisor) l14 c14 k14
  have b14 := F14.binds (ps := ["_law_one", "_law_other"]) fun _ _ _ _ _ _ us hl => by obtain ⟨x0, x1, rfl⟩ := ln_2 hl; rfl
  have F15 := fun_mk (st := s__law_lowest) l15 c15 k15
  have b15 := F15.binds (ps := ["_law_top", "_law_bottom"]) fun _ _ _ _ _ _ us hl => by obtain ⟨x0, x1, rfl⟩ := ln_2 hl; rfl
  have F16 := fun_mk (st := s__law_fraction) l16 c16 k16
  have b16 := F16.binds (ps := ["_law_cell"]) fun _ _ _ _ _ _ us hl => by obtain ⟨x0, rfl⟩ := ln_1 hl; rfl
  have F17 := fun_mk (st := s__law_weighed) l17 c17 k17
  have b17 := F17.binds (ps := ["_law_rule_here", "_law_values_here", "_law_n"]) fun _ _ _ _ _ _ us hl => by obtain ⟨x0, x1, x2, rfl⟩ := ln_3 hl; rfl
  have F18 := fun_mk (st := s__law_poly) l18 c18 k18
  have b18 := F18.binds (ps := ["_law_cells", "_law_other"]) fun _ _ _ _ _ _ us hl => by obtain ⟨x0, x1, rfl⟩ := ln_2 hl; rfl
  have F19 := fun_mk (st := s__law_less) l19 c19 k19
  have b19 := F19.binds (ps := ["_law_one", "_law_other"]) fun _ _ _ _ _ _ us hl => by obtain ⟨x0, x1, rfl⟩ := ln_2 hl; rfl
  have F20 := fun_mk (st := s__law_rule) l20 c20 k20
  have b20 := F20.binds (ps := ["_law_script", "_law_poly_here"]) fun _ _ _ _ _ _ us hl => by obtain ⟨x0, x1, rfl⟩ := ln_2 hl; rfl
  have F21 := fun_mk (st := s__law_values) l21 c21 k21
  have b21 := F21.binds (ps := ["_law_script", "_law_rule_here", "_law_poly_here"]) fun _ _ _ _ _ _ us hl => by obtain ⟨x0, x1, x2, rfl⟩ := ln_3 hl; rfl
  have F22 := fun_mk (st := s__law_is) l22 c22 k22
  have b22 := F22.binds (ps := ["_law_caught", "_law_at"]) fun _ _ _ _ _ _ us hl => by obtain ⟨x0, x1, rfl⟩ := ln_2 hl; rfl
  have F23 := fun_mk (st := s__law_told) l23 c23 k23
  have b23 := F23.binds (ps := ["_law_rule_here", "_law_values_here", "_law_n"]) fun _ _ _ _ _ _ us hl => by obtain ⟨x0, x1, x2, rfl⟩ := ln_3 hl; rfl
  have F24 := fun_mk (st := s__law_all) l24 c24 k24
  have b24 := F24.binds (ps := ["_law_rule_here", "_law_values_here"]) fun _ _ _ _ _ _ us hl => by obtain ⟨x0, x1, rfl⟩ := ln_2 hl; rfl
  have F25 := fun_mk (st := s_law) l25 c25 k25
  have b25 := F25.binds (ps := ["_law_script"]) fun _ _ _ _ _ _ us hl => by obtain ⟨x0, rfl⟩ := ln_1 hl; rfl
  exact ⟨⟨_, _, F0, PySem.W.mg_of X G a0, b0, _, _, F1, PySem.W.mg_of X G a1, b1, _, _, F2, PySem.W.mg_of X G a2, b2, _, _, F3, PySem.W.mg_of X G a3, b3, _, _, F4, PySem.W.mg_of X G a4, b4, _, _, F5, PySem.W.mg_of X G a5, b5, _, _, F6, PySem.W.mg_of X G a6, b6, _, _, F7, PySem.W.mg_of X G a7, b7, _, _, F8, PySem.W.mg_of X G a8, b8, _, _, F9, PySem.W.mg_of X G a9, b9, _, _, F10, PySem.W.mg_of X G a10, b10, _, _, F11, PySem.W.mg_of X G a11, b11, _, _, F12, PySem.W.mg_of X G a12, b12, _, _, F13, PySem.W.mg_of X G a13, b13, _, _, F14, PySem.W.mg_of X G a14, b14, _, _, F15, PySem.W.mg_of X G a15, b15, _, _, F16, PySem.W.mg_of X G a16, b16, _, _, F17, PySem.W.mg_of X G a17, b17, _, _, F18, PySem.W.mg_of X G a18, b18, _, _, F19, PySem.W.mg_of X G a19, b19, _, _, F20, PySem.W.mg_of X G a20, b20, _, _, F21, PySem.W.mg_of X G a21, b21, _, _, F22, PySem.W.mg_of X G a22, b22, _, _, F23, PySem.W.mg_of X G a23, b23, _, _, F24, PySem.W.mg_of X G a24, b24, _, _, F25, PySem.W.mg_of X G a25, b25, _, PySem.W.mg_of X G xa_NoNumber, xx_NoNumber, _, PySem.W.mg_of X G xa_NoRule, xx_NoRule, _, PySem.W.mg_of X G xa_NoPlace, xx_NoPlace, _, PySem.W.mg_of X G xa_SumError, xx_SumError, _, PySem.W.mg_of X G xa_TooFew, _, PySem.W.mg_of X G xa_NotKept, _, PySem.W.mg_of X G xa_TooGreat, _, PySem.W.mg_of X G xa_NoTerm, _, PySem.W.mg_of X G xa_NoEnds, _, PySem.W.mg_of X G xa_NoLine, _, PySem.W.mg_of X G xa_NoName, ⟨xx_NoRule, xx_SumError, xb_NoRule_SumError, xs_NoRule_SumError⟩, ⟨xx_NoPlace, xx_SumError, xb_NoPlace_SumError, xs_NoPlace_SumError⟩, ⟨xx_NoRule, xga_NoRule, xgn_NoRule, xcl_NoRule, xob_NoRule, xbe_NoRule, xdg_NoRule, xdt_NoRule⟩, ⟨xx_NoPlace, xga_NoPlace, xgn_NoPlace, xcl_NoPlace, xob_NoPlace, xbe_NoPlace, xdg_NoPlace, xdt_NoPlace⟩, xk_NoRule_TooGreat, xk_NoRule_TooFew, xk_NoRule_NotKept, xk_NoRule_NoNumber, xk_NoRule_NoTerm, xk_NoRule_NoEnds, xk_NoRule_NoLine, xk_NoRule_NoName, xk_NoPlace_TooGreat, xk_NoPlace_TooFew, xk_NoPlace_NotKept, xk_NoPlace_NoNumber, xk_NoPlace_NoTerm, xk_NoPlace_NoEnds, xk_NoPlace_NoLine, xk_NoPlace_NoName, xk_NoRule_NoRule, xk_NoRule_NoPlace, xk_NoPlace_NoPlace, xk_NoPlace_NoRule, xk_NoRule_ValueError, xk_NoPlace_ValueError, PySem.W.mg_none_of X G z0, PySem.W.mg_none_of X G z1, PySem.W.mg_none_of X G z2, PySem.W.mg_none_of X G z3, PySem.W.mg_none_of X G z4, PySem.W.mg_none_of X G z5, PySem.W.mg_none_of X G z6, PySem.W.mg_none_of X G z7, PySem.W.mg_none_of X G z8, PySem.W.mg_none_of X G z9, PySem.W.mg_none_of X G z10, PySem.W.mg_none_of X G z11, ⟨_, PySem.W.mg_of X G g0⟩⟩, rfl, fun s v => .of_eq rfl⟩
theorem walk {l : PySem.W.OpenLaw} {q : Program} {loose : List Str} {XP : (Str → Option Value) → Heap → Prop} {YP : World → Heap → Prop} {d : DefRec} {K : Params → PySem.W.Frag} (hn : l.most = some 63) (hdf : d.params.defaults = [])
    (hY : ∀ (w : World) (h : Heap), YP w h → (K w.params).In h)
    (F : ∀ (w : World) (mg : Str → Option Value) (fa : Addr) (h : Heap), (K w.params).In h → h.Ns mainGlobals mg → mg d.name = some (.ref fa) →
      ∃ T : Tx (K w.params) mg, T.a_law = fa ∧ ∀ (s : Shared) (v : Value), BindsTo s T.fd_law ⟨[v], []⟩ [("_law_script", v)]) :
    PySem.W.WalkO q loose XP YP l.row.toRowW d [] (fun f vs => PySem.call f vs) :=
  L2.walk_of (n := 63) (k := 20) (x := "_law_script") (CX := fun _ => CX0) (sp := fun w => spLaw (K w.params)) hn (by decide) hdf ⟨rfl, by decide, by decide⟩ hY
    (fun w mg fa h KX G hmg => by
      obtain ⟨T, e, hb⟩ := F w mg fa h KX G hmg
      subst e
      exact ⟨T.fd_law, hb, fun base _ _ => FnOk.mono (ok_law T) (by decide)⟩)
    (fun _ H a ns hl _ hS => ⟨a, ns, rfl, hS, hl, fun _ => rfl⟩) fun _ _ _ _ _ z => z
end My
open PySem PySem.W PyProof.Rows
set_option maxRecDepth 100000 in
set_option maxHeartbeats 0 in
theorem PySem.Challenge.cw_sumcraft_k12_values_that_keep_a_rule_holds : PySem.Challenge.rw_sumcraft_k12_values_that_keep_a_rule.Holds := by
  w_on; o_law; k_head; (case hw => w_witness2)
  k_fill
  refine My.walk (l := PySem.Challenge.rw_sumcraft_k12_values_that_keep_a_rule) rfl rfl (fun w h Y => PySem.W.kIn_of Y) ?F
  case F =>
    intro w mg fa h KX G hmg
    refine' My.all_mk KX G hmg ?a0 ?l0 ?c0 ?k0 ?a1 ?l1 ?c1 ?k1 ?a2 ?l2 ?c2 ?k2 ?a3 ?l3 ?c3 ?k3 ?a4 ?l4 ?c4 ?k4 ?a5 ?l5 ?c5 ?k5 ?a6 ?l6 ?c6 ?k6 ?a7 ?l7 ?c7 ?k7 ?a8 ?l8 ?c8 ?k8 ?a9 ?l9 ?c9 ?k9 ?a10 ?l10 ?c10 ?k10 ?a11 ?l11 ?c11 ?k11 ?a12 ?l12 ?c12 ?k12 ?a13 ?l13 ?c13 ?k13 ?a14 ?l14 ?c14 ?k14 ?a15 ?l15 ?c15 ?k15 ?a16 ?l16 ?c16 ?k16 ?a17 ?l17 ?c17 ?k17 ?a18 ?l18 ?c18 ?k18 ?a19 ?l19 ?c19 ?k19 ?a20 ?l20 ?c20 ?k20 ?a21 ?l21 ?c21 ?k21 ?a22 ?l22 ?c22 ?k22 ?a23 ?l23 ?c23 ?k23 ?a24 ?l24 ?c24 ?k24 ?a25 ?l25 ?c25 ?k25 ?xa_NoNumber ?xx_NoNumber ?xa_NoRule ?xx_NoRule ?xa_NoPlace ?xx_NoPlace ?xa_SumError ?xx_SumError ?xa_TooFew ?xa_NotKept ?xa_TooGreat ?xa_NoTerm ?xa_NoEnds ?xa_NoLine ?xa_NoName ?xga_NoRule ?xgn_NoRule ?xcl_NoRule ?xob_NoRule ?xbe_NoRule ?xdg_NoRule ?xdt_NoRule ?xga_NoPlace ?xgn_NoPlace ?xcl_NoPlace ?xob_NoPlace ?xbe_NoPlace ?xdg_NoPlace ?xdt_NoPlace ?xk_NoRule_TooGreat ?xk_NoRule_TooFew ?xk_NoRule_NotKept ?xk_NoRule_NoNumber ?xk_NoRule_NoTerm ?xk_NoRule_NoEnds ?xk_NoRule_NoLine ?xk_NoRule_NoName ?xk_NoPlace_TooGreat ?xk_NoPlace_TooFew ?xk_NoPlace_NotKept ?xk_NoPlace_NoNumber ?xk_NoPlace_NoTerm ?xk_NoPlace_NoEnds ?xk_NoPlace_NoLine ?xk_NoPlace_NoName ?xk_NoRule_NoRule ?xk_NoRule_NoPlace ?xk_NoPlace_NoPlace ?xk_NoPlace_NoRule ?xk_NoRule_ValueError ?xk_NoPlace_ValueError ?xb_NoRule_SumError ?xs_NoRule_SumError ?xb_NoPlace_SumError ?xs_NoPlace_SumError ?z0 ?z1 ?z2 ?z3 ?z4 ?z5 ?z6 ?z7 ?z8 ?z9 ?z10 ?z11 ?gg0
    (case a0 => k_is)
    (case l0 => k_is)
    (case c0 => k_is)
    (case k0 => k_is)
    (case a1 => k_is)
    (case l1 => k_is)
    (case c1 => k_is)
    (case k1 => k_is)
    (case a2 => k_is)
    (case l2 => k_is)
    (case c2 => k_is)
    (case k2 => k_is)
    (case a3 => k_is)
    (case l3 => k_is)
    (case c3 => k_is)
    (case k3 => k_is)
    (case a4 => k_is)
    (case l4 => k_is)
    (case c4 => k_is)
    (case k4 => k_is)
    (case a5 => k_is)
    (case l5 => k_is)
    (case c5 => k_is)
    (case k5 => k_is)
    (case a6 => k_is)
    (case l6 => k_is)
    (case c6 => k_is)
    (case k6 => k_is)
    (case a7 => k_is)
    (case l7 => k_is)
    (case c7 => k_is)
    (case k7 => k_is)
    (case a8 => k_is)
    (case l8 => k_is)
    (case c8 => k_is)
    (case k8 => k_is)
    (case a9 => k_is)
    (case l9 => k_is)
    (case c9 => k_is)
    (case k9 => k_is)
    (case a10 => k_is)
    (case l10 => k_is)
    (case c10 => k_is)
    (case k10 => k_is)
    (case a11 => k_is)
    (case l11 => k_is)
    (case c11 => k_is)
    (case k11 => k_is)
    (case a12 => k_is)
    (case l12 => k_is)
    (case c12 => k_is)
    (case k12 => k_is)
    (case a13 => k_is)
    (case l13 => k_is)
    (case c13 => k_is)
    (case k13 => k_is)
    (case a14 => k_is)
    (case l14 => k_is)
    (case c14 => k_is)
    (case k14 => k_is)
    (case a15 => k_is)
    (case l15 => k_is)
    (case c15 => k_is)
    (case k15 => k_is)
    (case a16 => k_is)
    (case l16 => k_is)
    (case c16 => k_is)
    (case k16 => k_is)
    (case a17 => k_is)
    (case l17 => k_is)
    (case c17 => k_is)
    (case k17 => k_is)
    (case a18 => k_is)
    (case l18 => k_is)
    (case c18 => k_is)
    (case k18 => k_is)
    (case a19 => k_is)
    (case l19 => k_is)
    (case c19 => k_is)
    (case k19 => k_is)
    (case a20 => k_is)
    (case l20 => k_is)
    (case c20 => k_is)
    (case k20 => k_is)
    (case a21 => k_is)
    (case l21 => k_is)
    (case c21 => k_is)
    (case k21 => k_is)
    (case a22 => k_is)
    (case l22 => k_is)
    (case c22 => k_is)
    (case k22 => k_is)
    (case a23 => k_is)
    (case l23 => k_is)
    (case c23 => k_is)
    (case k23 => k_is)
    (case a24 => k_is)
    (case l24 => k_is)
    (case c24 => k_is)
    (case k24 => k_is)
    (case a25 => k_is)
    (case l25 => k_is)
    (case c25 => k_is)
    (case k25 => k_is)
    (case xa_NoNumber => k_is)
    (case xx_NoNumber => k_exc)
    (case xa_NoRule => k_is)
    (case xx_NoRule => k_exc)
    (case xa_NoPlace => k_is)
    (case xx_NoPlace => k_exc)
    (case xa_SumError => k_is)
    (case xx_SumError => k_exc)
    (case xa_TooFew => k_is)
    (case xa_NotKept => k_is)
    (case xa_TooGreat => k_is)
    (case xa_NoTerm => k_is)
    (case xa_NoEnds => k_is)
    (case xa_NoLine => k_is)
    (case xa_NoName => k_is)
    (case xga_NoRule => k_is)
    (case xgn_NoRule => k_is)
    (case xcl_NoRule => k_is)
    (case xob_NoRule => k_is)
    (case xbe_NoRule => k_is)
    (case xdg_NoRule => k_is)
    (case xdt_NoRule => k_is)
    (case xga_NoPlace => k_is)
    (case xgn_NoPlace => k_is)
    (case xcl_NoPlace => k_is)
    (case xob_NoPlace => k_is)
    (case xbe_NoPlace => k_is)
    (case xdg_NoPlace => k_is)
    (case xdt_NoPlace => k_is)
    (case xk_NoRule_TooGreat => kit_is)
    (case xk_NoRule_TooFew => kit_is)
    (case xk_NoRule_NotKept => kit_is)
    (case xk_NoRule_NoNumber => kit_is)
    (case xk_NoRule_NoTerm => kit_is)
    (case xk_NoRule_NoEnds => kit_is)
    (case xk_NoRule_NoLine => kit_is)
    (case xk_NoRule_NoName => kit_is)
    (case xk_NoPlace_TooGreat => kit_is)
    (case xk_NoPlace_TooFew => kit_is)
    (case xk_NoPlace_NotKept => kit_is)
    (case xk_NoPlace_NoNumber => kit_is)
    (case xk_NoPlace_NoTerm => kit_is)
    (case xk_NoPlace_NoEnds => kit_is)
    (case xk_NoPlace_NoLine => kit_is)
    (case xk_NoPlace_NoName => kit_is)
    (case xk_NoRule_NoRule => kit_is)
    (case xk_NoRule_NoPlace => kit_is)
    (case xk_NoPlace_NoPlace => kit_is)
    (case xk_NoPlace_NoRule => kit_is)
    (case xk_NoRule_ValueError => kit_is)
    (case xk_NoPlace_ValueError => kit_is)
    (case xb_NoRule_SumError => k_is)
    (case xs_NoRule_SumError => k_is)
    (case xb_NoPlace_SumError => k_is)
    (case xs_NoPlace_SumError => k_is)
    (case z0 => k_is)
    (case z1 => k_is)
    (case z2 => k_is)
    (case z3 => k_is)
    (case z4 => k_is)
    (case z5 => k_is)
    (case z6 => k_is)
    (case z7 => k_is)
    (case z8 => k_is)
    (case z9 => k_is)
    (case z10 => k_is)
    (case z11 => k_is)
    (case gg0 => k_is)
