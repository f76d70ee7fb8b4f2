import PyProof.Rows.All
import Wide.All
import OpenK.AllK
import Wide.FinOn
import Lean
import PyProof.EqAt
import PyProof.EqKinds
import PyProof.TupleCall
import PyProof.NeData
import KE.KTryMore
import PyProof.ExcBaseAll.ValueError
import PyProof.ExcArgsOwn
import PySem.Challenge.RW_countgen_k27_trees_in_order
set_option Elab.async false
set_option linter.all false
set_option maxRecDepth 100000
/-! THE HAND LAYER, for ints, bools, texts, own classes, LISTS and tuples (index, slices, in, append, pop ..), calls, loops. Paste it whole ahead of your own text; what your proof does not reach may be deleted. -/
namespace L2
open PySem PySem.Spec PyProof.Rows

/-- a key: an int or a str -/
abbrev Key := Sum Int Str
def keyIs : Key → Value → Bool
  | .inl k, v => Value.isInt k v
  | .inr x, v => Value.isStrOf x v
def keyH (w : World) : Key → Int
  | .inl k => hashInt k
  | .inr x => hashStr w x
theorem keyIs_shape : ∀ {k : Key} {v : Value}, keyIs k v = true → (∃ i t, k = Sum.inl i ∧ v = Value.int i t) ∨ (∃ x t, k = Sum.inr x ∧ v = Value.str x t)
  | .inl i, v, h => by
    obtain ⟨t, e⟩ := Value.isInt_shape (k := i) (v := v) h
    exact .inl ⟨i, t, rfl, e⟩
  | .inr x, v, h => by
    obtain ⟨t, e⟩ := Value.isStrOf_shape (x := x) (v := v) h
    exact .inr ⟨x, t, rfl, e⟩
theorem key_ll (a b : Int) : decide ((Sum.inl a : Key) = Sum.inl b) = (a == b) := by
  by_cases e : a = b
  · subst e; simp
  · have h : ¬ (Sum.inl a : Key) = Sum.inl b := fun q => e (Sum.inl.inj q)
    rw [decide_eq_false h]
    exact (beq_eq_false_iff_ne.mpr e).symm
theorem key_rr (a b : Str) : decide ((Sum.inr a : Key) = Sum.inr b) = decide (a = b) := by
  by_cases e : a = b
  · subst e; simp
  · have h : ¬ (Sum.inr a : Key) = Sum.inr b := fun q => e (Sum.inr.inj q)
    rw [decide_eq_false h, decide_eq_false e]
theorem key_lr (a : Int) (b : Str) : decide ((Sum.inl a : Key) = Sum.inr b) = false := decide_eq_false (fun q => nomatch q)
theorem key_rl (a : Str) (b : Int) : decide ((Sum.inr a : Key) = Sum.inl b) = false := decide_eq_false (fun q => nomatch q)

def mixKind (prog : Program) (w : World) : PySem.KeyKind prog w Key where
  is := keyIs
  hash := keyH w
  inj := fun v a b ha hb => by
    rcases keyIs_shape ha with ⟨i, t, rfl, rfl⟩ | ⟨x, t, rfl, rfl⟩
    · rcases keyIs_shape hb with ⟨j, u, rfl, e⟩ | ⟨y, u, rfl, e⟩
      · injection e with e1 _; rw [e1]
      · exact nomatch e
    · rcases keyIs_shape hb with ⟨j, u, rfl, e⟩ | ⟨y, u, rfl, e⟩
      · exact nomatch e
      · injection e with e1 _; rw [e1]
  byValue := fun k v h => by
    rcases keyIs_shape h with ⟨i, t, rfl, rfl⟩ | ⟨x, t, rfl, rfl⟩ <;> rfl
  pyHash := fun hv h => by
    rcases keyIs_shape hv with ⟨i, t, rfl, rfl⟩ | ⟨x, t, rfl, rfl⟩
    · exact wpAny_pyHash_int h
    · exact wpAny_pyHash_str h
  eqBool := fun hu hv h => by
    rcases keyIs_shape hu with ⟨i, t, rfl, rfl⟩ | ⟨x, t, rfl, rfl⟩
    · rcases keyIs_shape hv with ⟨j, u, rfl, rfl⟩ | ⟨y, u, rfl, rfl⟩
      · rw [key_ll] at h; exact wpAny_eqBool_int h
      · rw [key_lr] at h; exact SeqAt.EqAt.int_str i t y u _ _ _ _ h
    · rcases keyIs_shape hv with ⟨j, u, rfl, rfl⟩ | ⟨y, u, rfl, rfl⟩
      · rw [key_rl] at h; exact SeqAt.EqAt.str_int x t j u _ _ _ _ h
      · rw [key_rr] at h; exact wpAny_eqBool_str h
  «strs» := fun k x t v h => by
    rcases keyIs_shape h with ⟨i, u, rfl, e⟩ | ⟨y, u, rfl, e⟩
    · exact nomatch e
    · injection e with e1 _
      subst e1
      cases v <;> rfl

end L2

namespace L2
open PySem PySem.Spec PyProof.Rows

/-- a value, without the heap -/
inductive V where
  | non | bl (b : Bool) | int (i : Int) | str (x : Str) | byt (b : Array UInt8) | flt (b : UInt64) | ref (a : Addr) | ty (n : String)
  deriving DecidableEq

def RelV : V → Value → Prop
  | .non, u => u = Value.none
  | .bl b, u => u = Value.bool b
  | .int i, u => ∃ t, u = Value.int i t
  | .str x, u => ∃ t, u = Value.str x t
  | .byt b, u => ∃ t, u = Value.bytes b t
  | .flt b, u => ∃ t, u = Value.float b t
  | .ref a, u => u = Value.ref a
  | .ty n, u => u = Value.type n

abbrev Vals : List V → List Value → Prop := Paired RelV
theorem Vals.length {xs : List V} {us : List Value} (r : Vals xs us) : xs.length = us.length := Paired.length r
theorem Vals.get : ∀ {xs : List V} {us : List Value} {i : Nat} {x : V}, Vals xs us → xs[i]? = some x → ∃ u, us[i]? = some u ∧ RelV x u
  | _, _, _, _, .nil, e => by simp at e
  | _, _, 0, _, .cons r _, e => by simp at e; subst e; exact ⟨_, rfl, r⟩
  | _, _, i + 1, x, .cons _ t, e => by
    obtain ⟨u, h1, h2⟩ := Vals.get (i := i) (x := x) t (by simpa using e)
    exact ⟨u, by simpa using h1, h2⟩
theorem Vals.set {x : V} {u : Value} (r : RelV x u) : ∀ {xs : List V} {us : List Value} (i : Nat), Vals xs us → Vals (xs.set i x) (us.set i u)
  | _, _, _, .nil => .nil
  | _, _, 0, .cons _ t => .cons r t
  | _, _, i + 1, .cons q t => .cons q (Vals.set r i t)
theorem Vals.append : ∀ {xs ys : List V} {us ws : List Value}, Vals xs us → Vals ys ws → Vals (xs ++ ys) (us ++ ws)
  | _, _, _, _, .nil, s => s
  | _, _, _, _, .cons r t, s => .cons r (Vals.append t s)
theorem Vals.take : ∀ {xs : List V} {us : List Value} (n : Nat), Vals xs us → Vals (xs.take n) (us.take n)
  | _, _, 0, _ => .nil
  | _, _, _ + 1, .nil => .nil
  | _, _, n + 1, .cons r t => .cons r (Vals.take n t)
theorem Vals.drop : ∀ {xs : List V} {us : List Value} (n : Nat), Vals xs us → Vals (xs.drop n) (us.drop n)
  | _, _, 0, r => r
  | _, _, _ + 1, .nil => .nil
  | _, _, n + 1, .cons _ t => Vals.drop n t
def RelO : Option V → Option Value → Prop
  | some v, some u => RelV v u
  | none, none => True
  | _, _ => False
def KV {κ : Type} : List (κ × V) → List (κ × Value) → Prop := Paired fun (p : κ × V) (q : κ × Value) => p.1 = q.1 ∧ RelV p.2 q.2

/-- a key of a dict (00_mix): an int or a text -/
def kV : Key → V
  | .inl i => .int i
  | .inr x => .str x

/-- what stands at a tracked address -/
inductive HO where
  /-- a list -/
  | lst (xs : List V)
  /-- a tuple (never changes) -/
  | tup (xs : List V)
  /-- a dict whose keys are ints and texts; one whose keys are tuples of ints and texts (the empty one is both) -/
  | dK (kvs : List (Key × V)) | dT (kvs : List (List Key × V))
  /-- a set of ints: its members, its size -/
  | set (S : Int → Bool) (n : Nat)
  /-- an instance of the class at C, its dict at dx, its attributes -/
  | ins (C dx : Addr) (fs : List (Str × V))
  /-- the dict of the instance at x -/
  | own (x : Addr)
  /-- the dict of an exception -/
  | xd (fs : List (Str × V))
  /-- a bound method, f of x -/
  | met (f x : Addr)
  /-- a range object lo, lo + 1, .. below hi -/
  | rng (lo hi : Int)
  /-- a thing that is known to the object (the script; a dict while a loop walks it): read, never written while it is so -/
  | frz (o : Obj) (u : HO)
  /-- a code object's table -/
  | tbl (ps : Array Value)
  /-- any other thing, by what is true of its one object (a def of one's own: SetO a S n := HO.ext fun h => ..) -/
  | ext (φ : Heap → Prop)

abbrev Hp := Addr → Option HO
def upd (H : Hp) (a : Addr) (o : HO) : Hp := fun b => if b = a then some o else H b
theorem upd_same {H : Hp} {a : Addr} {o : HO} : upd H a o a = some o := by unfold upd; rw [if_pos rfl]
theorem upd_ne {H : Hp} {a b : Addr} {o : HO} (h : b ≠ a) : upd H a o b = H b := by unfold upd; rw [if_neg h]
/-- two objects of different content stand apart -/
theorem ne_of {H : Hp} {a b : Addr} {o u : HO} (h : H a = some o) (h' : H b = some u) (d : o ≠ u) : a ≠ b := by
  intro e; subst e; rw [h] at h'; exact d (Option.some.inj h')
theorem ne_of_none {H : Hp} {a b : Addr} {o : HO} (h : H a = some o) (h' : H b = none) : a ≠ b := by
  intro e; subst e; rw [h] at h'; cases h'

section
variable (P : Program) (w : World)
def ObjOk (H : Hp) (h : Heap) (a : Addr) : HO → Prop
  | .lst xs => xs.length ≤ sizeLine ∧ ∃ (its : List Value) (n : Nat), Vals xs its ∧ h.get? a = some { cls := .type "list", data := .seq its.toArray n }
  | .tup xs => xs.length ≤ sizeLine ∧ ∃ its : List Value, Vals xs its ∧ IsTup h a its.toArray
  | .dK kvs => kvs.length ≤ sizeLine ∧ (a == sysModules) = false ∧ ∃ vs, KV kvs vs ∧ h.DictOf (mixKind P w) a vs
  | .dT kvs => kvs.length ≤ sizeLine ∧ (a == sysModules) = false ∧ ∃ xs : List (List Key × Addr × Value),
      Paired (fun (p : List Key × V) (q : List Key × Addr × Value) => p.1 = q.1 ∧ H q.2.1 = some (.tup (p.1.map kV)) ∧ RelV p.2 q.2.2) kvs xs ∧
      ∃ o es ep, h.get? a = some o ∧ o.ExactDict ∧ o.data = .dict es ep ∧ es.toList = xs.map (entryOfKey (tupleKind (mixKind P w))) ∧ (xs.map (·.1)).Nodup
  | .set S n => h.SetOf (intKind P w) a S n
  | .ins C dx fs => H dx = some (.own a) ∧ fs.length ≤ 1000 ∧ dx ≠ a ∧ h.get? a = some (PySem.W.instObj C dx) ∧
      ∃ mA, h.Ns1 dx mA ∧ (∀ f, RelO (fs.lookup f) (mA f)) ∧ PySem.Within mA (fs.map (·.1))
  | .own _ => ∃ o, h.get? a = some o
  | .xd fs => ∃ mA, h.Ns1 a mA ∧ ∀ f, RelO (fs.lookup f) (mA f)
  | .rng lo hi => ∃ t u v, h.get? a = some { cls := .type "range", data := .fields #[.int lo t, .int hi u, .int 1 v] }
  | .frz o u => h.get? a = some o ∧ ObjOk H h a u
  | .tbl ps => h.get? a = some { cls := .none, data := .fields ps }
  | .met f x => h.get? a = some (PySem.W.methodObj (.ref f) (.ref x))
  | .ext φ => φ h ∧ (∃ o, h.get? a = some o) ∧ ∀ h1 h2 : Heap, φ h1 → (∀ o, h1.get? a = some o → h2.get? a = some o) → φ h2
/-- the abstract heap is held -/
def HOk (H : Hp) (h : Heap) : Prop := ∀ a o, H a = some o → ObjOk P w H h a o
end

section
variable {P : Program} {w : World} {H H' : Hp} {h h' : Heap} {a : Addr} {o : HO}
theorem ObjOk.lt (x : ObjOk P w H h a o) : a < h.objs.size := by
  cases o with
  | lst xs => obtain ⟨_, _, _, _, e⟩ := x; exact Heap.lt_size e
  | tup xs => obtain ⟨_, _, _, p⟩ := x; exact p.lt
  | dK kvs => obtain ⟨_, _, _, _, o, _, _, e, _⟩ := x; exact Heap.lt_size e
  | dT kvs => obtain ⟨_, _, _, _, o, _, _, e, _⟩ := x; exact Heap.lt_size e
  | set S n => obtain ⟨o, _, _, _, e, _⟩ := x; exact Heap.lt_size e
  | ins C dx fs => obtain ⟨_, _, _, e, _⟩ := x; exact Heap.lt_size e
  | own y => obtain ⟨_, e⟩ := x; exact Heap.lt_size e
  | xd fs => obtain ⟨_, ⟨_, _, _, e, _⟩, _⟩ := x; exact Heap.lt_size e
  | rng lo hi => obtain ⟨_, _, _, e⟩ := x; exact Heap.lt_size e
  | frz ob u => obtain ⟨e, _⟩ := x; exact Heap.lt_size e
  | tbl ps => exact Heap.lt_size (show h.get? a = some _ from x)
  | met f y => exact Heap.lt_size (show h.get? a = some _ from x)
  | ext φ => obtain ⟨_, ⟨_, e⟩, _⟩ := x; exact Heap.lt_size e
theorem Paired.mapP {α β : Type} {F G : α → β → Prop} : ∀ {l₁ : List α} {l₂ : List β}, Paired F l₁ l₂ → (∀ a b, F a b → G a b) → Paired G l₁ l₂
  | _, _, .nil, _ => .nil
  | _, _, .cons r t, f => .cons (f _ _ r) (Paired.mapP t f)
/-- what an object's description leans on: its own object, its own dict, the tuples -/
theorem ObjOk.stay (x : ObjOk P w H h a o) (k : ∀ b u, (b = a ∨ H b = some (.own a)) → h.get? b = some u → h'.get? b = some u)
    (ho : ∀ b, H b = some (.own a) → H' b = some (.own a)) (ht : ∀ b xs, H b = some (.tup xs) → H' b = some (.tup xs)) : ObjOk P w H' h' a o := by
  induction o with
  | lst xs => obtain ⟨z, its, n, r, e⟩ := x; exact ⟨z, its, n, r, k _ _ (.inl rfl) e⟩
  | tup xs => obtain ⟨z, its, r, ob, e, c⟩ := x; exact ⟨z, its, r, ob, k _ _ (.inl rfl) e, c⟩
  | dK kvs => obtain ⟨z, y, vs, r, ob, es, ep, e, c⟩ := x; exact ⟨z, y, vs, r, ob, es, ep, k _ _ (.inl rfl) e, c⟩
  | dT kvs =>
    obtain ⟨z, y, xs, r, ob, es, ep, e, c⟩ := x
    exact ⟨z, y, xs, Paired.mapP r fun p q z => ⟨z.1, ht _ _ z.2.1, z.2.2⟩, ob, es, ep, k _ _ (.inl rfl) e, c⟩
  | set S n => obtain ⟨ob, es, ep, t, e, c⟩ := x; exact ⟨ob, es, ep, t, k _ _ (.inl rfl) e, c⟩
  | ins C dx fs =>
    obtain ⟨d, z, ne, e, mA, ⟨od, es, ep, e2, c⟩, r⟩ := x
    exact ⟨ho _ d, z, ne, k _ _ (.inl rfl) e, mA, ⟨od, es, ep, k _ _ (.inr d) e2, c⟩, r⟩
  | own y => obtain ⟨ob, e⟩ := x; exact ⟨ob, k _ _ (.inl rfl) e⟩
  | xd fs => obtain ⟨mA, ⟨od, es, ep, e, c⟩, r⟩ := x; exact ⟨mA, ⟨od, es, ep, k _ _ (.inl rfl) e, c⟩, r⟩
  | rng lo hi => obtain ⟨t, u, v, e⟩ := x; exact ⟨t, u, v, k _ _ (.inl rfl) e⟩
  | frz ob u ih => obtain ⟨e, q⟩ := x; exact ⟨k _ _ (.inl rfl) e, ih q⟩
  | tbl ps =>
    have e : h.get? a = some { cls := .none, data := .fields ps } := x
    show h'.get? a = some { cls := .none, data := .fields ps }
    exact k a _ (.inl rfl) e
  | met f y =>
    have e : h.get? a = some (PySem.W.methodObj (.ref f) (.ref y)) := x
    show h'.get? a = some (PySem.W.methodObj (.ref f) (.ref y))
    exact k a _ (.inl rfl) e
  | ext φ => obtain ⟨p, ⟨o, e⟩, st⟩ := x; exact ⟨st _ _ p fun o q => k _ _ (.inl rfl) q, ⟨o, k _ _ (.inl rfl) e⟩, st⟩
theorem HOk.lt (x : HOk P w H h) (e : H a = some o) : a < h.objs.size := (x a o e).lt
theorem HOk.fresh (x : HOk P w H h) (e : h.objs.size ≤ a) : H a = none := by
  cases q : H a with
  | none => rfl
  | some u => exact absurd (Nat.lt_of_lt_of_le (x.lt q) e) (Nat.lt_irrefl _)
/-- every object of the heap is kept -/
theorem HOk.kept (x : HOk P w H h) (k : ∀ b u, h.get? b = some u → h'.get? b = some u) : HOk P w H h' := fun a o e =>
  (x a o e).stay (fun b u _ q => k b u q) (fun _ q => q) fun _ _ q => q
/-- a new object is laid and tracked -/
theorem HOk.laid (x : HOk P w H h) (k : ∀ b u, h.get? b = some u → h'.get? b = some u) (hp : h.objs.size ≤ a) (new : ObjOk P w (upd H a o) h' a o) : HOk P w (upd H a o) h' := fun b u e => by
  have hn := x.fresh hp
  by_cases hb : b = a
  · subst hb; rw [upd_same] at e; cases e; exact new
  · rw [upd_ne hb] at e
    exact (x b u e).stay (fun c v _ q => k c v q) (fun c q => by rw [upd_ne (ne_of_none q hn)]; exact q) fun c xs q => by rw [upd_ne (ne_of_none q hn)]; exact q
end

/-- what may be read as u: it is u, or a known u -/
def Rd (H : Hp) (a : Addr) (u : HO) : Prop := H a = some u ∨ ∃ o, H a = some (.frz o u)
theorem Rd.of {H : Hp} {a : Addr} {u : HO} (h : H a = some u) : Rd H a u := .inl h
theorem Rd.ok {P : Program} {w : World} {H : Hp} {h : Heap} {a : Addr} {u : HO} (r : Rd H a u) (x : HOk P w H h) : ObjOk P w H h a u := by
  rcases r with r | ⟨o, r⟩
  · exact x a u r
  · obtain ⟨_, q⟩ := x a _ r
    exact q
/-- what may be written -/
def Mut : Option HO → Prop
  | some (.lst _) => True
  | some (.dK _) => True
  | some (.dT _) => True
  | some (.set _ _) => True
  | some (.ins _ _ _) => True
  | some (.ext _) => True
  | _ => False
section
variable {P : Program} {w : World} {H : Hp} {h h' : Heap} {x e : Addr} {o' : HO}
/-- the object at e is changed: x itself, or the dict of the instance x -/
theorem HOk.write (ok : HOk P w H h) (mu : Mut (H x)) (he : e = x ∨ H e = some (.own x)) (k : ∀ b u, b ≠ e → h.get? b = some u → h'.get? b = some u) (heo : ∃ u, h'.get? e = some u)
    (new : ObjOk P w (upd H x o') h' x o') : HOk P w (upd H x o') h' := fun b u q => by
  have nown : ∀ c y, H c = some (.own y) → c ≠ x := fun c y r z => by subst z; rw [r] at mu; exact mu
  have ntup : ∀ c xs, H c = some (.tup xs) → c ≠ x := fun c xs r z => by subst z; rw [r] at mu; exact mu
  by_cases hb : b = x
  · subst hb; rw [upd_same] at q; cases q; exact new
  · rw [upd_ne hb] at q
    by_cases hbe : b = e
    · have q' : H b = some (.own x) := by
        rcases he with z | z
        · exact absurd (hbe.trans z) hb
        · rw [hbe]; exact z
      rw [q] at q'; cases q'
      obtain ⟨v, hv⟩ := heo
      exact ⟨v, by rw [hbe]; exact hv⟩
    · refine (ok b u q).stay (fun c v hc r => k c v ?_ r) (fun c r => by rw [upd_ne (nown c b r)]; exact r) fun c xs r => by rw [upd_ne (ntup c xs r)]; exact r
      rcases hc with rfl | hc
      · exact hbe
      · rintro rfl
        rcases he with z | z
        · exact nown c b hc z
        · rw [hc] at z; cases z; exact hb rfl
end

/-! ### kept unless tracked; of the frames at fs (the callers') the slots may change (an exception that passes writes there); of the records at ex (iterators) nothing is said -/
structure Un (fs ex : List Addr) (H H' : Hp) (h h' : Heap) : Prop where
  keep : ∀ b o, h.get? b = some o → H b = none → b ∉ fs → b ∉ ex → h'.get? b = some o
  slot : ∀ b o, h.get? b = some o → H b = none → b ∈ fs → b ∉ ex → ∃ sl, h'.get? b = some { o with slots := sl }
  free : ∀ b o, h.get? b = some o → H b = none → b ∉ ex → H' b = none
  there : ∀ b o, h.get? b = some o → b ∉ ex → ∃ o', h'.get? b = some o'
  tups : ∀ b xs, H b = some (.tup xs) → H' b = some (.tup xs)
  frzs : ∀ b o u, H b = some (.frz o u) → H' b = some (.frz o u)
  tbls : ∀ b ps, H b = some (.tbl ps) → ∃ more, H' b = some (.tbl (ps ++ more))
section
variable {fs fs' ex ex' : List Addr} {H H1 H2 : Hp} {h h1 h2 h' : Heap} {a x e : Addr} {o : HO}
theorem Un.any (u : Un fs ex H H1 h h1) {b : Addr} {ob : Obj} (q : h.get? b = some ob) (n : H b = none) (hx : b ∉ ex) : ∃ sl, h1.get? b = some { ob with slots := sl } := by
  by_cases hb : b ∈ fs
  · exact u.slot b ob q n hb hx
  · exact ⟨ob.slots, u.keep b ob q n hb hx⟩
theorem Un.trans (a : Un fs ex H H1 h h1) (b : Un fs ex H1 H2 h1 h2) : Un fs ex H H2 h h2 where
  keep := fun c ob q n hc hx => b.keep c ob (a.keep c ob q n hc hx) (a.free c ob q n hx) hc hx
  slot := fun c ob q n hc hx => by
    obtain ⟨sl, e1⟩ := a.slot c ob q n hc hx
    obtain ⟨sl', e2⟩ := b.slot c _ e1 (a.free c ob q n hx) hc hx
    exact ⟨sl', e2⟩
  free := fun c ob q n hx => by
    obtain ⟨o', e1⟩ := a.there c ob q hx
    exact b.free c o' e1 (a.free c ob q n hx) hx
  there := fun c ob q hx => by
    obtain ⟨o', e1⟩ := a.there c ob q hx
    exact b.there c o' e1 hx
  tups := fun c xs q => b.tups c xs (a.tups c xs q)
  frzs := fun c ob xs q => b.frzs c ob xs (a.frzs c ob xs q)
  tbls := fun c ps q => by
    obtain ⟨m1, e1⟩ := a.tbls c ps q
    obtain ⟨m2, e2⟩ := b.tbls c _ e1
    exact ⟨m1 ++ m2, by rw [e2, Array.append_assoc]⟩
theorem Un.kept (k : ∀ b u, h.get? b = some u → h'.get? b = some u) : Un fs ex H H h h' :=
  ⟨fun b ob q _ _ _ => k b ob q, fun b ob q _ _ _ => ⟨ob.slots, k b ob q⟩, fun _ _ _ n _ => n, fun b ob q _ => ⟨ob, k b ob q⟩, fun _ _ q => q, fun _ _ _ q => q, fun _ ps q => ⟨#[], by rw [q]; simp⟩⟩
theorem Un.refl : Un fs ex H H h h := Un.kept fun _ _ q => q
theorem Un.laid (k : ∀ b u, h.get? b = some u → h'.get? b = some u) (hp : h.objs.size ≤ a) (hn : H a = none) : Un fs ex H (upd H a o) h h' where
  keep := fun b u q _ _ _ => k b u q
  slot := fun b u q _ _ _ => ⟨u.slots, k b u q⟩
  free := fun b u q n _ => by rw [upd_ne (Nat.ne_of_lt (Nat.lt_of_lt_of_le (Heap.lt_size q) hp))]; exact n
  there := fun b u q _ => ⟨u, k b u q⟩
  tups := fun b xs q => by rw [upd_ne (ne_of_none q hn)]; exact q
  frzs := fun b u xs q => by rw [upd_ne (ne_of_none q hn)]; exact q
  tbls := fun b ps q => ⟨#[], by rw [upd_ne (ne_of_none q hn), q]; simp⟩
theorem Un.write (mu : Mut (H x)) (he : e = x ∨ H e = some (.own x)) (k : ∀ b u, b ≠ e → h.get? b = some u → h'.get? b = some u) (heo : ∃ u, h'.get? e = some u) : Un fs ex H (upd H x o) h h' := by
  have hx : ∀ b, H b = none → b ≠ x := fun b n z => by subst z; rw [n] at mu; exact mu
  have hb : ∀ b, H b = none → b ≠ e := fun b n z => by
    subst z
    rcases he with r | r
    · exact hx b n r
    · rw [n] at r; cases r
  have hm : ∀ b u, H b = some u → ¬ Mut (some u) → b ≠ x := fun b u q nm z => by subst z; rw [q] at mu; exact nm mu
  refine ⟨fun b u q n _ _ => k b u (hb b n) q, fun b u q n _ _ => ⟨u.slots, k b u (hb b n) q⟩, fun b u q n _ => by rw [upd_ne (hx b n)]; exact n, fun b u q _ => ?_,
    fun b xs q => by rw [upd_ne (hm b _ q fun z => z)]; exact q, fun b u xs q => by rw [upd_ne (hm b _ q fun z => z)]; exact q, fun b ps q => ⟨#[], by rw [upd_ne (hm b _ q fun z => z), q]; simp⟩⟩
  by_cases hbe : b = e
  · subst hbe; exact heo
  · exact ⟨u, k b u hbe q⟩
theorem Un.mono (u : Un fs ex H H1 h h1) (hs : ∀ b ∈ fs, b ∈ fs') (hx : ∀ b ∈ ex, b ∈ ex') : Un fs' ex' H H1 h h1 :=
  ⟨fun b ob q n hb he => u.keep b ob q n (fun z => hb (hs b z)) fun z => he (hx b z), fun _ _ q n _ he => u.any q n fun z => he (hx _ z), fun b ob q n he => u.free b ob q n fun z => he (hx b z), fun b ob q he => u.there b ob q fun z => he (hx b z), u.tups, u.frzs, u.tbls⟩
end

/-! ### the heap without what is tracked -/
def trk (h : Heap) (H : Hp) : List Addr := (List.range h.objs.size).filter fun a => (H a).isSome
def hidT (h : Heap) (H : Hp) : Heap := PySem.W.hideAll h (trk h H)
theorem hidT_size (h : Heap) (H : Hp) : (hidT h H).objs.size = h.objs.size := PySem.W.hideAll_size _ _
theorem hidT_get {h : Heap} {H : Hp} {b : Addr} {o : Obj} (e : h.get? b = some o) (n : H b = none) : (hidT h H).get? b = some o :=
  PySem.W.hideAll_get _ e fun hm => by
    have q : (H b).isSome = true := (List.mem_filter.mp hm).2
    rw [n] at q; simp at q
theorem of_hidT {h : Heap} {H : Hp} {b : Addr} {o : Obj} (e : (hidT h H).get? b = some o) : h.get? b = some o ∧ H b = none := by
  have e' : h.get? b = some o := PySem.W.of_hideAll (trk h H) e
  refine ⟨e', ?_⟩
  cases q : H b with
  | none => rfl
  | some x =>
    have hm : b ∈ trk h H := List.mem_filter.mpr ⟨List.mem_range.mpr (Heap.lt_size e'), by simp [q]⟩
    have z : (hidT h H).get? b = none := PySem.W.hideAll_none (trk h H) hm
    rw [z] at e; cases e

/-! ### OpenK's ledger, filled with every new object but one -/
def allNews (g h : Heap) (L : Addr) : List (Addr × Obj) := (List.range h.objs.size).filterMap fun a => if a = L ∨ (g.get? a).isSome = true then none else (h.get? a).map fun o => (a, o)
def rest (g h : Heap) (L d : Addr) : List (Addr × Obj) := (allNews g h L).filter fun p => decide (p.1 ≠ d)
end L2

namespace L2
open PySem PySem.Spec PyProof.Rows

/-- the module's facts, over the base: the heap at the law's entry without what is tracked there -/
structure Mod (K : PySem.W.Frag) (mg : Str → Option Value) (base : Heap) : Prop where
  kin : K.In base
  glob : base.Ns mainGlobals mg
  blt : ∃ mb, base.Ns builtinsNs mb ∧ ∀ x : Str, x ≠ "__name__" → mb x = bootBuiltins x
  nolimit : base.NoLimit

/-- the context: a def's body (or a comprehension's block) running. base: fixed through the whole law; s₀, H₀: the entry; outer: the frames whose slots others may change (a def's callers); stack: all frames that run;
   ex: iterators that were made ahead of the entry and are walked here (a comprehension's); fn: the names whose cells were made at the entry (a def: all; a comprehension's block: its own); calm: not within an except suite; pn: pins that every state bears; xe: what is wanted of an exception that leaves the code -/
structure Cx where
  prog : Program
  w : World
  K : PySem.W.Frag
  mg : Str → Option Value
  base : Heap
  A : Around
  N : List Str
  s₀ : Shared
  H₀ : Hp
  env : Env
  outer : List Env
  stack : List Env
  ex : List Addr
  fn : Str → Bool
  calm : Bool
  pn : List (Addr × Obj)
  xe : Value → Shared → Prop
/-- the callers' frames -/
def frs (l : List Env) : List Addr := l.filterMap (·.frame)
abbrev Cx.fs (X : Cx) : List Addr := frs X.outer

def Vis (sc : Scope) (x : Str) : Prop := sc.names.lookup x = some .local ∨ sc.names.lookup x = some .cell ∨ sc.names.lookup x = some .free
def Loc (sc : Scope) (x : Str) : Prop := sc.names.lookup x = some .local ∨ sc.names.lookup x = some .cell
def Look (env : Env) (h : Heap) (m : Str → Option Value) (x : Str) (u : Value) : Prop :=
  (env.kindOf x = some .local ∧ m x = some u) ∨ ((env.kindOf x = some .cell ∨ env.kindOf x = some .free) ∧ ∃ c, env.cells.lookup x = some c ∧ h.IsCell c (some u))

structure Cx.Ok (X : Cx) : Prop where
  mod : Mod X.K X.mg X.base
  kind : X.env.scope.kind = .function
  glob : X.env.globals = mainGlobals
  blt : X.env.builtins = builtinsNs
  above : X.s₀.heap.objs.size ≤ X.env.locals
  inj : ∀ x y c, X.env.cells.lookup x = some c → X.env.cells.lookup y = some c → x = y
  has : ∀ x, (X.env.kindOf x = some .cell ∨ X.env.kindOf x = some .free) → ∃ c, X.env.cells.lookup x = some c
  cab : ∀ x c, X.fn x = true → X.env.cells.lookup x = some c → X.s₀.heap.objs.size ≤ c
  hd : X.calm = true → X.A.handled = none
  frames : X.A.frames = some X.stack
  stk : X.stack = X.outer ∨ (X.stack = X.env :: X.outer ∧ X.env.frame = some X.env.locals)
  exf : ∀ b ∈ X.ex, b ≠ X.env.locals ∧ ∀ x c, X.env.cells.lookup x = some c → c ≠ b
  bs : ∀ b o, X.base.get? b = some o → X.s₀.heap.get? b = some o ∧ X.H₀ b = none
  bsz : X.base.objs.size ≤ X.s₀.heap.objs.size
  noex : ∀ b o, X.base.get? b = some o → b ∉ X.ex
  exfs : ∀ b ∈ X.ex, b ∉ X.fs
  funs : X.s₀.heap.FunFrames X.base X.outer
  frf : ∀ b ∈ X.fs, X.H₀ b = none

structure Inv (X : Cx) (pins : List (Addr × Obj)) (σ : List (Option V)) (H : Hp) (s : Shared) : Prop where
  ok : X.Ok
  os : s.os = X.s₀.os
  bare : AllBare s.gens
  base : Un X.fs X.ex X.H₀ H X.s₀.heap s.heap
  loc : ∃ m, s.heap.Ns X.env.locals m ∧ ∀ (i : Nat) (x : Str) (v : V), X.N[i]? = some x → σ[i]? = some (some v) → Vis X.env.scope x → ∃ u, RelV v u ∧ Look X.env s.heap m x u
  cell : ∀ x c, X.env.cells.lookup x = some c → ∃ v, s.heap.IsCell c v
  free : H X.env.locals = none
  freeC : ∀ x c, X.env.cells.lookup x = some c → H c = none
  pin : ∀ p ∈ X.pn ++ pins, s.heap.get? p.1 = some p.2 ∧ H p.1 = none ∧ p.1 ≠ X.env.locals ∧ p.1 ∉ X.fs ∧ ∀ v, p.2.data ≠ .cell v
  hok : HOk X.prog X.w H s.heap
  len : σ.length = X.N.length

section
variable {X : Cx} {pins : List (Addr × Obj)} {σ : List (Option V)} {H H' : Hp} {s : Shared} {h' : Heap}

theorem Cx.Ok.nofr (ok : X.Ok) {b : Addr} {o : Obj} (e : X.base.get? b = some o) : b ∉ X.fs := fun hb => by
  have := (ok.funs.mem hb).1
  rw [e] at this; cases this
theorem Inv.bs (I : Inv X pins σ H s) : ∀ b o, X.base.get? b = some o → s.heap.get? b = some o ∧ H b = none := fun b o e =>
  ⟨I.base.keep b o (I.ok.bs b o e).1 (I.ok.bs b o e).2 (I.ok.nofr e) (I.ok.noex b o e), I.base.free b o (I.ok.bs b o e).1 (I.ok.bs b o e).2 (I.ok.noex b o e)⟩
theorem Inv.bk (I : Inv X pins σ H s) : ∀ b o, X.base.get? b = some o → s.heap.get? b = some o := fun b o e => (I.bs b o e).1
theorem Inv.mod (I : Inv X pins σ H s) : Mod X.K X.mg X.base := I.ok.mod
theorem Inv.kIn (I : Inv X pins σ H s) : X.K.In s.heap := I.ok.mod.kin.keeps I.bk
theorem Inv.nolimit (I : Inv X pins σ H s) : s.heap.NoLimit := I.ok.mod.nolimit.keeps I.bk
/-- the frame over the base: for OpenK's rules (K.In X.base is I.mod.kin) -/
theorem Inv.fr (I : Inv X pins σ H s) : ∃ m, Fr X.base X.env.locals s.heap m :=
  let ⟨m, hn, _⟩ := I.loc
  ⟨m, hn, I.bk, Nat.le_trans I.ok.bsz I.ok.above⟩
theorem Inv.lt (I : Inv X pins σ H s) : X.env.locals < s.heap.objs.size := let ⟨_, hn, _⟩ := I.loc; hn.lt
theorem Inv.sz (I : Inv X pins σ H s) : X.s₀.heap.objs.size ≤ s.heap.objs.size := Nat.le_trans I.ok.above (Nat.le_of_lt I.lt)
theorem Inv.nofs (I : Inv X pins σ H s) {a : Addr} (h : s.heap.objs.size ≤ a) : a ∉ X.fs := fun hb => by
  obtain ⟨_, o, ho, _⟩ := I.ok.funs.mem hb
  exact absurd (Nat.lt_of_lt_of_le (Heap.lt_size ho) (Nat.le_trans I.sz h)) (Nat.lt_irrefl _)
theorem Inv.cne (I : Inv X pins σ H s) : ∀ x c, X.env.cells.lookup x = some c → c ≠ X.env.locals := fun x c e z => by
  obtain ⟨v, o, ho, hd⟩ := I.cell x c e
  obtain ⟨m, ⟨o', es, ep, ho', hd', _⟩, _⟩ := I.loc
  rw [z, ho'] at ho; cases ho; rw [hd'] at hd; cases hd
theorem Inv.funs (I : Inv X pins σ H s) : s.heap.FunFrames X.base X.outer := by
  have all : ∀ (l : List Env), (∀ b ∈ frs l, b ∈ X.fs) → X.s₀.heap.FunFrames X.base l → s.heap.FunFrames X.base l := by
    intro l
    induction l with
    | nil => intro _ _; trivial
    | cons env r ih =>
      intro hs hl
      obtain ⟨hk, ⟨L, o, hf, hn, ho, hd⟩, hr⟩ := hl
      have hL : L ∈ X.fs := hs L (by unfold frs; rw [List.filterMap_cons, hf]; exact List.mem_cons_self)
      obtain ⟨sl, e⟩ := I.base.slot L o ho (I.ok.frf L hL) hL fun z => I.ok.exfs L z hL
      exact ⟨hk, ⟨L, _, hf, hn, e, hd⟩, ih (fun b hb => hs b (by unfold frs; rw [List.filterMap_cons, hf]; exact List.mem_cons_of_mem _ hb)) hr⟩
  exact all X.outer (fun _ hb => hb) I.ok.funs

/-- the frames that run, for a call -/
theorem Inv.stack (I : Inv X pins σ H s) : s.heap.FunFrames X.base X.stack := by
  rcases I.ok.stk with e | ⟨e, hf⟩
  · rw [e]; exact I.funs
  · rw [e]
    obtain ⟨m, hn, _⟩ := I.loc
    refine .cons (by rw [I.ok.kind]; decide) hf hn ?_ I.funs
    exact Heap.get?_none_of_le (Nat.le_trans I.ok.bsz I.ok.above)
theorem Inv.stkSub (I : Inv X pins σ H s) : ∀ b ∈ frs X.stack, b ∈ X.env.locals :: X.fs := fun b hb => by
  rcases I.ok.stk with e | ⟨e, hf⟩
  · rw [e] at hb; exact List.mem_cons_of_mem _ hb
  · rw [e] at hb
    unfold frs at hb
    rw [List.filterMap_cons, hf] at hb
    exact hb
theorem Inv.stkFree (I : Inv X pins σ H s) : ∀ b ∈ frs X.stack, H b = none := fun b hb => by
  rcases List.mem_cons.mp (I.stkSub b hb) with e | hb
  · rw [e]; exact I.free
  · obtain ⟨_, o, ho, _⟩ := I.ok.funs.mem hb
    exact I.base.free b o ho (I.ok.frf b hb) fun z => I.ok.exfs b z hb

/-- THE STEP: the untracked objects but the frame and the records at ch are kept (the callers' frames up to slots), the frame's map is kept, the new abstract heap is held -/
theorem Inv.step {g' : Array GenState} {t' : Nat} {d' : Drawn} {ch : List Addr} (I : Inv X pins σ H s)
    (hch : ∀ b ∈ ch, (b ∈ X.ex ∨ X.s₀.heap.objs.size ≤ b) ∧ b ≠ X.env.locals ∧ (∀ x c, X.env.cells.lookup x = some c → c ≠ b) ∧ ∀ p ∈ X.pn ++ pins, p.1 ≠ b)
    (keep : ∀ b o, b ≠ X.env.locals → b ∉ X.fs → b ∉ ch → s.heap.get? b = some o → H b = none → h'.get? b = some o)
    (slot : ∀ b o, b ≠ X.env.locals → b ∈ X.fs → b ∉ ch → s.heap.get? b = some o → H b = none → ∃ sl, h'.get? b = some { o with slots := sl }) (free : ∀ b o, b ∉ ch → s.heap.get? b = some o → H b = none → H' b = none)
    (there : ∀ b o, b ∉ ch → s.heap.get? b = some o → ∃ o', h'.get? b = some o')
    (tups : ∀ b xs, H b = some (.tup xs) → H' b = some (.tup xs)) (frzs : ∀ b o u, H b = some (.frz o u) → H' b = some (.frz o u)) (tbls : ∀ b ps, H b = some (.tbl ps) → ∃ more, H' b = some (.tbl (ps ++ more)))
    (ns : ∀ m, s.heap.Ns X.env.locals m → h'.Ns X.env.locals m) (hok : HOk X.prog X.w H' h') (hg : AllBare g') :
    Inv X pins σ H' { s with heap := h', gens := g', drawn := d', toks := t' } := by
  have neL : ∀ b o, X.s₀.heap.get? b = some o → b ≠ X.env.locals := fun b o e => Nat.ne_of_lt (Nat.lt_of_lt_of_le (Heap.lt_size e) I.ok.above)
  have neC : ∀ b o, X.s₀.heap.get? b = some o → b ∉ X.ex → b ∉ ch := fun b o e hx hb => by
    rcases (hch b hb).1 with z | z
    · exact hx z
    · exact absurd (Nat.lt_of_lt_of_le (Heap.lt_size e) z) (Nat.lt_irrefl _)
  have cellK : ∀ x c, X.env.cells.lookup x = some c → ∀ v, s.heap.IsCell c v → h'.IsCell c v := fun x c e v ⟨o, ho, hd⟩ => by
    have nch : c ∉ ch := fun z => (hch c z).2.2.1 x c e rfl
    by_cases hc : c ∈ X.fs
    · obtain ⟨sl, q⟩ := slot c o (I.cne x c e) hc nch ho (I.freeC x c e)
      exact ⟨_, q, hd⟩
    · exact ⟨o, keep c o (I.cne x c e) hc nch ho (I.freeC x c e), hd⟩
  refine ⟨I.ok, I.os, hg, ⟨fun b o e n hb hx => ?_, fun b o e n hb hx => ?_, fun b o e n hx => ?_, fun b o e hx => ?_, fun b xs e => tups b xs (I.base.tups b xs e), fun b o xs e => frzs b o xs (I.base.frzs b o xs e), fun b ps e => ?_⟩, ?_, fun x c e => ?_, ?_, fun x c e => ?_, fun p hp => ?_, hok, I.len⟩
  · exact keep b o (neL b o e) hb (neC b o e hx) (I.base.keep b o e n hb hx) (I.base.free b o e n hx)
  · obtain ⟨sl, e1⟩ := I.base.slot b o e n hb hx
    obtain ⟨sl', e2⟩ := slot b _ (neL b o e) hb (neC b o e hx) e1 (I.base.free b o e n hx)
    exact ⟨sl', e2⟩
  · obtain ⟨o', e1⟩ := I.base.there b o e hx
    exact free b o' (neC b o e hx) e1 (I.base.free b o e n hx)
  · obtain ⟨o', e1⟩ := I.base.there b o e hx
    exact there b o' (neC b o e hx) e1
  · obtain ⟨m1, e1⟩ := I.base.tbls b ps e
    obtain ⟨m2, e2⟩ := tbls b _ e1
    exact ⟨m1 ++ m2, by rw [e2, Array.append_assoc]⟩
  · obtain ⟨m, hn, hl⟩ := I.loc
    refine ⟨m, ns m hn, fun i x v e1 e2 e3 => ?_⟩
    obtain ⟨u, r, l⟩ := hl i x v e1 e2 e3
    refine ⟨u, r, ?_⟩
    rcases l with l | ⟨k, c, e, z⟩
    · exact .inl l
    · exact .inr ⟨k, c, e, cellK x c e _ z⟩
  · obtain ⟨v, z⟩ := I.cell x c e
    exact ⟨v, cellK x c e v z⟩
  · obtain ⟨m, ⟨o, _, _, ho, _⟩, _⟩ := I.loc
    exact free _ o (fun z => (hch _ z).2.1 rfl) ho I.free
  · obtain ⟨v, o, ho, hd⟩ := I.cell x c e
    exact free c o (fun z => (hch c z).2.2.1 x c e rfl) ho (I.freeC x c e)
  · obtain ⟨e, n, ne, nf, d⟩ := I.pin p hp
    have nch : p.1 ∉ ch := fun z => (hch p.1 z).2.2.2 p hp rfl
    exact ⟨keep p.1 p.2 ne nf nch e n, free p.1 p.2 nch e n, ne, nf, d⟩
/-- .. where the frame's own object is kept too -/
theorem Inv.un {t' : Nat} (I : Inv X pins σ H s) (u : Un X.fs [] H H' s.heap h') (hok : HOk X.prog X.w H' h') : Inv X pins σ H' { s with heap := h', toks := t' } := by
  obtain ⟨m, ⟨o, es, ep, ho, r⟩, _⟩ := id I.loc
  obtain ⟨sl, hL⟩ := u.any ho I.free (by simp)
  exact I.step (g' := s.gens) (d' := s.drawn) (ch := []) (fun _ z => nomatch z) (fun b o _ hb _ e n => u.keep b o e n hb (by simp)) (fun b o _ hb _ e n => u.slot b o e n hb (by simp)) (fun b o _ e n => u.free b o e n (by simp)) (fun b o _ e => u.there b o e (by simp)) u.tups u.frzs u.tbls (fun m' hm => by
    obtain ⟨o', es', ep', ho', r'⟩ := hm
    rw [ho] at ho'; cases ho'
    exact ⟨_, es', ep', hL, r'⟩) hok I.bare
/-- behind a call (or a comprehension's block): the slots of this frame may have changed too, the records at ch may have turned -/
theorem Inv.call {g' : Array GenState} {t' : Nat} {d' : Drawn} {ch : List Addr} (I : Inv X pins σ H s) (u : Un (frs X.stack) ch H H' s.heap h') (hok : HOk X.prog X.w H' h') (hg : AllBare g')
    (hch : ∀ b ∈ ch, (b ∈ X.ex ∨ X.s₀.heap.objs.size ≤ b) ∧ b ≠ X.env.locals ∧ (∀ x c, X.env.cells.lookup x = some c → c ≠ b) ∧ ∀ p ∈ X.pn ++ pins, p.1 ≠ b) :
    Inv X pins σ H' { s with heap := h', gens := g', drawn := d', toks := t' } := by
  obtain ⟨m, ⟨o, es, ep, ho, r⟩, _⟩ := id I.loc
  obtain ⟨sl, hL⟩ := u.any ho I.free fun z => (hch _ z).2.1 rfl
  exact I.step (ch := ch) hch (fun b o hL hb hc e n => u.keep b o e n (fun z => (List.mem_cons.mp (I.stkSub b z)).elim hL hb) hc) (fun b o _ _ hc e n => u.any e n hc) (fun b o hc e n => u.free b o e n hc) (fun b o hc e => u.there b o e hc) u.tups u.frzs u.tbls (fun m' hm => by
    obtain ⟨o', es', ep', ho', r'⟩ := hm
    rw [ho] at ho'; cases ho'
    exact ⟨_, es', ep', hL, r'⟩) hok hg
/-- an untracked record of ours (an iterator) has turned -/
theorem Inv.turned {t' : Nat} {it : Addr} (I : Inv X pins σ H s) (k : ∀ b o, b ≠ it → s.heap.get? b = some o → h'.get? b = some o) (hn : H it = none) (hL : it ≠ X.env.locals)
    (h1 : it ∈ X.ex ∨ X.s₀.heap.objs.size ≤ it) (h2 : ∀ x c, X.env.cells.lookup x = some c → c ≠ it) (h3 : ∀ p ∈ X.pn ++ pins, p.1 ≠ it) : Inv X pins σ H { s with heap := h', toks := t' } := by
  have nit : ∀ b u, H b = some u → b ≠ it := fun b u e z => by rw [z, hn] at e; cases e
  refine I.step (g' := s.gens) (d' := s.drawn) (ch := [it]) (fun b hb => ?_) (fun b o _ _ hc e _ => k b o (fun z => hc (by simp [z])) e) (fun b o _ _ hc e _ => ⟨o.slots, k b o (fun z => hc (by simp [z])) e⟩) (fun _ _ _ _ n => n)
    (fun b o hc e => ⟨o, k b o (fun z => hc (by simp [z])) e⟩) (fun _ _ e => e) (fun _ _ _ e => e) (fun b ps e => ⟨#[], by rw [e]; simp⟩) (fun m hm => ?_) (fun b u e => ?_) I.bare
  · have e : b = it := by simpa using hb
    subst e
    exact ⟨h1, hL, h2, h3⟩
  · obtain ⟨o, es, ep, ho, r⟩ := hm
    exact ⟨o, es, ep, k _ o (Ne.symm hL) ho, r⟩
  · refine (I.hok b u e).stay (fun c v hc q => k c v ?_ q) (fun _ q => q) fun _ _ q => q
    rcases hc with z | z
    · rw [z]; exact nit b u e
    · exact nit c _ z
theorem Inv.tok (I : Inv X pins σ H s) (t : Nat) : Inv X pins σ H { s with toks := t } := I.un (h' := s.heap) (t' := t) Un.refl I.hok
/-- all objects kept -/
theorem Inv.kept {t' : Nat} (I : Inv X pins σ H s) (k : ∀ b u, s.heap.get? b = some u → h'.get? b = some u) : Inv X pins σ H { s with heap := h', toks := t' } := I.un (Un.kept k) (I.hok.kept k)
/-- a new object laid and tracked -/
theorem Inv.laid {a : Addr} {o : HO} {t' : Nat} (I : Inv X pins σ H s) (k : ∀ b u, s.heap.get? b = some u → h'.get? b = some u) (hp : s.heap.objs.size ≤ a) (new : ObjOk X.prog X.w (upd H a o) h' a o) :
    Inv X pins σ (upd H a o) { s with heap := h', toks := t' } := I.un (Un.laid k hp (I.hok.fresh hp)) (I.hok.laid k hp new)
/-- an object written -/
theorem Inv.write {x e : Addr} {o : HO} {t' : Nat} (I : Inv X pins σ H s) (mu : Mut (H x)) (he : e = x ∨ H e = some (.own x)) (k : ∀ b u, b ≠ e → s.heap.get? b = some u → h'.get? b = some u) (heo : ∃ u, h'.get? e = some u)
    (new : ObjOk X.prog X.w (upd H x o) h' x o) : Inv X pins σ (upd H x o) { s with heap := h', toks := t' } := I.un (Un.write mu he k heo) (I.hok.write mu he k heo new)
theorem Inv.pins_of {pins' : List (Addr × Obj)} (I : Inv X pins σ H s) (h : ∀ p ∈ pins', s.heap.get? p.1 = some p.2 ∧ H p.1 = none ∧ p.1 ≠ X.env.locals ∧ p.1 ∉ X.fs ∧ ∀ v, p.2.data ≠ .cell v) : Inv X pins' σ H s :=
  ⟨I.ok, I.os, I.bare, I.base, I.loc, I.cell, I.free, I.freeC, fun p hp => (List.mem_append.mp hp).elim (fun z => I.pin p (List.mem_append_left _ z)) (h p), I.hok, I.len⟩

theorem nodup_ix {N : List Str} (hN : N.Nodup) {i j : Nat} {x : Str} (a : N[i]? = some x) (b : N[j]? = some x) : i = j := by
  obtain ⟨h1, e1⟩ := List.getElem?_eq_some_iff.mp a
  obtain ⟨h2, e2⟩ := List.getElem?_eq_some_iff.mp b
  exact (List.getElem_inj hN).mp (e1.trans e2.symm)

/-- a name is stored; what changed -/
theorem store_ok2 {M : Model} {A : Around} {E : Value → Shared → Prop} {i : Nat} {x : Str} {v : V} {u : Value} {Q : Unit → Shared → Prop} (I : Inv X pins σ H s) (hN : X.N.Nodup) (hi : X.N[i]? = some x) (hx : Loc X.env.scope x) (r : RelV v u)
    (h : ∀ s', Inv X pins (σ.set i (some v)) H s' → (∃ a, Heap.SameBut a s.heap s'.heap ∧ (a = X.env.locals ∨ X.env.cells.lookup x = some a)) → Q () s') (hf : X.fn x = true ∨ X.env.scope.names.lookup x = some .local := by first | exact .inl rfl | exact .inr rfl | assumption) : wpAny M A (storeName X.env x u) Q E s := by
  obtain ⟨m, hn, hl⟩ := id I.loc
  have hcls : (X.env.scope.kind == .class || (X.env.scope.kind == .module && X.env.locals != X.env.globals)) = false := by rw [I.ok.kind]; rfl
  have hiσ : i < σ.length := by rw [I.len]; exact (List.getElem?_eq_some_iff.mp hi).1
  have cne := I.cne
  have tracked : ∀ {a : Addr} {h' : Heap}, (∃ o, s.heap.get? a = some o ∧ H a = none) → Heap.SameBut a s.heap h' → HOk X.prog X.w H h' := fun {a h'} ha hs b ob e => by
    obtain ⟨_, _, hfree⟩ := ha
    refine (I.hok b ob e).stay (fun c w' hc q => (hs.2 c ?_).trans q) (fun _ q => q) fun _ _ q => q
    rintro rfl
    rcases hc with rfl | hc
    · rw [hfree] at e; cases e
    · rw [hfree] at hc; cases hc
  rcases hx with hk | hk
  · refine wpAny_storeName_local hk hn (fun h' hn' hs => ?_) hcls
    obtain ⟨oL, _, _, hoL, _⟩ := id hn
    refine h _ ⟨I.ok, I.os, I.bare, ⟨fun b o e n hb hx => ?_, fun b o e n hb hx => ?_, I.base.free, fun b o e hx => ?_, I.base.tups, I.base.frzs, I.base.tbls⟩, ⟨_, hn', fun j y v' e1 e2 e3 => ?_⟩, fun y c e => ?_, I.free, I.freeC, fun p hp => ?_, tracked ⟨oL, hoL, I.free⟩ hs, by simpa using I.len⟩ ⟨_, hs, .inl rfl⟩
    · exact (hs.2 b (Nat.ne_of_lt (Nat.lt_of_lt_of_le (Heap.lt_size e) I.ok.above))).trans (I.base.keep b o e n hb hx)
    · obtain ⟨sl, e1⟩ := I.base.slot b o e n hb hx
      exact ⟨sl, (hs.2 b (Nat.ne_of_lt (Nat.lt_of_lt_of_le (Heap.lt_size e) I.ok.above))).trans e1⟩
    · obtain ⟨o', e1⟩ := I.base.there b o e hx
      exact ⟨o', (hs.2 b (Nat.ne_of_lt (Nat.lt_of_lt_of_le (Heap.lt_size e) I.ok.above))).trans e1⟩
    · by_cases hj : j = i
      · subst hj
        rw [hi] at e1; cases e1
        rw [List.getElem?_set_self hiσ] at e2
        cases e2
        exact ⟨u, r, .inl ⟨hk, by simp⟩⟩
      · rw [List.getElem?_set_ne (Ne.symm hj)] at e2
        obtain ⟨u', r', q⟩ := hl j y v' e1 e2 e3
        refine ⟨u', r', ?_⟩
        rcases q with ⟨k, e⟩ | ⟨k, c, e, z⟩
        · refine .inl ⟨k, ?_⟩
          have : y ≠ x := fun e => hj (nodup_ix hN e1 (e ▸ hi))
          simp [this, e]
        · exact .inr ⟨k, c, e, z.sameBut hs (cne y c e)⟩
    · obtain ⟨w', z⟩ := I.cell y c e
      exact ⟨w', z.sameBut hs (cne y c e)⟩
    · obtain ⟨e, n, ne, nf, d⟩ := I.pin p hp
      exact ⟨(hs.2 p.1 ne).trans e, n, ne, nf, d⟩
  · have hfn : X.fn x = true := by
      rcases hf with z | z
      · exact z
      · rw [z] at hk; cases hk
    obtain ⟨c, hc⟩ := I.ok.has x (.inl hk)
    obtain ⟨w', z⟩ := I.cell x c hc
    refine wpAny_storeName_cell I.ok.kind hk hc z (fun h' hc' hs => ?_)
    obtain ⟨oc, hoc, hocd⟩ := id z
    refine h { s with heap := h' } ⟨I.ok, I.os, I.bare, ⟨fun b o e n hb hx => ?_, fun b o e n hb hx => ?_, I.base.free, fun b o e hx => ?_, I.base.tups, I.base.frzs, I.base.tbls⟩, ⟨m, hn.sameBut hs (Ne.symm (cne x c hc)), fun j y v' e1 e2 e3 => ?_⟩, fun y c' e => ?_, I.free, I.freeC, fun p hp => ?_, tracked ⟨oc, hoc, I.freeC x c hc⟩ hs, by simpa using I.len⟩ ⟨c, hs, .inr hc⟩
    · exact (hs.2 b (Nat.ne_of_lt (Nat.lt_of_lt_of_le (Heap.lt_size e) (I.ok.cab x c hfn hc)))).trans (I.base.keep b o e n hb hx)
    · obtain ⟨sl, e1⟩ := I.base.slot b o e n hb hx
      exact ⟨sl, (hs.2 b (Nat.ne_of_lt (Nat.lt_of_lt_of_le (Heap.lt_size e) (I.ok.cab x c hfn hc)))).trans e1⟩
    · obtain ⟨o', e1⟩ := I.base.there b o e hx
      exact ⟨o', (hs.2 b (Nat.ne_of_lt (Nat.lt_of_lt_of_le (Heap.lt_size e) (I.ok.cab x c hfn hc)))).trans e1⟩
    · by_cases hj : j = i
      · subst hj
        rw [hi] at e1; cases e1
        rw [List.getElem?_set_self hiσ] at e2
        cases e2
        exact ⟨u, r, .inr ⟨.inl hk, c, hc, hc'⟩⟩
      · rw [List.getElem?_set_ne (Ne.symm hj)] at e2
        obtain ⟨u', r', q⟩ := hl j y v' e1 e2 e3
        refine ⟨u', r', ?_⟩
        rcases q with q | ⟨k, c', e, z'⟩
        · exact .inl q
        · refine .inr ⟨k, c', e, z'.sameBut hs ?_⟩
          rintro rfl
          exact hj (nodup_ix hN e1 (I.ok.inj _ _ _ e hc ▸ hi))
    · by_cases hcc : c' = c
      · subst hcc; exact ⟨_, hc'⟩
      · obtain ⟨w2, z2⟩ := I.cell y c' e
        exact ⟨w2, z2.sameBut hs hcc⟩
    · obtain ⟨e, n, ne, nf, d⟩ := I.pin p hp
      refine ⟨(hs.2 p.1 ?_).trans e, n, ne, nf, d⟩
      intro q
      rw [q, hoc] at e
      have q' : oc = p.2 := Option.some.inj e
      exact d w' (by rw [← q']; exact hocd)
theorem store_ok {M : Model} {A : Around} {E : Value → Shared → Prop} {i : Nat} {x : Str} {v : V} {u : Value} {Q : Unit → Shared → Prop} (I : Inv X pins σ H s) (hN : X.N.Nodup) (hi : X.N[i]? = some x) (hx : Loc X.env.scope x) (r : RelV v u)
    (h : ∀ s', Inv X pins (σ.set i (some v)) H s' → Q () s') (hf : X.fn x = true ∨ X.env.scope.names.lookup x = some .local := by first | exact .inl rfl | exact .inr rfl | assumption) : wpAny M A (storeName X.env x u) Q E s :=
  store_ok2 I hN hi hx r (fun s' I' _ => h s' I') hf
/-- behind a call or a block, the state as it is -/
theorem Inv.call' {s' : Shared} {ch : List Addr} (I : Inv X pins σ H s) (ho : s'.os = s.os) (u : Un (frs X.stack) ch H H' s.heap s'.heap) (hok : HOk X.prog X.w H' s'.heap) (hg : AllBare s'.gens)
    (hch : ∀ b ∈ ch, (b ∈ X.ex ∨ X.s₀.heap.objs.size ≤ b) ∧ b ≠ X.env.locals ∧ (∀ x c, X.env.cells.lookup x = some c → c ≠ b) ∧ ∀ p ∈ X.pn ++ pins, p.1 ≠ b) : Inv X pins σ H' s' := by
  obtain ⟨h', g', d', t', o'⟩ := s'
  have e : o' = s.os := ho
  subst e
  exact I.call (g' := g') (t' := t') (d' := d') u hok hg hch
end

/-! ### the judgements -/
/-- an exception: its class, its own dict's address (where it has one), the abstract heap behind it -/
abbrev XK := Value → Option Addr → Hp → Prop
abbrev St := List (Option V)
abbrev VK := V → Hp → Prop
/-- an expression's reading; a test's; an argument list's -/
abbrev TE := St → Hp → VK → Prop
abbrev TT := St → Hp → (Bool → Hp → Prop) → Prop
abbrev TA := St → Hp → (List V → Hp → Prop) → Prop
/-- what is wanted behind a statement -/
structure Ends where
  nx : St → Hp → Prop
  rt : VK
  bk : St → Hp → Prop := fun _ _ => False
  ct : St → Hp → Prop := fun _ _ => False
abbrev TS := Ends → St → Hp → Prop

def EP (X : Cx) (pins : List (Addr × Obj)) (σ : St) (Q : VK) (u : Value) (s' : Shared) : Prop := ∃ v H', Inv X pins σ H' s' ∧ RelV v u ∧ Q v H'
def TP (X : Cx) (pins : List (Addr × Obj)) (σ : St) (Q : Bool → Hp → Prop) (b : Bool) (s' : Shared) : Prop := ∃ H', Inv X pins σ H' s' ∧ Q b H'
def AP (X : Cx) (pins : List (Addr × Obj)) (σ : St) (Q : List V → Hp → Prop) (us : List Value) (s' : Shared) : Prop := ∃ vs H', Inv X pins σ H' s' ∧ Vals vs us ∧ Q vs H'
def SP (X : Cx) (pins : List (Addr × Obj)) (D : Ends) (f : Flow) (s' : Shared) : Prop :=
  match f with
  | .next => ∃ σ' H', Inv X pins σ' H' s' ∧ D.nx σ' H'
  | .brk => ∃ σ' H', Inv X pins σ' H' s' ∧ D.bk σ' H'
  | .cont => ∃ σ' H', Inv X pins σ' H' s' ∧ D.ct σ' H'
  | .ret u => ∃ v σ' H', Inv X pins σ' H' s' ∧ RelV v u ∧ D.rt v H'

def PE (X : Cx) (e : Expr) (t : TE) : Prop :=
  ∀ (pins : List (Addr × Obj)) (s : Shared) (σ : St) (H : Hp) (Q : VK), Inv X pins σ H s → t σ H Q → wpAny (model X.prog X.w) X.A (eval e X.env) (EP X pins σ Q) X.xe s
def PT (X : Cx) (e : Expr) (t : TT) : Prop :=
  ∀ (pins : List (Addr × Obj)) (s : Shared) (σ : St) (H : Hp) (Q : Bool → Hp → Prop), Inv X pins σ H s → t σ H Q → wpAny (model X.prog X.w) X.A (isTrue e X.env (eval e X.env)) (TP X pins σ Q) X.xe s
/-- a test whatever its 'whole' is (and, or) -/
def PW (X : Cx) (e : Expr) (t : TT) : Prop :=
  ∀ (whole : Sem Value) (pins : List (Addr × Obj)) (s : Shared) (σ : St) (H : Hp) (Q : Bool → Hp → Prop), Inv X pins σ H s → t σ H Q → wpAny (model X.prog X.w) X.A (isTrue e X.env whole) (TP X pins σ Q) X.xe s
theorem PW.pt {X : Cx} {e : Expr} {t : TT} (h : PW X e t) : PT X e t := h _
/-- an argument list (no star), from the left -/
def PA (X : Cx) (es : List Expr) (t : TA) : Prop :=
  ∀ (pos : Pos) (pins : List (Addr × Obj)) (s : Shared) (σ : St) (H : Hp) (Q : List V → Hp → Prop), Inv X pins σ H s → t σ H Q → wpAny (model X.prog X.w) X.A (spliced (backTo pos (starEach es X.env))) (AP X pins σ Q) X.xe s
def PS (X : Cx) (st : Stmt) (t : TS) : Prop :=
  ∀ (pins : List (Addr × Obj)) (s : Shared) (σ : St) (H : Hp) (D : Ends), Inv X pins σ H s → t D σ H → wpAny (model X.prog X.w) X.A (exec st X.env) (SP X pins D) X.xe s
def PSs (X : Cx) (st : List Stmt) (t : TS) : Prop :=
  ∀ (pins : List (Addr × Obj)) (s : Shared) (σ : St) (H : Hp) (D : Ends), Inv X pins σ H s → t D σ H → wpAny (model X.prog X.w) X.A (execs st X.env) (SP X pins D) X.xe s
/-- weaken the end -/
theorem thn {α : Type} {t : Sem α} {Q Q' : α → Shared → Prop} {M : Model} {A : Around} {E : Value → Shared → Prop} {s : Shared} (h : wpAny M A t Q E s) (hQ : ∀ a s, Q a s → Q' a s) : wpAny M A t Q' E s := wpAny_mono h hQ fun _ _ x => x
end L2

namespace L2
open PySem PySem.Spec PyProof.Rows
section
variable {X : Cx}

/-! ### names and constants -/
def tVar (i : Nat) : TE := fun σ H Q => ∃ v, σ[i]? = some (some v) ∧ Q v H
def tC (v : V) : TE := fun _ H Q => Q v H
theorem pe_var {i : Nat} {x : Str} {pos : Pos} (hN : X.N[i]? = some x) (hv : Vis X.env.scope x) (hd : (x == ("__debug__" : Str)) = false := by decide) (hcd : (x == ("__classdict__" : Str)) = false := by decide) : PE X (.Name x pos) (tVar i) := by
  intro pins s σ H Q I h
  obtain ⟨v, e, h⟩ := h
  obtain ⟨m, hn, hl⟩ := I.loc
  obtain ⟨u, r, l⟩ := hl i x v hN e hv
  have fin : EP X pins σ Q u s := ⟨v, H, I, r, h⟩
  rcases l with ⟨hk, hm⟩ | ⟨hk, c, hc, hcell⟩
  · exact wpAny_Name (wpAny_loadName_local I.ok.kind hk hn hm fin) hd
  · rcases hk with hk | hk
    · exact wpAny_Name (wpAny_loadName_cell I.ok.kind hk hc hcell fin) hd
    · exact wpAny_Name (wpAny_loadName_free I.ok.kind hk hc hcell fin hcd) hd
theorem pe_int {i j pos} : PE X (.Constant (.int i) j pos) (tC (.int i)) := fun _ _ _ H _ I h => wpAny_Constant_int ⟨.int i, H, I.tok _, ⟨_, rfl⟩, h⟩
theorem pe_bl {b j pos} : PE X (.Constant (.bool b) j pos) (tC (.bl b)) := fun _ _ _ H _ I h => Constant_bool ⟨.bl b, H, I, rfl, h⟩
theorem pe_non {j pos} : PE X (.Constant .none j pos) (tC .non) := fun _ _ _ H _ I h => Constant_none ⟨.non, H, I, rfl, h⟩
theorem pe_str {x j pos} : PE X (.Constant (.str x) j pos) (tC (.str x)) := fun _ _ _ H _ I h => Calls.Constant_str ⟨.str x, H, I.tok _, ⟨_, rfl⟩, h⟩

/-- a global name of the def -/
def Gl (X : Cx) (x : Str) : Prop := X.env.kindOf x = some .globalImplicit
theorem ld_glob {E : Value → Shared → Prop} {pins : List (Addr × Obj)} {s : Shared} {σ : St} {H : Hp} {x : Str} {u : Value} {pos : Pos} {Q : Value → Shared → Prop} (I : Inv X pins σ H s) (hg : Gl X x) (hm : X.mg x = some u) (h : Q u s)
    (hd : (x == ("__debug__" : Str)) = false := by decide) : wpAny (model X.prog X.w) X.A (eval (.Name x pos) X.env) Q E s :=
  Calls.Name_function_global I.ok.kind hg (Calls.loadGlobal_global (by rw [I.ok.glob]; exact I.mod.glob.keeps I.bk) hm h) hd
theorem ld_blt {E : Value → Shared → Prop} {pins : List (Addr × Obj)} {s : Shared} {σ : St} {H : Hp} {x : Str} {u : Value} {pos : Pos} {Q : Value → Shared → Prop} (I : Inv X pins σ H s) (hg : Gl X x) (hm : X.mg x = none) (hv : bootBuiltins x = some u) (h : Q u s)
    (hn : x ≠ "__name__" := by decide) (hd : (x == ("__debug__" : Str)) = false := by decide) : wpAny (model X.prog X.w) X.A (eval (.Name x pos) X.env) Q E s := by
  obtain ⟨mb, h1, h2⟩ := I.mod.blt
  exact Calls.Name_function_global I.ok.kind hg (Calls.loadGlobal_builtin (by rw [I.ok.glob]; exact I.mod.glob.keeps I.bk) hm (by rw [I.ok.blt]; exact h1.keeps I.bk) ((h2 x hn).trans hv) h) hd
/-- a module's constant, a class, a function, as a value -/
theorem pe_glob {x : Str} {v : V} {u : Value} {pos : Pos} (hg : Gl X x) (hm : X.mg x = some u) (r : RelV v u) (hd : (x == ("__debug__" : Str)) = false := by decide) : PE X (.Name x pos) (tC v) :=
  fun _ _ _ H _ I h => ld_glob I hg hm ⟨v, H, I, r, h⟩ hd
theorem pe_bltn {x : Str} {v : V} {u : Value} {pos : Pos} (hg : Gl X x) (hm : X.mg x = none) (hv : bootBuiltins x = some u) (r : RelV v u) (hn : x ≠ "__name__" := by decide) (hd : (x == ("__debug__" : Str)) = false := by decide) : PE X (.Name x pos) (tC v) :=
  fun _ _ _ H _ I h => ld_blt I hg hm hv ⟨v, H, I, r, h⟩ hn hd

/-! ### arithmetic -/
/-- two ints -/
def t2I (ta tb : TE) (k : Int → Int → Hp → Prop) : St → Hp → Prop := fun σ H => ta σ H fun x H1 => tb σ H1 fun y H2 => ∃ i j, x = .int i ∧ y = .int j ∧ k i j H2
def tAdd (ta tb : TE) : TE := fun σ H Q => t2I ta tb (fun i j H2 => Q (.int (i + j)) H2) σ H
def tSub (ta tb : TE) : TE := fun σ H Q => t2I ta tb (fun i j H2 => Q (.int (i - j)) H2) σ H
/-- the left factor below 2^64 -/
def tMul (ta tb : TE) : TE := fun σ H Q => t2I ta tb (fun i j H2 => (-(2 ^ 64) < i ∧ i < 2 ^ 64) ∧ Q (.int (i * j)) H2) σ H
variable {a b : Expr} {ta tb : TE} {pos : Pos}
/-! ### comparisons -/
def PC (X : Cx) (op : CmpOp) (a b : Expr) (t : TE) : Prop :=
  ∀ (pins : List (Addr × Obj)) (s : Shared) (σ : St) (H : Hp) (Q : VK), Inv X pins σ H s → t σ H Q →
    wpAny (model X.prog X.w) X.A (eval a X.env) (fun v s₁ => wpAny (model X.prog X.w) X.A (eval b X.env) (fun u s₂ => wpAny (model X.prog X.w) X.A (compareOp op v u) (EP X pins σ Q) X.xe s₂) X.xe s₁) X.xe s
def tCmp (p : Int → Int → Bool) (ta tb : TE) : TE := fun σ H Q => t2I ta tb (fun i j H2 => Q (.bl (p i j)) H2) σ H
abbrev tLt : TE → TE → TE := tCmp fun i j => decide (i < j)
abbrev tLe : TE → TE → TE := tCmp fun i j => decide (i ≤ j)
abbrev tGt : TE → TE → TE := tCmp fun i j => decide (j < i)
abbrev tGe : TE → TE → TE := tCmp fun i j => decide (j ≤ i)
abbrev tEqI : TE → TE → TE := tCmp fun i j => decide (i = j)
abbrev tNeI : TE → TE → TE := tCmp fun i j => !decide (i = j)
/-- is None -/
def tIsN (ta : TE) : TE := fun σ H Q => ta σ H fun x H1 => Q (.bl (decide (x = .non))) H1
def tNotN (ta : TE) : TE := fun σ H Q => ta σ H fun x H1 => Q (.bl (!decide (x = .non))) H1
/-- a comparison as a value, as a test -/
def tB (t : TE) : TT := fun σ H Q => t σ H fun x H1 => ∃ c, x = .bl c ∧ Q c H1
/-- an expression whose value is a bool, as a test -/
theorem pt_val {e : Expr} {t : TE} (h : PE X e t) (he : ∀ whole, isTrue e X.env whole = (do let v ← whole; standAt e.pos; holding [v] (truthy v)) := by intro _; rfl) : PT X e (tB t) := by
  intro pins s σ H Q I hw
  refine isTrue_plain (thn (h pins s σ H _ I hw) fun v s1 ⟨x, H1, I1, r1, q1⟩ => ?_) (he _)
  obtain ⟨d, rfl, q⟩ := q1
  cases r1
  exact wpAny_truthy_bool ⟨H1, I1, q⟩

/-! ### and, or, not -/
variable {tA tB' : TT} {rest : List Expr}
def tAnd (t u : TT) : TT := fun σ H Q => t σ H fun c H1 => if c = true then u σ H1 Q else Q false H1
def tOr (t u : TT) : TT := fun σ H Q => t σ H fun c H1 => if c = true then Q true H1 else u σ H1 Q
def tNot (t : TT) : TT := fun σ H Q => t σ H fun c H1 => Q (!c) H1
theorem pw_and1 (ha : PT X a tA) : PW X (.BoolOp .And [a] pos) tA := by
  intro wh pins s σ H Q I h
  refine isTrue_and (thn (ha pins s σ H Q I h) fun c s1 e => ?_)
  cases c with
  | true => exact isTrue_and_nil e
  | false => exact e
theorem pw_or1 (ha : PT X a tA) : PW X (.BoolOp .Or [a] pos) tA := by
  intro wh pins s σ H Q I h
  refine isTrue_or (thn (ha pins s σ H Q I h) fun c s1 e => ?_)
  cases c with
  | false => exact isTrue_or_nil e
  | true => exact e
theorem pw_and (ha : PT X a tA) (hb : PW X (.BoolOp .And (b :: rest) pos) tB') : PW X (.BoolOp .And (a :: b :: rest) pos) (tAnd tA tB') := by
  intro wh pins s σ H Q I h
  refine isTrue_and (thn (ha pins s σ H _ I h) fun c s1 ⟨H1, I1, q1⟩ => ?_)
  cases c with
  | true => exact hb wh pins s1 σ H1 Q I1 q1
  | false => exact ⟨H1, I1, q1⟩
theorem pw_or (ha : PT X a tA) (hb : PW X (.BoolOp .Or (b :: rest) pos) tB') : PW X (.BoolOp .Or (a :: b :: rest) pos) (tOr tA tB') := by
  intro wh pins s σ H Q I h
  refine isTrue_or (thn (ha pins s σ H _ I h) fun c s1 ⟨H1, I1, q1⟩ => ?_)
  cases c with
  | true => exact ⟨H1, I1, q1⟩
  | false => exact hb wh pins s1 σ H1 Q I1 q1
theorem pt_not (ha : PT X a tA) : PT X (.UnaryOp .Not a pos) (tNot tA) := by
  intro pins s σ H Q I h
  exact isTrue_not (ha pins s σ H (fun c H1 => Q (!c) H1) I h)
/-- .. as values (bools) -/
def tAndV (ta tb : TE) : TE := fun σ H Q => ta σ H fun x H1 => ∃ c, x = .bl c ∧ if c = true then tb σ H1 Q else Q (.bl false) H1
def tOrV (ta tb : TE) : TE := fun σ H Q => ta σ H fun x H1 => ∃ c, x = .bl c ∧ if c = true then Q (.bl true) H1 else tb σ H1 Q
def tNotV (ta : TE) : TE := fun σ H Q => ta σ H fun x H1 => ∃ c, x = .bl c ∧ Q (.bl (!c)) H1
theorem pe_one {op} {t : TE} (h : PE X a t) : PE X (.BoolOp op [a] pos) t := fun pins s σ H Q I hw => BoolOp_one (h pins s σ H Q I hw)
theorem pe_and (ha : PE X a ta) (hb : PE X (.BoolOp .And (b :: rest) pos) tb) : PE X (.BoolOp .And (a :: b :: rest) pos) (tAndV ta tb) := by
  intro pins s σ H Q I h
  refine BoolOp_and (thn (ha pins s σ H _ I h) fun v s1 ⟨x, H1, I1, r1, q1⟩ => ?_)
  obtain ⟨c, rfl, q1⟩ := q1
  cases r1
  refine wpAny_truthy_bool ?_
  cases c with
  | true => exact hb pins s1 σ H1 Q I1 q1
  | false => exact ⟨.bl false, H1, I1, rfl, q1⟩
theorem pe_not (ha : PE X a ta) : PE X (.UnaryOp .Not a pos) (tNotV ta) := by
  intro pins s σ H Q I h
  refine UnaryOp_ (thn (ha pins s σ H _ I h) fun v s1 ⟨x, H1, I1, r1, q1⟩ => ?_)
  obtain ⟨c, rfl, q1⟩ := q1
  cases r1
  exact not_of (wpAny_truthy_bool ⟨.bl (!c), H1, I1, rfl, q1⟩)
/-- a if t else b -/
def tIf (t : TT) (ta tb : TE) : TE := fun σ H Q => t σ H fun c H1 => if c = true then ta σ H1 Q else tb σ H1 Q
theorem pe_ifExp {c : Expr} (hc : PT X c tA) (ha : PE X a ta) (hb : PE X b tb) : PE X (.IfExp c a b pos) (tIf tA ta tb) := by
  intro pins s σ H Q I h
  refine wpAny_IfExp (thn (hc pins s σ H _ I h) fun d s1 ⟨H1, I1, q1⟩ => ?_)
  cases d with
  | true => exact ha pins s1 σ H1 Q I1 q1
  | false => exact hb pins s1 σ H1 Q I1 q1
end
end L2

namespace L2
open PySem PySem.Spec PyProof.Rows

/-! ### a list, a tuple that is read: tracked, frozen, or an object of the module -/
def SqL (K : PySem.W.Frag) (H : Hp) (a : Addr) (xs : List V) : Prop :=
  Rd H a (.lst xs) ∨
    ∃ (o : Obj) (its : Array Value) (n : Nat), K.lookup a = some o ∧ o.cls = .type "list" ∧ o.dict = none ∧ o.data = .seq its n ∧ its.size ≤ sizeLine ∧ Vals xs its.toList
def SqT (K : PySem.W.Frag) (H : Hp) (a : Addr) (xs : List V) : Prop :=
  Rd H a (.tup xs) ∨
    ∃ (o : Obj) (its : Array Value) (n : Nat), K.lookup a = some o ∧ o.cls = .type "tuple" ∧ o.data = .seq its n ∧ its.size ≤ sizeLine ∧ Vals xs its.toList
def absV : Value → Option V
  | .none => some .non
  | .bool b => some (.bl b)
  | .int i _ => some (.int i)
  | .str x _ => some (.str x)
  | .bytes b _ => some (.byt b)
  | .float b _ => some (.flt b)
  | .ref a => some (.ref a)
  | .type n => some (.ty n)
  | _ => none
theorem RelV.abs {x : V} {u : Value} (r : RelV x u) : absV u = some x := by
  cases x with
  | non => cases r; rfl
  | bl _ => cases r; rfl
  | int _ => obtain ⟨t, rfl⟩ := r; rfl
  | str _ => obtain ⟨t, rfl⟩ := r; rfl
  | byt _ => obtain ⟨t, rfl⟩ := r; rfl
  | flt _ => obtain ⟨t, rfl⟩ := r; rfl
  | ref _ => cases r; rfl
  | ty _ => cases r; rfl
theorem RelV.inj {x y : V} {u : Value} (r : RelV x u) (q : RelV y u) : x = y := Option.some.inj (r.abs.symm.trans q.abs)
theorem Vals.inj : ∀ {xs ys : List V} {us : List Value}, Vals xs us → Vals ys us → xs = ys
  | _, _, _, .nil, .nil => rfl
  | _, _, _, .cons r t, .cons r' t' => by rw [r.inj r', Vals.inj t t']
section
variable {X : Cx} {pins : List (Addr × Obj)} {σ : St} {H : Hp} {s : Shared} {a : Addr} {xs ys : List V}
theorem SqL.of {K : PySem.W.Frag} (h : H a = some (.lst xs)) : SqL K H a xs := .inl (.inl h)
theorem SqT.of {K : PySem.W.Frag} (h : H a = some (.tup xs)) : SqT K H a xs := .inl (.inl h)
theorem Inv.list (I : Inv X pins σ H s) (h : SqL X.K H a xs) : ∃ its : List Value, Vals xs its ∧ PlainL s.heap a its.toArray ∧ xs.length ≤ sizeLine := by
  rcases h with h | ⟨o, its, n, hk, hc, hd, hs, hz, r⟩
  · obtain ⟨z, its, n, r, e⟩ := h.ok I.hok
    exact ⟨its, r, ⟨_, n, e, rfl, rfl, rfl⟩, z⟩
  · refine ⟨its.toList, r, ⟨o, n, I.kIn a o hk, hc, hd, by simpa using hs⟩, ?_⟩
    have e := r.length
    simp only [Array.length_toList] at e
    omega
theorem Inv.tuple (I : Inv X pins σ H s) (h : SqT X.K H a xs) : ∃ its : List Value, Vals xs its ∧ IsTup s.heap a its.toArray ∧ xs.length ≤ sizeLine := by
  rcases h with h | ⟨o, its, n, hk, hc, hs, hz, r⟩
  · obtain ⟨z, its, r, p⟩ := h.ok I.hok
    exact ⟨its, r, p, z⟩
  · refine ⟨its.toList, r, ⟨o, I.kIn a o hk, hc, n, by simpa using hs⟩, ?_⟩
    have e := r.length
    simp only [Array.length_toList] at e
    omega
theorem Inv.list_inj (I : Inv X pins σ H s) (h : SqL X.K H a xs) (h' : SqL X.K H a ys) : xs = ys := by
  obtain ⟨its, r, ⟨o, n, e, _, _, d⟩, _⟩ := I.list h
  obtain ⟨its', r', ⟨o', n', e', _, _, d'⟩, _⟩ := I.list h'
  rw [e] at e'; cases e'
  rw [d] at d'
  injection d' with d1 _
  have : its = its' := by simpa using congrArg Array.toList d1
  subst this
  exact r.inj r'
theorem Inv.tuple_inj (I : Inv X pins σ H s) (h : SqT X.K H a xs) (h' : SqT X.K H a ys) : xs = ys := by
  obtain ⟨its, r, ⟨o, e, _, n, d⟩, _⟩ := I.tuple h
  obtain ⟨its', r', ⟨o', e', _, n', d'⟩, _⟩ := I.tuple h'
  rw [e] at e'; cases e'
  rw [d] at d'
  injection d' with d1 _
  have : its = its' := by simpa using congrArg Array.toList d1
  subst this
  exact r.inj r'
end

/-! ### another wish about exceptions -/
abbrev Cx.wish (X : Cx) (E : Value → Shared → Prop) : Cx := { X with xe := E }
/-- no exception leaves -/
abbrev Cx.nox (X : Cx) : Cx := X.wish fun _ _ => False
theorem Cx.Ok.wish {X : Cx} (ok : X.Ok) (E : Value → Shared → Prop) : (X.wish E).Ok :=
  ⟨ok.mod, ok.kind, ok.glob, ok.blt, ok.above, ok.inj, ok.has, ok.cab, ok.hd, ok.frames, ok.stk, ok.exf, ok.bs, ok.bsz, ok.noex, ok.exfs, ok.funs, ok.frf⟩
theorem Cx.Ok.unwish {X : Cx} {E : Value → Shared → Prop} (ok : (X.wish E).Ok) : X.Ok :=
  ⟨ok.mod, ok.kind, ok.glob, ok.blt, ok.above, ok.inj, ok.has, ok.cab, ok.hd, ok.frames, ok.stk, ok.exf, ok.bs, ok.bsz, ok.noex, ok.exfs, ok.funs, ok.frf⟩
section
variable {X : Cx} {pins : List (Addr × Obj)} {σ : St} {H : Hp} {s : Shared} {E : Value → Shared → Prop}
theorem Inv.wish (I : Inv X pins σ H s) (E : Value → Shared → Prop) : Inv (X.wish E) pins σ H s := ⟨I.ok.wish E, I.os, I.bare, I.base, I.loc, I.cell, I.free, I.freeC, I.pin, I.hok, I.len⟩
theorem Inv.unwish (I : Inv (X.wish E) pins σ H s) : Inv X pins σ H s := ⟨I.ok.unwish, I.os, I.bare, I.base, I.loc, I.cell, I.free, I.freeC, I.pin, I.hok, I.len⟩
theorem SP.unwish {D : Ends} {f : Flow} {s' : Shared} (h : SP (X.wish E) pins D f s') : SP X pins D f s' := by
  cases f with
  | next => obtain ⟨σ', H', I, q⟩ := h; exact ⟨σ', H', I.unwish, q⟩
  | brk => obtain ⟨σ', H', I, q⟩ := h; exact ⟨σ', H', I.unwish, q⟩
  | cont => obtain ⟨σ', H', I, q⟩ := h; exact ⟨σ', H', I.unwish, q⟩
  | ret u => obtain ⟨v, σ', H', I, r, q⟩ := h; exact ⟨v, σ', H', I.unwish, r, q⟩
theorem PE.nox {e : Expr} {t : TE} (h : PE X.nox e t) : PE X e t := fun pins s σ H Q I hw =>
  wpAny_mono (h pins s σ H Q (I.wish _) hw) (fun _ _ ⟨v, H', I', r, q⟩ => ⟨v, H', I'.unwish, r, q⟩) fun _ _ z => False.elim z
theorem PT.nox {e : Expr} {t : TT} (h : PT X.nox e t) : PT X e t := fun pins s σ H Q I hw =>
  wpAny_mono (h pins s σ H Q (I.wish _) hw) (fun _ _ ⟨H', I', q⟩ => ⟨H', I'.unwish, q⟩) fun _ _ z => False.elim z
theorem PSs.nox {st : List Stmt} {t : TS} (h : PSs X.nox st t) : PSs X st t := fun pins s σ H D I hw =>
  wpAny_mono (h pins s σ H D (I.wish _) hw) (fun _ _ q => q.unwish) fun _ _ z => False.elim z
end

/-! ### blocks and small statements -/
section
variable {X : Cx} {st : Stmt} {rest : List Stmt} {t u : TS} {e : Expr} {te : TE} {pos : Pos}
def tNext : TS := fun D σ H => D.nx σ H
def tSeq (t u : TS) : TS := fun D σ H => t { D with nx := u D } σ H
theorem pss_nil : PSs X [] tNext := fun _ _ σ H _ I h => wpAny_execs_nil ⟨σ, H, I, h⟩
theorem pss_cons (h1 : PS X st t) (h2 : PSs X rest u) : PSs X (st :: rest) (tSeq t u) := by
  intro pins s σ H D I h
  refine wpAny_execs_cons (thn (h1 pins s σ H { D with nx := u D } I h) fun f s1 q => ?_)
  cases f with
  | next =>
    obtain ⟨σ', H', I', q⟩ := q
    exact h2 pins s1 σ' H' D I' q
  | ret v => exact q
  | brk => exact q
  | cont => exact q
theorem pss_one (h1 : PS X st t) : PSs X [st] t := by
  intro pins s σ H D I h
  refine wpAny_execs_cons (thn (h1 pins s σ H D I h) fun f s1 q => ?_)
  cases f with
  | next => exact wpAny_execs_nil q
  | ret v => exact q
  | brk => exact q
  | cont => exact q
def tBreak : TS := fun D σ H => D.bk σ H
def tCont : TS := fun D σ H => D.ct σ H
/-- in a def's body nothing is shown -/
theorem Inv.quiet {pins : List (Addr × Obj)} {σ : St} {H : Hp} {s : Shared} (I : Inv X pins σ H s) : interactive X.env = false := by simp [interactive, I.ok.kind]
/-- an expression whose value is dropped -/
def tDrop (te : TE) : TS := fun D σ H => te σ H fun _ H1 => D.nx σ H1
theorem ps_expr (he : PE X e te) (hs : swapsWith e none pos.line X.env = pure false := by rfl) : PS X (.Expr e pos) (tDrop te) := by
  intro pins s σ H D I h
  exact wpAny_Expr_any (thn (he pins s σ H _ I h) fun v s1 ⟨x, H1, I1, r1, q1⟩ => ⟨σ, H1, I1, q1⟩) I.quiet hs
def tRet (te : TE) : TS := fun D σ H => te σ H D.rt
theorem ps_ret (he : PE X e te) : PS X (.Return (some e) pos) (tRet te) := by
  intro pins s σ H D I h
  exact wpAny_Return_some (thn (he pins s σ H _ I h) fun v s1 ⟨x, H1, I1, r1, q1⟩ => ⟨x, σ, H1, I1, r1, q1⟩)
def tRetN : TS := fun D _ H => D.rt .non H
def tIfS (c : TT) (t u : TS) : TS := fun D σ H => c σ H fun b H1 => if b = true then t D σ H1 else u D σ H1
theorem ps_if {c : Expr} {a b : List Stmt} {tc : TT} (hc : PT X c tc) (ha : PSs X a t) (hb : PSs X b u) : PS X (.If c a b pos) (tIfS tc t u) := by
  intro pins s σ H D I h
  refine wpAny_If (thn (hc pins s σ H _ I h) fun d s1 ⟨H1, I1, q1⟩ => ?_)
  cases d with
  | true => exact ha pins s1 σ H1 D I1 q1
  | false => exact hb pins s1 σ H1 D I1 q1
/-- code that the proof never comes to -/
def tNever : TS := fun _ _ _ => False
theorem ps_never : PS X st tNever := fun _ _ _ _ _ _ h => h.elim
end

/-! ### targets -/
abbrev TG := V → St → Hp → (St → Hp → Prop) → Prop
abbrev TGs := List V → St → Hp → (St → Hp → Prop) → Prop
def PG (X : Cx) (target : Expr) (t : TG) : Prop :=
  ∀ (pins : List (Addr × Obj)) (s : Shared) (σ : St) (H : Hp) (v : V) (u : Value) (Q : St → Hp → Prop), Inv X pins σ H s → RelV v u → t v σ H Q →
    wpAny (model X.prog X.w) X.A (assign target X.env u) (fun _ s' => ∃ σ' H', Inv X pins σ' H' s' ∧ Q σ' H') X.xe s
/-- several targets, one after another -/
def PGs (X : Cx) (ts : List Expr) (t : TGs) : Prop :=
  ∀ (pins : List (Addr × Obj)) (s : Shared) (σ : St) (H : Hp) (vs : List V) (us : List Value) (Q : St → Hp → Prop), Inv X pins σ H s → Vals vs us → t vs σ H Q →
    wpAny (model X.prog X.w) X.A (assignInOrder ((assignEach ts X.env).map (·.2)) us) (fun _ s' => ∃ σ' H', Inv X pins σ' H' s' ∧ Q σ' H') X.xe s
/-- o[i] = v, by values -/
abbrev TSet := V → V → V → Hp → (Hp → Prop) → Prop
def PSet (X : Cx) (t : TSet) : Prop :=
  ∀ (pins : List (Addr × Obj)) (s : Shared) (σ : St) (H : Hp) (o i v : V) (ov iv u : Value) (Q : Hp → Prop), Inv X pins σ H s → RelV o ov → RelV i iv → RelV v u → t o i v H Q →
    wpAny (model X.prog X.w) X.A (setItem ov iv u) (fun _ s' => ∃ H', Inv X pins σ H' s' ∧ Q H') X.xe s
/-- a op= b, by values -/
abbrev TIp := V → V → Hp → VK → Prop
def PIp (X : Cx) (op : Operator) (t : TIp) : Prop :=
  ∀ (pins : List (Addr × Obj)) (s : Shared) (σ : St) (H : Hp) (x y : V) (v u : Value) (Q : VK), Inv X pins σ H s → RelV x v → RelV y u → t x y H Q →
    wpAny (model X.prog X.w) X.A (inplaceOp op v u) (EP X pins σ Q) X.xe s
section
variable {X : Cx} {pos : Pos}
def gName (i : Nat) : TG := fun v σ H Q => Q (σ.set i (some v)) H
theorem pg_name {i : Nat} {x : Str} (hN : X.N.Nodup) (hi : X.N[i]? = some x) (hx : Loc X.env.scope x) (hf : X.fn x = true ∨ X.env.scope.names.lookup x = some .local := by first | exact .inl rfl | exact .inr rfl | assumption) : PG X (.Name x pos) (gName i) := by
  intro pins s σ H v u Q I r h
  exact wpAny_assign_Name (store_ok I hN hi hx r (fun s' I' => ⟨_, H, I', h⟩) hf)
def gNil : TGs := fun vs σ H Q => vs = [] ∧ Q σ H
def gCons (t : TG) (u : TGs) : TGs := fun vs σ H Q => ∃ v r, vs = v :: r ∧ t v σ H fun σ' H' => u r σ' H' Q
theorem pgs_nil : PGs X [] gNil := by
  intro pins s σ H vs us Q I r h
  obtain ⟨e, h⟩ := h
  subst e
  cases r
  exact assignInOrder_nil ⟨σ, H, I, h⟩
theorem pgs_cons {e : Expr} {es : List Expr} {t : TG} {u : TGs} (h1 : PG X e t) (h2 : PGs X es u)
    (hs : (assignEach (e :: es) X.env).map (·.2) = assign e X.env :: (assignEach es X.env).map (·.2) := by rfl) : PGs X (e :: es) (gCons t u) := by
  intro pins s σ H vs us Q I r h
  obtain ⟨v, vr, e1, h⟩ := h
  subst e1
  cases r with
  | cons r rr =>
    rw [hs]
    refine assignInOrder_cons (thn (h1 pins s σ H _ _ _ I r h) fun _ s1 ⟨σ1, H1, I1, q1⟩ => ?_)
    exact h2 pins s1 σ1 H1 _ _ Q I1 rr q1
/-- (a, b, ..) = a tuple of that length -/
def gTup (K : PySem.W.Frag) (n : Nat) (t : TGs) : TG := fun v σ H Q => ∃ a xs, v = .ref a ∧ SqT K H a xs ∧ xs.length = n ∧ t xs σ H Q
theorem pg_tup {es : List Expr} {k : Nat} {t : TGs} {n : Nat} (hc : X.calm = true) (h : PGs X es t)
    (hn : (assignEach es X.env).length = n := by rfl) (hst : (assignEach es X.env).findIdx? (·.1) = none := by rfl) : PG X (.Tuple es k pos) (gTup X.K n t) := by
  intro pins s σ H v u Q I r hw
  obtain ⟨a, xs, e1, hq, hl, hw⟩ := hw
  subst e1
  cases r
  obtain ⟨its, rv, ht, hz⟩ := I.tuple hq
  refine assign_Tuple_tuple (I.ok.hd hc) ht (by simp [hn, ← hl, rv.length]) hst fun h' hx => ?_
  have I1 : Inv X pins σ H { s with heap := h' } := I.kept (t' := s.toks) fun b o e => hx b o (Nat.ne_of_lt (Heap.lt_size e)) e
  exact h pins _ σ H xs _ Q I1 (by simpa using rv) hw
/-- o[i] = .. -/
def gSub (to ti : TE) (t : TSet) : TG := fun v σ H Q => to σ H fun o H1 => ti σ H1 fun i H2 => t o i v H2 fun H3 => Q σ H3
/-- target = value -/
def tAsg (te : TE) (g : TG) : TS := fun D σ H => te σ H fun x H1 => g x σ H1 D.nx
/-- name = value -/
theorem ps_set {i : Nat} {x : Str} {e : Expr} {te : TE} {pos' : Pos} (hN : X.N.Nodup) (hi : X.N[i]? = some x) (hx : Loc X.env.scope x) (he : PE X e te) (hs : swapsWith e (some (.Name x pos')) pos.line X.env = pure false := by rfl) (hf : X.fn x = true ∨ X.env.scope.names.lookup x = some .local := by first | exact .inl rfl | exact .inr rfl | assumption) :
    PS X (.Assign [.Name x pos'] e pos) (tAsg te (gName i)) := by
  intro pins s σ H D I h
  refine wpAny_Assign_Name (thn (he pins s σ H _ I h) fun v s1 ⟨y, H1, I1, r1, q1⟩ => ?_) hs
  exact store_ok I1 hN hi hx r1 (fun s2 I2 => ⟨_, H1, I2, q1⟩) hf
/-- a, b = x, y with plain local names: stored from the right; the pair itself is not tracked (the opening rows as in PyProof/Rows/TupAssign.lean:23) -/
def tPar (i j : Nat) (ta : TA) : TS := fun D σ H => ta σ H fun vs H1 => ∃ v w, vs = [v, w] ∧ D.nx ((σ.set i (some v)).set j (some w)) H1
/-- name op= e -/
def tAug (i : Nat) (te : TE) (ti : TIp) : TS := fun D σ H => ∃ x, σ[i]? = some (some x) ∧ te σ H fun y H1 => ti x y H1 fun z H2 => D.nx (σ.set i (some z)) H2
theorem ps_aug {i : Nat} {x : Str} {e : Expr} {te : TE} {op : Operator} {ti : TIp} {pos' : Pos} (hN : X.N.Nodup) (hi : X.N[i]? = some x) (hx : Loc X.env.scope x) (he : PE X e te) (ho : PIp X op ti) (hf : X.fn x = true ∨ X.env.scope.names.lookup x = some .local := by first | exact .inl rfl | exact .inr rfl | assumption) :
    PS X (.AugAssign (.Name x pos') op e pos) (tAug i te ti) := by
  intro pins s σ H D I h
  obtain ⟨v, e1, h⟩ := h
  obtain ⟨m, hn, hl⟩ := I.loc
  have vis : Vis X.env.scope x := by rcases hx with k | k; exact .inl k; exact .inr (.inl k)
  obtain ⟨u, r, l⟩ := hl i x v hi e1 vis
  refine wpAny_AugAssign_Name ?_
  have go : wpAny (model X.prog X.w) X.A (eval e X.env) (fun w s₂ => wpAny (model X.prog X.w) X.A (inplaceOp op u w) (fun r s₃ => wpAny (model X.prog X.w) X.A (storeName X.env x r) (fun _ => SP X pins D .next) X.xe s₃) X.xe s₂) X.xe s := by
    refine thn (he pins s σ H _ I h) fun w s1 ⟨y, H1, I1, r1, q1⟩ => ?_
    refine thn (ho pins s1 σ H1 v y u w _ I1 r r1 q1) fun z s2 ⟨zv, H2, I2, r2, q2⟩ => ?_
    exact store_ok I2 hN hi hx r2 (fun s3 I3 => ⟨_, H2, I3, q2⟩) hf
  rcases l with ⟨hk, hm⟩ | ⟨hk, c, hc, hcell⟩
  · exact wpAny_loadName_local I.ok.kind hk hn hm go
  · rcases hk with hk | hk
    · exact wpAny_loadName_cell I.ok.kind hk hc hcell go
    · rcases hx with k | k
      · have : X.env.scope.names.lookup x = some .free := hk
        rw [k] at this; cases this
      · have : X.env.scope.names.lookup x = some .free := hk
        rw [k] at this; cases this
/-- o[i] op= e -/
def tAugS (to ti te : TE) (tget : V → V → Hp → VK → Prop) (tip : TIp) (tset : TSet) : TS := fun D σ H => to σ H fun o H1 => ti σ H1 fun i H2 => tget o i H2 fun x H3 => te σ H3 fun y H4 => tip x y H4 fun z H5 => tset o i z H5 fun H6 => D.nx σ H6
/-- o[i], by values -/
def PGet (X : Cx) (t : V → V → Hp → VK → Prop) : Prop :=
  ∀ (pins : List (Addr × Obj)) (s : Shared) (σ : St) (H : Hp) (o i : V) (ov iv : Value) (Q : VK), Inv X pins σ H s → RelV o ov → RelV i iv → t o i H Q →
    wpAny (model X.prog X.w) X.A (getItem ov iv) (EP X pins σ Q) X.xe s
/-- ints -/
def ipI (f : Int → Int → Int) : TIp := fun x y H Q => ∃ i j, x = .int i ∧ y = .int j ∧ Q (.int (f i j)) H
end

/-! ### while -/
section
variable {X : Cx} {pos : Pos}
/-- the invariant W with its measure -/
def tWhile (c : TT) (tb : TS) : TS := fun D σ H => ∃ W : Nat → St → Hp → Prop, (∃ m, W m σ H) ∧ ∀ m σ H, W m σ H →
  c σ H fun b H1 => if b = true then ∃ N : St → Hp → Prop, (∀ σ' H', N σ' H' → ∃ m', m' < m ∧ W m' σ' H') ∧ tb { D with nx := N, ct := N, bk := D.nx } σ H1 else D.nx σ H1
end

/-! ### what a loop or a comprehension walks -/
/-- at turn i: it yields x (the heap may grow), or it stops -/
structure It where
  go : Nat → Hp → Prop
  yld : Nat → Hp → V → Hp → Prop
  stop : Nat → Hp → Prop
/-- the iterator's own objects may turn: they are not the frame's, not pinned, younger than the entry (or a comprehension's own) -/
def FpOk (X : Cx) (pins : List (Addr × Obj)) (H : Hp) (b : Addr) : Prop :=
  H b = none ∧ b ≠ X.env.locals ∧ b ∉ X.fs ∧ (b ∈ X.ex ∨ X.s₀.heap.objs.size ≤ b) ∧ (∀ x c, X.env.cells.lookup x = some c → c ≠ b) ∧ ∀ p ∈ X.pn ++ pins, p.1 ≠ b
theorem Inv.fpOk {X : Cx} {pins : List (Addr × Obj)} {σ : St} {H H' : Hp} {s : Shared} {b : Addr} (I : Inv X pins σ H s) (hb : s.heap.objs.size ≤ b) (hn : H' b = none) : FpOk X pins H' b := by
  refine ⟨hn, Nat.ne_of_gt (Nat.lt_of_lt_of_le I.lt hb), I.nofs hb, .inr (Nat.le_trans I.sz hb), fun x c e z => ?_, fun p hp z => ?_⟩
  · obtain ⟨v, q⟩ := I.cell x c e
    exact absurd (Nat.lt_of_lt_of_le q.lt (by rw [z]; exact hb)) (Nat.lt_irrefl _)
  · exact absurd (Nat.lt_of_lt_of_le (Heap.lt_size (I.pin p hp).1) (by rw [z]; exact hb)) (Nat.lt_irrefl _)
structure Turn (P : Program) (w : World) (K : PySem.W.Frag) (tg : Expr) (J : It) (fp : List Addr) (it : Addr) (tn : Nat → Heap → Prop) : Prop where
  mem : it ∈ fp
  obj : ∀ i h, tn i h → ∀ b ∈ fp, ∃ o, h.get? b = some o ∧ ∀ v, o.data ≠ .cell v
  keep : ∀ i h h', tn i h → (∀ b ∈ fp, ∀ o, h.get? b = some o → h'.get? b = some o) → tn i h'
  item : ∀ (X : Cx), X.prog = P → X.w = w → X.K = K → X.calm = true → ∀ (i : Nat) (pins : List (Addr × Obj)) (s : Shared) (σ : St) (H : Hp) (E : Value → Shared → Prop), Inv X pins σ H s → (∀ b ∈ fp, FpOk X pins H b) → tn i s.heap → J.go i H →
    wpAny (model P w) X.A (pyNext (.ref it)) (fun r s1 => ∃ u, r = some u ∧
      wpAny (model P w) X.A (letOwnedTupleGo tg (.ref it) u) (fun _ s2 => ∃ x H', Inv X pins σ H' s2 ∧ RelV x u ∧ J.yld i H x H' ∧ tn (i + 1) s2.heap ∧ ∀ b ∈ fp, H' b = none) E s1) E s
  done : ∀ (X : Cx), X.prog = P → X.w = w → X.K = K → X.calm = true → ∀ (i : Nat) (pins : List (Addr × Obj)) (s : Shared) (σ : St) (H : Hp) (E : Value → Shared → Prop), Inv X pins σ H s → (∀ b ∈ fp, FpOk X pins H b) → tn i s.heap → J.stop i H →
    wpAny (model P w) X.A (pyNext (.ref it)) (fun r s1 => r = none ∧ Inv X pins σ H s1) E s
  self : ∀ (A : Around) (i : Nat) (s : Shared) (Q : Value → Shared → Prop) (E : Value → Shared → Prop), tn i s.heap → Q (.ref it) s → wpAny (model P w) A (pyIter (.ref it)) Q E s
abbrev TI := St → Hp → (It → Hp → Prop) → Prop
/-- an iterator has come -/
def PIE (X : Cx) (pins : List (Addr × Obj)) (σ : St) (tg : Expr) (R : It → Hp → Prop) (itv : Value) (s2 : Shared) : Prop :=
  ∃ (it : Addr) (fp : List Addr) (tn : Nat → Heap → Prop) (J : It) (H' : Hp), itv = .ref it ∧ Inv X pins σ H' s2 ∧ Turn X.prog X.w X.K tg J fp it tn ∧ tn 0 s2.heap ∧ (∀ b ∈ fp, FpOk X pins H' b) ∧ R J H'
def PI (X : Cx) (tg iter : Expr) (wi : TI) : Prop :=
  ∀ (pins : List (Addr × Obj)) (s : Shared) (σ : St) (H : Hp) (R : It → Hp → Prop), Inv X pins σ H s → wi σ H R →
    wpAny (model X.prog X.w) X.A (eval iter X.env) (fun v s1 => wpAny (model X.prog X.w) X.A (pyIter v) (PIE X pins σ tg R) X.xe s1) X.xe s

/-- the step ahead of the store is nothing for an iterator that keeps no tuple -/
theorem go_of {M : Model} {A : Around} {E : Value → Shared → Prop} {s : Shared} {tg : Expr} {it : Addr} {u : Value} {o : Obj} {n : String} {vs : Array Value} {Q : Unit → Shared → Prop} (ho : s.heap.get? it = some o) (hc : o.cls = .type n) (hd : o.data = .fields vs)
    (hn : ["enumerate", "zip", "dict_itemiterator", "dict_reverseitemiterator", "odict_iterator", "itertools.zip_longest", "itertools.pairwise"].contains n = false) (hQ : Q () s) : wpAny M A (letOwnedTupleGo tg (.ref it) u) Q E s := by
  unfold letOwnedTupleGo
  cases tg <;> first
    | exact wpAny_pure hQ
    | (cases u <;> first
        | exact wpAny_pure hQ
        | (refine wpAny_bind (wpAny_load ho ?_)
           rw [hc, hd]
           show wpAny M A (if (["enumerate", "zip", "dict_itemiterator", "dict_reverseitemiterator", "odict_iterator", "itertools.zip_longest", "itertools.pairwise"].contains n && vs[0]? == some (rawInt _)) = true then _ else _) Q E s
           rw [if_neg (by intro h; rw [hn, Bool.false_and] at h; cases h)]
           exact wpAny_pure hQ))

/-- the list at a, as it stands at each turn (a loop may append to it) -/
def Itl (K : PySem.W.Frag) (a : Addr) : It :=
  ⟨fun i H => ∃ xs x, SqL K H a xs ∧ xs[i]? = some x, fun i H x H' => H' = H ∧ ∀ xs, SqL K H a xs → xs[i]? = some x, fun i H => ∃ xs, SqL K H a xs ∧ xs.length ≤ i⟩
def Itt (K : PySem.W.Frag) (a : Addr) : It :=
  ⟨fun i H => ∃ xs x, SqT K H a xs ∧ xs[i]? = some x, fun i H x H' => H' = H ∧ ∀ xs, SqT K H a xs → xs[i]? = some x, fun i H => ∃ xs, SqT K H a xs ∧ xs.length ≤ i⟩
/-- lo, lo + 1, .. (n of them) -/
def Itr (lo : Int) (n : Nat) : It := ⟨fun i _ => i < n, fun i H x H' => H' = H ∧ x = .int (lo + i), fun i _ => n ≤ i⟩
theorem turn_list {P : Program} {w : World} {K : PySem.W.Frag} {tg : Expr} (a it : Addr) : Turn P w K tg (Itl K a) [it] it (fun i h => h.IsListIter it a i) where
  mem := by simp
  obj := fun i h st b hb => by
    have e : b = it := by simpa using hb
    subst e
    obtain ⟨o, e, c, d⟩ := st
    exact ⟨o, e, fun v z => by rw [d] at z; cases z⟩
  keep := fun i h h' st k => st.at fun o e => k it (by simp) o e
  item := by
    intro X hP hw hK hc i pins s σ H E I hf st hg
    subst hP hw hK
    obtain ⟨xs, x, hq, hx⟩ := hg
    obtain ⟨its, rv, p, hz⟩ := I.list hq
    obtain ⟨u, hu, ru⟩ := rv.get hx
    obtain ⟨f0, f1, f2, f3, f4, f5⟩ := hf it (by simp)
    refine wpAny_pyNext_list_item st p.isList (x := u) (by simpa using hu) fun h' st' sb => ?_
    have I1 : Inv X pins σ H { s with heap := h' } := I.turned (t' := s.toks) (fun b o hb e => (sb.2 b hb).trans e) f0 f1 f3 f4 f5
    obtain ⟨o, e, c, d⟩ := id st'
    exact ⟨u, rfl, go_of (s := { s with heap := h' }) e c d (by decide) ⟨x, H, I1, ru, ⟨rfl, fun ys hy => by rw [I.list_inj hy hq]; exact hx⟩, st', fun b hb => (hf b hb).1⟩⟩
  done := by
    intro X hP hw hK hc i pins s σ H E I hf st hg
    subst hP hw hK
    obtain ⟨xs, hq, hx⟩ := hg
    obtain ⟨its, rv, p, hz⟩ := I.list hq
    obtain ⟨f0, f1, f2, f3, f4, f5⟩ := hf it (by simp)
    have hl := rv.length
    exact wpAny_pyNext_list_end (I.ok.hd hc) st p.isList (by simp; omega) fun h' eb => ⟨rfl, I.turned (t' := s.toks) (fun b o hb e => eb b o hb e) f0 f1 f3 f4 f5⟩
  self := fun _ _ _ _ _ st h => wpAny_pyIter_listiter st h
theorem turn_tuple {P : Program} {w : World} {K : PySem.W.Frag} {tg : Expr} (a it : Addr) : Turn P w K tg (Itt K a) [it] it (fun i h => h.IsTupleIter it a i) where
  mem := by simp
  obj := fun i h st b hb => by
    have e : b = it := by simpa using hb
    subst e
    obtain ⟨o, e, c, d⟩ := st
    exact ⟨o, e, fun v z => by rw [d] at z; cases z⟩
  keep := fun i h h' st k => st.at fun o e => k it (by simp) o e
  item := by
    intro X hP hw hK hc i pins s σ H E I hf st hg
    subst hP hw hK
    obtain ⟨xs, x, hq, hx⟩ := hg
    obtain ⟨its, rv, p, hz⟩ := I.tuple hq
    obtain ⟨u, hu, ru⟩ := rv.get hx
    obtain ⟨f0, f1, f2, f3, f4, f5⟩ := hf it (by simp)
    refine wpAny_pyNext_tuple_item st (show s.heap.IsTuple a its.toArray from p) (x := u) (by simpa using hu) fun h' st' sb => ?_
    have I1 : Inv X pins σ H { s with heap := h' } := I.turned (t' := s.toks) (fun b o hb e => (sb.2 b hb).trans e) f0 f1 f3 f4 f5
    obtain ⟨o, e, c, d⟩ := id st'
    exact ⟨u, rfl, go_of (s := { s with heap := h' }) e c d (by decide) ⟨x, H, I1, ru, ⟨rfl, fun ys hy => by rw [I.tuple_inj hy hq]; exact hx⟩, st', fun b hb => (hf b hb).1⟩⟩
  done := by
    intro X hP hw hK hc i pins s σ H E I hf st hg
    subst hP hw hK
    obtain ⟨xs, hq, hx⟩ := hg
    obtain ⟨its, rv, p, hz⟩ := I.tuple hq
    obtain ⟨f0, f1, f2, f3, f4, f5⟩ := hf it (by simp)
    have hl := rv.length
    exact wpAny_pyNext_tuple_end (I.ok.hd hc) st (show s.heap.IsTuple a its.toArray from p) (by simp; omega) fun h' eb => ⟨rfl, I.turned (t' := s.toks) (fun b o hb e => eb b o hb e) f0 f1 f3 f4 f5⟩
  self := fun _ _ _ _ _ st h => wpAny_pyIter_tupleiter st h
theorem turn_range {P : Program} {w : World} {K : PySem.W.Frag} {tg : Expr} (it : Addr) (lo : Int) (n : Nat) : Turn P w K tg (Itr lo n) [it] it (fun i h => IsRangeIter h it (lo + (i : Nat) * 1) ((n : Int) - (i : Nat)) 1) where
  mem := by simp
  obj := fun i h st b hb => by
    have e : b = it := by simpa using hb
    subst e
    exact ⟨_, st, fun v z => by
      have z' : Data.fields _ = Data.cell v := z
      cases z'⟩
  keep := fun i h h' st k => k it (by simp) _ st
  item := by
    intro X hP hw hK hc i pins s σ H E I hf st hg
    subst hP hw hK
    obtain ⟨f0, f1, f2, f3, f4, f5⟩ := hf it (by simp)
    have W := Walks.range (prog := X.prog) (w := X.w) (I.ok.hd hc) it lo 1 n
    refine W.item i s _ _ hg st fun v h' tk hv st' kk => ?_
    obtain ⟨t, rfl⟩ := hv
    have I1 : Inv X pins σ H { s with heap := h', toks := tk } := I.turned (fun b o hb e => kk b o (by simpa using hb) e) f0 f1 f3 f4 f5
    refine ⟨_, rfl, go_of (s := { s with heap := h', toks := tk }) (n := "range_iterator") st' rfl rfl (by decide) ⟨.int (lo + i), H, I1, ⟨t, ?_⟩, ⟨rfl, rfl⟩, st', fun b hb => (hf b hb).1⟩⟩
    rw [Int.mul_one]
  done := by
    intro X hP hw hK hc i pins s σ H E I hf st hg
    subst hP hw hK
    obtain ⟨f0, f1, f2, f3, f4, f5⟩ := hf it (by simp)
    exact wpAny_pyNext_range_end (I.ok.hd hc) st (by have : n ≤ i := hg; omega) fun h' eb => ⟨rfl, I.turned (t' := s.toks) (fun b o hb e => eb b o hb e) f0 f1 f3 f4 f5⟩
  self := fun _ _ _ _ _ st h => wpAny_pyIter_rangeiter st h
end L2

namespace L2
open PySem PySem.Spec PyProof.Rows
section
variable {X : Cx} {tg : Expr}
def iList (K : PySem.W.Frag) (tl : TE) : TI := fun σ H R => tl σ H fun x H1 => ∃ a, x = .ref a ∧ (∃ xs, SqL K H1 a xs) ∧ R (Itl K a) H1
def iTup (K : PySem.W.Frag) (tl : TE) : TI := fun σ H R => tl σ H fun x H1 => ∃ a, x = .ref a ∧ (∃ xs, SqT K H1 a xs) ∧ R (Itt K a) H1
theorem pi_list {l : Expr} {tl : TE} (hl : PE X l tl) : PI X tg l (iList X.K tl) := by
  intro pins s σ H R I h
  refine thn (hl pins s σ H _ I h) fun v s1 ⟨x, H1, I1, r1, q1⟩ => ?_
  obtain ⟨a, e, ⟨xs, hq⟩, q⟩ := q1
  subst e
  cases r1
  obtain ⟨its, rv, p, hz⟩ := I1.list hq
  refine wpAny_pyIter_list p.isList ?_
  refine ⟨s1.heap.objs.size, [s1.heap.objs.size], _, _, H1, rfl, I1.kept (t' := s1.toks) fun b o e => Heap.get?_push_of_some _ e, turn_list a _, ⟨_, Heap.get?_push_size _ rfl, rfl, rfl⟩, fun b hb => ?_, q⟩
  have e : b = s1.heap.objs.size := by simpa using hb
  subst e
  exact I1.fpOk (Nat.le_refl _) (I1.hok.fresh (Nat.le_refl _))
theorem pi_tup {l : Expr} {tl : TE} (hl : PE X l tl) : PI X tg l (iTup X.K tl) := by
  intro pins s σ H R I h
  refine thn (hl pins s σ H _ I h) fun v s1 ⟨x, H1, I1, r1, q1⟩ => ?_
  obtain ⟨a, e, ⟨xs, hq⟩, q⟩ := q1
  subst e
  cases r1
  obtain ⟨its, rv, p, hz⟩ := I1.tuple hq
  refine wpAny_pyIter_tuple (show s1.heap.IsTuple a its.toArray from p) ?_
  refine ⟨s1.heap.objs.size, [s1.heap.objs.size], _, _, H1, rfl, I1.kept (t' := s1.toks) fun b o e => Heap.get?_push_of_some _ e, turn_tuple a _, ⟨_, Heap.get?_push_size _ rfl, rfl, rfl⟩, fun b hb => ?_, q⟩
  have e : b = s1.heap.objs.size := by simpa using hb
  subst e
  exact I1.fpOk (Nat.le_refl _) (I1.hok.fresh (Nat.le_refl _))
/-- a range object just made, walked -/
theorem range_it {pins : List (Addr × Obj)} {σ : St} {H : Hp} {s : Shared} {R : It → Hp → Prop} {E : Value → Shared → Prop} {lo hi : Int} {t u v : Tok} {tk : Nat} (I : Inv X pins σ H s) (h1 : -(2 ^ 62) ≤ lo) (h2 : lo < 2 ^ 62) (h3 : -(2 ^ 62) ≤ hi) (h4 : hi < 2 ^ 62)
    (q : R (Itr lo (hi - lo).toNat) H) : wpAny (model X.prog X.w) X.A (pyIter (.ref s.heap.objs.size)) (PIE X pins σ tg R) E { s with heap := s.heap.push { cls := .type "range", data := .fields #[.int lo t, .int hi u, .int 1 v] }, toks := tk } := by
  refine wpAny_pyIter_range (IsRange.new ..) (small_one h1 h2 h3 h4) ?_
  have I1 : Inv X pins σ H { s with heap := s.heap.push { cls := .type "range", data := .fields #[.int lo t, .int hi u, .int 1 v] }, toks := tk } := I.kept fun b o e => Heap.get?_push_of_some _ e
  refine ⟨(s.heap.push { cls := .type "range", data := .fields #[.int lo t, .int hi u, .int 1 v] }).objs.size, [(s.heap.push { cls := .type "range", data := .fields #[.int lo t, .int hi u, .int 1 v] }).objs.size], _, _, H, rfl,
    I1.kept (t' := tk) fun b o e => Heap.get?_push_of_some _ e, turn_range _ lo (hi - lo).toNat, ?_, fun b hb => ?_, q⟩
  · have e1 : lo + ((0 : Nat) : Int) * 1 = lo := by simp
    have e2 : (((hi - lo).toNat : Nat) : Int) - ((0 : Nat) : Int) = Builtin.Range.rangeSize lo hi 1 := by rw [rangeSize_one]; split <;> omega
    show IsRangeIter _ _ (lo + ((0 : Nat) : Int) * 1) ((((hi - lo).toNat : Nat) : Int) - ((0 : Nat) : Int)) 1
    rw [e1, e2]
    exact Heap.get?_push_size _ rfl
  · have e : b = (s.heap.push { cls := .type "range", data := .fields #[.int lo t, .int hi u, .int 1 v] }).objs.size := by simpa using hb
    subst e
    exact I1.fpOk (Nat.le_refl _) (I1.hok.fresh (Nat.le_refl _))
def iRng1 (ta : TA) : TI := fun σ H R => ta σ H fun vs H1 => ∃ j : Int, vs = [.int j] ∧ -(2 ^ 62) ≤ j ∧ j < 2 ^ 62 ∧ R (Itr 0 j.toNat) H1
def iRng2 (ta : TA) : TI := fun σ H R => ta σ H fun vs H1 => ∃ i j : Int, vs = [.int i, .int j] ∧ (-(2 ^ 62) ≤ i ∧ i < 2 ^ 62 ∧ -(2 ^ 62) ≤ j ∧ j < 2 ^ 62) ∧ R (Itr i (j - i).toNat) H1
theorem pi_range1 {a : Expr} {ta : TA} {p pos : Pos} (hg : Gl X "range") (hm : X.mg "range" = none) (ha : PA X [a] ta) (hs : starEach [a] X.env = [(false, eval a X.env)] := by rfl) : PI X tg (.Call (.Name "range" p) [a] [] pos) (iRng1 ta) := by
  intro pins s σ H R I h
  refine Call_ (ld_blt I hg hm boot_range (PyProof.Rows.callWith_type1 (thn (ha pos pins s σ H _ I h) fun us s1 ⟨vs, H1, I1, r1, q1⟩ => ?_) hs rfl))
  obtain ⟨j, e, q1, q2, q⟩ := q1
  subst e
  cases r1 with
  | cons r rr =>
    cases rr
    obtain ⟨t, rfl⟩ := r
    exact call_range_1 (range_it I1 (by omega) (by omega) q1 q2 (by simpa using q))
/-! ### for -/
/-- W: the invariant by the turn and a measure; N: what the body is to reach -/
def tFor (wi : TI) (g : TG) (tb : TS) : TS := fun D σ H => wi σ H fun J H1 => ∃ W : Nat → Nat → St → Hp → Prop, (∃ m, W 0 m σ H1) ∧ ∀ i m σ H, W i m σ H →
  (J.stop i H ∧ D.nx σ H) ∨ (J.go i H ∧ ∃ N : St → Hp → Prop, (∀ σ' H', N σ' H' → ∃ m', m' < m ∧ W (i + 1) m' σ' H') ∧ ∀ x H', J.yld i H x H' → g x σ H' fun σ2 H2 => tb { D with nx := N, ct := N, bk := D.nx } σ2 H2)
/-- the records at fp as they stand -/
def pinsAt (fp : List Addr) (h : Heap) : List (Addr × Obj) := fp.filterMap fun b => (h.get? b).map fun o => (b, o)
theorem mem_pinsAt {fp : List Addr} {h : Heap} {b : Addr} {o : Obj} (hb : b ∈ fp) (e : h.get? b = some o) : (b, o) ∈ pinsAt fp h := List.mem_filterMap.mpr ⟨b, hb, by rw [e]; rfl⟩
theorem of_pinsAt {fp : List Addr} {h : Heap} {p : Addr × Obj} (hp : p ∈ pinsAt fp h) : p.1 ∈ fp ∧ h.get? p.1 = some p.2 := by
  obtain ⟨b, hb, e⟩ := List.mem_filterMap.mp hp
  cases q : h.get? b with
  | none => rw [q] at e; cases e
  | some o =>
    rw [q] at e
    have e' : (b, o) = p := Option.some.inj e
    subst e'
    exact ⟨hb, q⟩
theorem Inv.pinned {pins : List (Addr × Obj)} {σ : St} {H : Hp} {s : Shared} {fp : List Addr} (I : Inv X pins σ H s) (hf : ∀ b ∈ fp, FpOk X pins H b) (ho : ∀ b ∈ fp, ∃ o, s.heap.get? b = some o ∧ ∀ v, o.data ≠ .cell v) : Inv X (pins ++ pinsAt fp s.heap) σ H s :=
  I.pins_of fun p hp => (List.mem_append.mp hp).elim (fun z => I.pin p (List.mem_append_right _ z)) fun z => by
    obtain ⟨hb, e⟩ := of_pinsAt z
    obtain ⟨f0, f1, f2, _⟩ := hf p.1 hb
    obtain ⟨o, e', d⟩ := ho p.1 hb
    rw [e] at e'; cases e'
    exact ⟨e, f0, f1, f2, d⟩
theorem Inv.unpinned {pins pl : List (Addr × Obj)} {σ : St} {H : Hp} {s : Shared} (I : Inv X (pins ++ pl) σ H s) : Inv X pins σ H s := I.pins_of fun p hp => I.pin p (List.mem_append_right _ (List.mem_append_left _ hp))
theorem ps_for {iter : Expr} {body : List Stmt} {wi : TI} {g : TG} {tb : TS} {pos : Pos} (hp : PassesOwn (model X.prog X.w) X.A X.env X.xe) (hc : X.calm = true) (hi : PI X tg iter wi) (hg : PG X tg g) (hb : PSs X body tb)
    (hs : ∀ x, foldedSetIterable iter X.env x = pure x := by intro _; rfl) : PS X (.For tg iter body [] pos) (tFor wi g tb) := by
  intro pins s σ H D I h
  refine wpAny_For (thn (hi pins s σ H _ I h) fun v s1 h1 => thn h1 fun itv s2 h2 => ?_) hs
  obtain ⟨it, fp, tn, J, H2, e, I2, T, st2, f2, W, ⟨m0, w0⟩, turn⟩ := h2
  subst e
  -- what stays true of the iterator's objects through the loop
  have stat : ∀ {H' : Hp}, (∀ b ∈ fp, H' b = none) → ∀ b ∈ fp, FpOk X pins H' b := fun hn b hb => ⟨hn b hb, (f2 b hb).2⟩
  refine codeAny_forLoop_any (fun n s' => ∃ i σ' H', Inv X pins σ' H' s' ∧ tn i s'.heap ∧ (∀ b ∈ fp, H' b = none) ∧ W i n σ' H') ?_ m0 ⟨0, σ, H2, I2, st2, fun b hb => (f2 b hb).1, w0⟩
  rintro n s3 ⟨i, σ3, H3, I3, st3, fr3, w3⟩
  rcases turn i n σ3 H3 w3 with ⟨stop, qn⟩ | ⟨go, N, hN, step⟩
  · refine wpAny_passesOwn hp (thn (T.done X rfl rfl rfl hc i pins s3 σ3 H3 X.xe I3 (stat fr3) st3 stop) fun r s4 ⟨hr, I4⟩ => ?_)
    subst hr
    exact wpAny_execs_nil ⟨σ3, H3, I4, qn⟩
  · refine wpAny_passesOwn hp (thn (T.item X rfl rfl rfl hc i pins s3 σ3 H3 X.xe I3 (stat fr3) st3 go) fun r s4 ⟨u, hr, h4⟩ => ?_)
    subst hr
    refine wpAny_passesOwn hp (thn h4 fun _ s5 ⟨x, H5, I5, r5, y5, st5, fr5⟩ => ?_)
    have I5' := I5.pinned (stat fr5) (T.obj _ _ st5)
    refine wpAny_passesOwn hp (thn (hg _ s5 σ3 H5 x u _ I5' r5 (step x H5 y5)) fun _ s6 ⟨σ6, H6, I6, q6⟩ => ?_)
    refine wpAny_passesOwn hp (thn (hb _ s6 σ6 H6 _ I6 q6) fun f s7 q7 => ?_)
    have again : ∀ {σ7 : St} {H7 : Hp}, Inv X (pins ++ pinsAt fp s5.heap) σ7 H7 s7 → N σ7 H7 → ∃ m, m < n ∧ ∃ i σ' H', Inv X pins σ' H' s7 ∧ tn i s7.heap ∧ (∀ b ∈ fp, H' b = none) ∧ W i m σ' H' := fun {σ7 H7} I7 n7 => by
      obtain ⟨m', hm, w7⟩ := hN σ7 H7 n7
      refine ⟨m', hm, i + 1, σ7, H7, I7.unpinned, T.keep _ _ _ st5 fun b hb o e => (I7.pin (b, o) (List.mem_append_right _ (List.mem_append_right _ (mem_pinsAt hb e)))).1, fun b hb => ?_, w7⟩
      obtain ⟨o, e, d⟩ := T.obj _ _ st5 b hb
      exact (I7.pin (b, o) (List.mem_append_right _ (List.mem_append_right _ (mem_pinsAt hb e)))).2.1
    cases f with
    | next => obtain ⟨σ7, H7, I7, n7⟩ := q7; exact again I7 n7
    | cont => obtain ⟨σ7, H7, I7, n7⟩ := q7; exact again I7 n7
    | brk => obtain ⟨σ7, H7, I7, q7⟩ := q7; exact ⟨σ7, H7, I7.unpinned, q7⟩
    | ret v => obtain ⟨x7, σ7, H7, I7, r7, q7⟩ := q7; exact ⟨x7, σ7, H7, I7.unpinned, r7, q7⟩
end

/-! ### the forms one uses -/
/-- over a list that the body leaves as it is -/
theorem for_list {K : PySem.W.Frag} {a : Addr} {xs : List V} {g : TG} {tb : TS} {D : Ends} {σ : St} {H : Hp} (Pv : Nat → St → Hp → Prop) (h0 : Pv 0 σ H) (hl : ∀ i σ H, i ≤ xs.length → Pv i σ H → SqL K H a xs)
    (hs : ∀ i x σ H, xs[i]? = some x → Pv i σ H → g x σ H fun σ2 H2 => tb { D with nx := Pv (i + 1), ct := Pv (i + 1), bk := D.nx } σ2 H2) (hd : ∀ σ H, Pv xs.length σ H → D.nx σ H) :
    ∃ W : Nat → Nat → St → Hp → Prop, (∃ m, W 0 m σ H) ∧ ∀ i m σ H, W i m σ H →
      ((Itl K a).stop i H ∧ D.nx σ H) ∨ ((Itl K a).go i H ∧ ∃ N : St → Hp → Prop, (∀ σ' H', N σ' H' → ∃ m', m' < m ∧ W (i + 1) m' σ' H') ∧ ∀ x H', (Itl K a).yld i H x H' → g x σ H' fun σ2 H2 => tb { D with nx := N, ct := N, bk := D.nx } σ2 H2) := by
  refine ⟨fun i m σ H => m = xs.length - i ∧ i ≤ xs.length ∧ Pv i σ H, ⟨xs.length, by simp, Nat.zero_le _, h0⟩, ?_⟩
  rintro i m σ H ⟨rfl, hi, p⟩
  have q := hl i σ H hi p
  by_cases hlt : i < xs.length
  · refine .inr ⟨⟨xs, xs[i], q, by simp [hlt]⟩, Pv (i + 1), fun σ' H' p' => ⟨xs.length - (i + 1), by omega, rfl, hlt, p'⟩, fun x H' y => ?_⟩
    obtain ⟨e, y⟩ := y
    subst e
    exact hs i x σ _ (y xs q) p
  · have e : i = xs.length := by omega
    subst e
    exact .inl ⟨⟨xs, q, Nat.le_refl _⟩, hd σ H p⟩
theorem for_range {lo : Int} {n : Nat} {g : TG} {tb : TS} {D : Ends} {σ : St} {H : Hp} (Pv : Nat → St → Hp → Prop) (h0 : Pv 0 σ H)
    (hs : ∀ i σ H, i < n → Pv i σ H → g (.int (lo + i)) σ H fun σ2 H2 => tb { D with nx := Pv (i + 1), ct := Pv (i + 1), bk := D.nx } σ2 H2) (hd : ∀ σ H, Pv n σ H → D.nx σ H) :
    ∃ W : Nat → Nat → St → Hp → Prop, (∃ m, W 0 m σ H) ∧ ∀ i m σ H, W i m σ H →
      ((Itr lo n).stop i H ∧ D.nx σ H) ∨ ((Itr lo n).go i H ∧ ∃ N : St → Hp → Prop, (∀ σ' H', N σ' H' → ∃ m', m' < m ∧ W (i + 1) m' σ' H') ∧ ∀ x H', (Itr lo n).yld i H x H' → g x σ H' fun σ2 H2 => tb { D with nx := N, ct := N, bk := D.nx } σ2 H2) := by
  refine ⟨fun i m σ H => m = n - i ∧ i ≤ n ∧ Pv i σ H, ⟨n, by simp, Nat.zero_le _, h0⟩, ?_⟩
  rintro i m σ H ⟨rfl, hi, p⟩
  by_cases hlt : i < n
  · refine .inr ⟨hlt, Pv (i + 1), fun σ' H' p' => ⟨n - (i + 1), by omega, rfl, hlt, p'⟩, fun x H' y => ?_⟩
    obtain ⟨e, y⟩ := y
    subst e y
    exact hs i σ _ hlt p
  · have e : i = n := by omega
    subst e
    exact .inl ⟨Nat.le_refl _, hd σ H p⟩
end L2

namespace L2
open PySem PySem.Spec PyProof.Rows

abbrev R2 := V → V → Hp → VK → Prop
/-- a two-place operation on values: f is binaryOp op, inplaceOp op or compareOp op -/
def OpR (X : Cx) (f : Value → Value → Sem Value) (r : R2) : Prop :=
  ∀ (pins : List (Addr × Obj)) (s : Shared) (σ : St) (H : Hp) (x y : V) (v u : Value) (Q : VK), Inv X pins σ H s → RelV x v → RelV y u → r x y H Q →
    wpAny (model X.prog X.w) X.A (f v u) (EP X pins σ Q) X.xe s
/-- a one-place operation -/
def UnR (X : Cx) (f : Value → Sem Value) (r : V → Hp → VK → Prop) : Prop :=
  ∀ (pins : List (Addr × Obj)) (s : Shared) (σ : St) (H : Hp) (x : V) (v : Value) (Q : VK), Inv X pins σ H s → RelV x v → r x H Q →
    wpAny (model X.prog X.w) X.A (f v) (EP X pins σ Q) X.xe s
/-- a call of a value that is known (a builtin, a type) with values -/
def CallR (X : Cx) (f : Value) (r : List V → Hp → VK → Prop) : Prop :=
  ∀ (pins : List (Addr × Obj)) (s : Shared) (σ : St) (H : Hp) (xs : List V) (us : List Value) (Q : VK), Inv X pins σ H s → Vals xs us → r xs H Q →
    wpAny (model X.prog X.w) X.A (call f us) (EP X pins σ Q) X.xe s
/-- a value's truth -/
def TruR (X : Cx) (r : V → Hp → (Bool → Hp → Prop) → Prop) : Prop :=
  ∀ (pins : List (Addr × Obj)) (s : Shared) (σ : St) (H : Hp) (x : V) (v : Value) (Q : Bool → Hp → Prop), Inv X pins σ H s → RelV x v → r x H Q →
    wpAny (model X.prog X.w) X.A (truthy v) (TP X pins σ Q) X.xe s

def tOp (r : R2) (ta tb : TE) : TE := fun σ H Q => ta σ H fun x H1 => tb σ H1 fun y H2 => r x y H2 Q
def tUn (r : V → Hp → VK → Prop) (ta : TE) : TE := fun σ H Q => ta σ H fun x H1 => r x H1 Q
/-- ints in, under C, and a value out -/
def rI (C : Int → Int → Prop) (g : Int → Int → V) : R2 := fun x y H Q => ∃ i j, x = .int i ∧ y = .int j ∧ C i j ∧ Q (g i j) H
def rI0 (g : Int → Int → V) : R2 := fun x y H Q => ∃ i j, x = .int i ∧ y = .int j ∧ Q (g i j) H
def rU (g : Int → V) : V → Hp → VK → Prop := fun x H Q => ∃ i, x = .int i ∧ Q (g i) H

section
variable {X : Cx} {a b c : Expr} {ta tb tc : TE} {pos : Pos}

theorem binT (ha : PE X a ta) (hb : PE X b tb) {pins : List (Addr × Obj)} {s : Shared} {σ : St} {H : Hp} {R : V → V → Hp → Prop} (I : Inv X pins σ H s)
    (h : ta σ H fun x H1 => tb σ H1 fun y H2 => R x y H2) {Q : Value → Shared → Prop} {f : Value → Value → Sem Value}
    (hf : ∀ v u s2 x y H2, Inv X pins σ H2 s2 → RelV x v → RelV y u → R x y H2 → wpAny (model X.prog X.w) X.A (f v u) Q X.xe s2) :
    wpAny (model X.prog X.w) X.A (eval a X.env) (fun v s₁ => wpAny (model X.prog X.w) X.A (eval b X.env) (fun u s₂ => wpAny (model X.prog X.w) X.A (f v u) Q X.xe s₂) X.xe s₁) X.xe s := by
  refine thn (ha pins s σ H _ I h) fun v s1 ⟨x, H1, I1, r1, q1⟩ => ?_
  refine thn (hb pins s1 σ H1 _ I1 q1) fun u s2 ⟨y, H2, I2, r2, q2⟩ => ?_
  exact hf v u s2 x y H2 I2 r1 r2 q2

theorem pe_op {op : Operator} {r : R2} (ho : OpR X (binaryOp op) r) (ha : PE X a ta) (hb : PE X b tb) : PE X (.BinOp a op b pos) (tOp r ta tb) := by
  intro pins s σ H Q I h
  exact wpAny_BinOp (binT ha hb I h fun v u s2 x y H2 I2 rx ry q => ho pins s2 σ H2 x y v u Q I2 rx ry q)
theorem pe_un {op : UnaryOp} {r : V → Hp → VK → Prop} (ho : UnR X (unaryOp op) r) (ha : PE X a ta) : PE X (.UnaryOp op a pos) (tUn r ta) := by
  intro pins s σ H Q I h
  exact UnaryOp_ (thn (ha pins s σ H _ I h) fun v s1 ⟨x, H1, I1, r1, q1⟩ => ho pins s1 σ H1 x v Q I1 r1 q1)
/-! ### ints -/
theorem opI {f : Value → Value → Sem Value} {C : Int → Int → Prop} {g : Int → Int → Int}
    (rule : ∀ (i j : Int) (t u : Tok) (s : Shared) (Q : Value → Shared → Prop) (E : Value → Shared → Prop), C i j → Q (.int (g i j) s.toks) { s with toks := s.toks + 1 } → wpAny (model X.prog X.w) X.A (f (.int i t) (.int j u)) Q E s) :
    OpR X f (rI C fun i j => .int (g i j)) := by
  intro pins s σ H x y v u Q I rx ry h
  obtain ⟨i, j, rfl, rfl, hc, q⟩ := h
  obtain ⟨t, rfl⟩ := rx
  obtain ⟨t', rfl⟩ := ry
  exact rule i j t t' s _ _ hc ⟨.int (g i j), H, I.tok _, ⟨_, rfl⟩, q⟩
theorem opI0 {f : Value → Value → Sem Value} {g : Int → Int → Int}
    (rule : ∀ (i j : Int) (t u : Tok) (s : Shared) (Q : Value → Shared → Prop) (E : Value → Shared → Prop), Q (.int (g i j) s.toks) { s with toks := s.toks + 1 } → wpAny (model X.prog X.w) X.A (f (.int i t) (.int j u)) Q E s) :
    OpR X f (rI0 fun i j => .int (g i j)) := by
  intro pins s σ H x y v u Q I rx ry h
  obtain ⟨i, j, rfl, rfl, q⟩ := h
  obtain ⟨t, rfl⟩ := rx
  obtain ⟨t', rfl⟩ := ry
  exact rule i j t t' s _ _ ⟨.int (g i j), H, I.tok _, ⟨_, rfl⟩, q⟩
theorem opB0 {f : Value → Value → Sem Value} {g : Int → Int → Bool}
    (rule : ∀ (i j : Int) (t u : Tok) (s : Shared) (Q : Value → Shared → Prop) (E : Value → Shared → Prop), Q (.bool (g i j)) s → wpAny (model X.prog X.w) X.A (f (.int i t) (.int j u)) Q E s) :
    OpR X f (rI0 fun i j => .bl (g i j)) := by
  intro pins s σ H x y v u Q I rx ry h
  obtain ⟨i, j, rfl, rfl, q⟩ := h
  obtain ⟨t, rfl⟩ := rx
  obtain ⟨t', rfl⟩ := ry
  exact rule i j t t' s _ _ ⟨.bl (g i j), H, I, rfl, q⟩

def CDiv (i j : Int) : Prop := 0 < j ∧ j < 1073741824
def CDivN (i j : Int) : Prop := j ≠ 0 ∧ j.natAbs < 1073741824
def CPow (i j : Int) : Prop := 0 ≤ j ∧ j ≤ 1000000 ∧ i.natAbs < 2 ^ 64
def CMul (i j : Int) : Prop := (-(2 ^ 64) < i ∧ i < 2 ^ 64) ∨ (-(2 ^ 64) < j ∧ j < 2 ^ 64)
theorem CMul.ok {i j : Int} (h : CMul i j) : IntMulOk i j := by
  rcases h with ⟨h1, h2⟩ | ⟨h1, h2⟩
  · exact .of_left (intBits_le_64 h1 h2)
  · exact .of_right (intBits_le_64 h1 h2)
theorem op_add : OpR X (binaryOp .Add) (rI0 fun i j => .int (i + j)) := opI0 fun _ _ _ _ _ _ _ q => add_int q
theorem op_sub : OpR X (binaryOp .Sub) (rI0 fun i j => .int (i - j)) := opI0 fun _ _ _ _ _ _ _ q => sub_int q
/-- % by a positive divisor of any size -/
theorem op_mod : OpR X (binaryOp .Mod) (rI (fun _ j => 0 < j) fun i j => .int (i % j)) := opI fun i j _ _ _ _ _ hc q => by
  have h1 : (0 : Int) < j := hc
  exact mod_int' (by omega) (by rw [Int.fmod_eq_emod_of_nonneg i (by omega)]; exact q)
theorem op_pow : OpR X (binaryOp .Pow) (rI CPow fun i j => .int (i ^ j.toNat)) := opI fun _ _ _ _ _ _ _ hc q => pow_int_small hc.1 hc.2.1 hc.2.2 q
theorem unI {f : Value → Sem Value} {g : Int → Int}
    (rule : ∀ (i : Int) (t : Tok) (s : Shared) (Q : Value → Shared → Prop) (E : Value → Shared → Prop), Q (.int (g i) s.toks) { s with toks := s.toks + 1 } → wpAny (model X.prog X.w) X.A (f (.int i t)) Q E s) :
    UnR X f (rU fun i => .int (g i)) := by
  intro pins s σ H x v Q I rx h
  obtain ⟨i, rfl, q⟩ := h
  obtain ⟨t, rfl⟩ := rx
  exact rule i t s _ _ ⟨.int (g i), H, I.tok _, ⟨_, rfl⟩, q⟩
theorem un_neg : UnR X (unaryOp .USub) (rU fun i => .int (-i)) := unI fun _ _ _ _ _ q => neg_int q
/-! ### bools among ints: n += (a < b) -/
end

/-! ### comparisons -/
/-- the scalars that == tells apart as data does -/
def scal : V → V → Bool
  | .non, .non => true | .non, .int _ => true | .int _, .non => true | .non, .bl _ => true | .bl _, .non => true | .non, .str _ => true | .str _, .non => true
  | .int _, .int _ => true | .bl _, .bl _ => true | .str _, .str _ => true | .byt _, .byt _ => true
  | .int _, .str _ => true | .str _, .int _ => true | .bl _, .str _ => true | .str _, .bl _ => true
  | _, _ => false
def rEq : R2 := fun x y H Q => scal x y = true ∧ Q (.bl (decide (x = y))) H
def rNe : R2 := fun x y H Q => scal x y = true ∧ Q (.bl (!decide (x = y))) H

theorem dec_int {i j : Int} : decide (V.int i = V.int j) = (i == j) := by
  rw [Bool.eq_iff_iff]
  simp
theorem dec_bl {i j : Bool} : decide (V.bl i = V.bl j) = (i == j) := by
  rw [Bool.eq_iff_iff]
  simp
theorem dec_str {i j : Str} : decide (V.str i = V.str j) = (i == j) := by
  rw [Bool.eq_iff_iff]
  simp
theorem dec_byt {i j : Array UInt8} : decide (V.byt i = V.byt j) = (i.toList == j.toList) := by
  rw [Bool.eq_iff_iff]
  cases i
  cases j
  simp

section
variable {X : Cx} {a b c : Expr} {ta tb tc : TE} {pos : Pos}
theorem fin_bl {pins : List (Addr × Obj)} {σ : St} {H : Hp} {s : Shared} {Q : VK} {k k' : Bool} (I : Inv X pins σ H s) (q : Q (.bl k) H) (e : k = k') : EP X pins σ Q (.bool k') s := by
  subst e
  exact ⟨.bl k, H, I, rfl, q⟩
theorem op_eq : OpR X (compareOp .Eq) rEq := by
  intro pins s σ H x y v u Q I rx ry h
  obtain ⟨hs, q⟩ := h
  cases x with
  | non =>
    cases rx
    cases y with
    | non => cases ry; exact PySem.EqNone.eq_none_none (fin_bl I q (by simp))
    | bl j => cases ry; exact PySem.EqNone.eq_none_bool (fin_bl I q (by simp))
    | int j => obtain ⟨t', rfl⟩ := ry; exact PySem.EqNone.eq_none_int (fin_bl I q (by simp))
    | str j => obtain ⟨t', rfl⟩ := ry; exact PySem.EqNone.eq_none_str (fin_bl I q (by simp))
    | _ => exact absurd (show false = true from hs) Bool.false_ne_true
  | bl i =>
    cases rx
    cases y with
    | non => cases ry; exact PySem.EqNone.eq_bool_none (fin_bl I q (by simp))
    | bl j => cases ry; exact eq_bool (fin_bl I q dec_bl)
    | str j => obtain ⟨t', rfl⟩ := ry; exact PySem.EqMixed.eq_bool_str (fin_bl I q (by simp))
    | _ => exact absurd (show false = true from hs) Bool.false_ne_true
  | int i =>
    obtain ⟨t, rfl⟩ := rx
    cases y with
    | non => cases ry; exact PySem.EqNone.eq_int_none (fin_bl I q (by simp))
    | int j => obtain ⟨t', rfl⟩ := ry; exact eq_int (fin_bl I q dec_int)
    | str j => obtain ⟨t', rfl⟩ := ry; exact PySem.EqMixed.eq_int_str (fin_bl I q (by simp))
    | _ => exact absurd (show false = true from hs) Bool.false_ne_true
  | str i =>
    obtain ⟨t, rfl⟩ := rx
    cases y with
    | non => cases ry; exact PySem.EqNone.eq_str_none (fin_bl I q (by simp))
    | bl j => cases ry; exact PySem.EqMixed.eq_str_bool (fin_bl I q (by simp))
    | int j => obtain ⟨t', rfl⟩ := ry; exact PySem.EqMixed.eq_str_int (fin_bl I q (by simp))
    | str j => obtain ⟨t', rfl⟩ := ry; exact eq_str (fin_bl I q dec_str)
    | _ => exact absurd (show false = true from hs) Bool.false_ne_true
  | byt i =>
    obtain ⟨t, rfl⟩ := rx
    cases y with
    | byt j => obtain ⟨t', rfl⟩ := ry; exact PySem.W.eq_bytes (fin_bl I q dec_byt)
    | _ => exact absurd (show false = true from hs) Bool.false_ne_true
  | _ => cases y <;> exact absurd (show false = true from hs) Bool.false_ne_true
theorem op_ne : OpR X (compareOp .NotEq) rNe := by
  intro pins s σ H x y v u Q I rx ry h
  obtain ⟨hs, q⟩ := h
  cases x with
  | non =>
    cases rx
    cases y with
    | non => cases ry; exact PySem.EqNone.ne_none_none (fin_bl I q (by simp))
    | bl j => cases ry; exact PySem.EqNone.ne_none_bool (fin_bl I q (by simp))
    | int j => obtain ⟨t', rfl⟩ := ry; exact PySem.EqNone.ne_none_int (fin_bl I q (by simp))
    | str j => obtain ⟨t', rfl⟩ := ry; exact PySem.EqNone.ne_none_str (fin_bl I q (by simp))
    | _ => exact absurd (show false = true from hs) Bool.false_ne_true
  | bl i =>
    cases rx
    cases y with
    | non => cases ry; exact PySem.EqNone.ne_bool_none (fin_bl I q (by simp))
    | bl j => cases ry; exact ne_bool (fin_bl I q (congrArg not dec_bl))
    | str j => obtain ⟨t', rfl⟩ := ry; exact PySem.EqMixed.ne_bool_str (fin_bl I q (by simp))
    | _ => exact absurd (show false = true from hs) Bool.false_ne_true
  | int i =>
    obtain ⟨t, rfl⟩ := rx
    cases y with
    | non => cases ry; exact PySem.EqNone.ne_int_none (fin_bl I q (by simp))
    | int j => obtain ⟨t', rfl⟩ := ry; exact ne_int (fin_bl I q (congrArg not dec_int))
    | str j => obtain ⟨t', rfl⟩ := ry; exact PySem.EqMixed.ne_int_str (fin_bl I q (by simp))
    | _ => exact absurd (show false = true from hs) Bool.false_ne_true
  | str i =>
    obtain ⟨t, rfl⟩ := rx
    cases y with
    | non => cases ry; exact PySem.EqNone.ne_str_none (fin_bl I q (by simp))
    | bl j => cases ry; exact PySem.EqMixed.ne_str_bool (fin_bl I q (by simp))
    | int j => obtain ⟨t', rfl⟩ := ry; exact PySem.EqMixed.ne_str_int (fin_bl I q (by simp))
    | str j => obtain ⟨t', rfl⟩ := ry; exact ne_str (fin_bl I q (congrArg not dec_str))
    | _ => exact absurd (show false = true from hs) Bool.false_ne_true
  | byt i =>
    obtain ⟨t, rfl⟩ := rx
    cases y with
    | byt j => obtain ⟨t', rfl⟩ := ry; exact PySem.W.ne_bytes (fin_bl I q (congrArg not dec_byt))
    | _ => exact absurd (show false = true from hs) Bool.false_ne_true
  | _ => cases y <;> exact absurd (show false = true from hs) Bool.false_ne_true

theorem op_lt : OpR X (compareOp .Lt) (rI0 fun i j => .bl (decide (i < j))) := opB0 fun _ _ _ _ _ _ _ q => lt_int q
theorem op_le : OpR X (compareOp .LtE) (rI0 fun i j => .bl (decide (i ≤ j))) := opB0 fun _ _ _ _ _ _ _ q => le_int q
theorem op_gt : OpR X (compareOp .Gt) (rI0 fun i j => .bl (decide (j < i))) := opB0 fun _ _ _ _ _ _ _ q => gt_int q
/-- the one string within the other -/
theorem op_in_str : OpR X (compareOp .In) (fun x y H Q => ∃ i j, x = .str i ∧ y = .str j ∧ Q (.bl (!(Builtin.Str.occurrences j i 0 j.length 1).isEmpty)) H) := by
  intro pins s σ H x y v u Q I rx ry h
  obtain ⟨i, j, rfl, rfl, q⟩ := h
  obtain ⟨t, rfl⟩ := rx
  obtain ⟨t', rfl⟩ := ry
  exact in_str (fin_bl I q rfl)

/-- is None, is not None: the right side a value none -/
theorem op_isN : OpR X (compareOp .Is) (fun x y H Q => y = .non ∧ Q (.bl (decide (x = .non))) H) := by
  intro pins s σ H x y v u Q I rx ry h
  obtain ⟨rfl, q⟩ := h
  cases ry
  refine is_none_gen (fin_bl I q ?_)
  cases x <;> first
    | (cases rx; rfl)
    | (obtain ⟨t, rfl⟩ := rx; rfl)
theorem op_notN : OpR X (compareOp .IsNot) (fun x y H Q => y = .non ∧ Q (.bl (!decide (x = .non))) H) := by
  intro pins s σ H x y v u Q I rx ry h
  obtain ⟨rfl, q⟩ := h
  cases ry
  refine isnot_none_gen (fin_bl I q ?_)
  cases x <;> first
    | (cases rx; rfl)
    | (obtain ⟨t, rfl⟩ := rx; rfl)

/-- is, is not of two objects that are tracked lists or instances -/
def isObj : HO → Bool
  | .lst _ => true
  | .ins _ _ _ => true
  | _ => false
/-- two rules for one operation: by cases -/
theorem OpR.or {f : Value → Value → Sem Value} {r r' : R2} (h : OpR X f r) (h' : OpR X f r') : OpR X f (fun x y H Q => r x y H Q ∨ r' x y H Q) := by
  intro pins s σ H x y v u Q I rx ry q
  rcases q with q | q
  · exact h pins s σ H x y v u Q I rx ry q
  · exact h' pins s σ H x y v u Q I rx ry q

theorem nomark (b : Expr) {op : CmpOp} (h : op ≠ .In := by decide) (h2 : op ≠ .NotIn := by decide) : behindInMarks op b = false := by
  have e1 : (op == CmpOp.In) = false := by cases op <;> first | rfl | exact absurd rfl h
  have e2 : (op == CmpOp.NotIn) = false := by cases op <;> first | rfl | exact absurd rfl h2
  cases b <;> simp [behindInMarks, e1, e2]
/-- a comparison as a value; hm: nomark b, or (for in, not in) by with_unfolding_all rfl -/
theorem pe_cmpR {op : CmpOp} {r : R2} (ho : OpR X (compareOp op) r) (ha : PE X a ta) (hb : PE X b tb) (hm : behindInMarks op b = false) : PE X (.Compare a [op] [b] pos) (tOp r ta tb) := by
  intro pins s σ H Q I h
  exact wpAny_Compare1 (binT ha hb I h fun v u s2 x y H2 I2 rx ry q => ho pins s2 σ H2 x y v u Q I2 rx ry q) hm
/-- a reading of a value as a test -/
def tTest (t : TE) : TT := fun σ H Q => t σ H fun x H' => ∃ k, x = .bl k ∧ Q k H'
theorem pt_cmpR {op : CmpOp} {r : R2} (ho : OpR X (compareOp op) r) (ha : PE X a ta) (hb : PE X b tb) (hm : behindInMarks op b = false) : PT X (.Compare a [op] [b] pos) (tTest (tOp r ta tb)) := by
  intro pins s σ H Q I h
  refine wpAny_isTrue_Compare1 (thn (ha pins s σ H _ I h) fun v s1 ⟨x, H1, I1, r1, q1⟩ => thn (hb pins s1 σ H1 _ I1 q1) fun u s2 ⟨y, H2, I2, r2, q2⟩ =>
    thn (ho pins s2 σ H2 x y v u _ I2 r1 r2 q2) fun c s3 ⟨z, H3, I3, r3, k, e, q3⟩ => ?_) hm
  subst e
  cases r3
  exact wpAny_truthy_bool ⟨H3, I3, q3⟩
/-- a op1 b op2 c -/
def tChain (r r' : R2) (ta tb tc : TE) : TE := fun σ H Q => ta σ H fun x H1 => tb σ H1 fun y H2 => r x y H2 fun z H3 => ∃ k, z = .bl k ∧
  (if k = true then tc σ H3 fun w' H4 => r' y w' H4 Q else Q (.bl false) H3)
theorem pe_chain {op op' : CmpOp} {r r' : R2} (ho : OpR X (compareOp op) r) (ho' : OpR X (compareOp op') r') (ha : PE X a ta) (hb : PE X b tb) (hc : PE X c tc)
    (hm : lastMarks [op, op'] [b, c] = false := by with_unfolding_all rfl) : PE X (.Compare a [op, op'] [b, c] pos) (tChain r r' ta tb tc) := by
  intro pins s σ H Q I h
  refine Compare_chain (thn (ha pins s σ H _ I h) fun v s1 ⟨x, H1, I1, r1, q1⟩ => chain_link (thn (hb pins s1 σ H1 _ I1 q1) fun u s2 ⟨y, H2, I2, r2, q2⟩ =>
    thn (ho pins s2 σ H2 x y v u _ I2 r1 r2 q2) fun d s3 ⟨z, H3, I3, r3, k, e, q3⟩ => ?_)) hm
  subst e
  cases r3
  refine wpAny_truthy_bool ?_
  cases k with
  | false => exact ite_ff ⟨.bl false, H3, I3, rfl, q3⟩
  | true => exact ite_tt (chain_last (thn (hc pins s3 σ H3 _ I3 q3) fun w' s4 ⟨z', H4, I4, r4, q4⟩ => ho' pins s4 σ H4 y z' u w' Q I4 r2 r4 q4))
theorem pt_chain {op op' : CmpOp} {r r' : R2} (ho : OpR X (compareOp op) r) (ho' : OpR X (compareOp op') r') (ha : PE X a ta) (hb : PE X b tb) (hc : PE X c tc)
    (hm : lastMarks [op, op'] [b, c] = false := by with_unfolding_all rfl) : PT X (.Compare a [op, op'] [b, c] pos) (tTest (tChain r r' ta tb tc)) := by
  intro pins s σ H Q I h
  refine isTrue_chain (thn (ha pins s σ H _ I h) fun v s1 ⟨x, H1, I1, r1, q1⟩ => test_link (thn (hb pins s1 σ H1 _ I1 q1) fun u s2 ⟨y, H2, I2, r2, q2⟩ =>
    thn (ho pins s2 σ H2 x y v u _ I2 r1 r2 q2) fun d s3 ⟨z, H3, I3, r3, k, e, q3⟩ => ?_)) hm
  subst e
  cases r3
  refine wpAny_truthy_bool ?_
  cases k with
  | false =>
    obtain ⟨k', e', q'⟩ := q3
    cases e'
    exact ite_ff ⟨H3, I3, q'⟩
  | true =>
    refine ite_tt (test_last (thn (hc pins s3 σ H3 _ I3 q3) fun w' s4 ⟨z', H4, I4, r4, q4⟩ => thn (ho' pins s4 σ H4 y z' u w' _ I4 r2 r4 q4) fun d' s5 ⟨z2, H5, I5, r5, k2, e2, q5⟩ => ?_))
    subst e2
    cases r5
    exact wpAny_truthy_bool ⟨H5, I5, q5⟩

/-! ### truth -/
/-- a value's truth by the abstract heap -/
def TruV (K : PySem.W.Frag) (x : V) (H : Hp) (k : Bool) : Prop :=
  match x with
  | .non => k = false
  | .bl b => k = b
  | .int i => k = (i != 0)
  | .str y => y.length ≤ sizeLine ∧ k = ((y.length : Int) != 0)
  | .byt y => y.size ≤ sizeLine ∧ k = ((y.size : Int) != 0)
  | .ref p => (∃ xs, SqL K H p xs ∧ k = !xs.isEmpty) ∨ (∃ xs, SqT K H p xs ∧ k = !xs.isEmpty) ∨ ∃ kvs, H p = some (.dK kvs) ∧ k = !kvs.isEmpty
  | _ => False
theorem line63 : (sizeLine : Nat) < 2 ^ 63 := by rw [sizeLine_eq]; decide
/-! ### strs and bytes -/
theorem op_add_str : OpR X (binaryOp .Add) (fun x y H Q => ∃ i j, x = .str i ∧ y = .str j ∧ i.length + j.length ≤ sizeLine ∧ Q (.str (i ++ j)) H) := by
  intro pins s σ H x y v u Q I rx ry h
  obtain ⟨i, j, rfl, rfl, hz, q⟩ := h
  obtain ⟨t, rfl⟩ := rx
  obtain ⟨t', rfl⟩ := ry
  exact add_str (fun t' tk => ⟨.str (i ++ j), H, I.tok _, ⟨_, rfl⟩, q⟩) hz
def PlainIxT (b : Expr) : Prop := ∀ o i, subscripted b false o i = operate [o, i] (getItem o i)
/-! ### scalar builtins, by CallR -/
theorem vals1 {x : V} {us : List Value} (r : Vals [x] us) : ∃ u, us = [u] ∧ RelV x u := by
  cases r with
  | cons r1 r2 => cases r2; exact ⟨_, rfl, r1⟩
theorem vals2 {x y : V} {us : List Value} (r : Vals [x, y] us) : ∃ u w', us = [u, w'] ∧ RelV x u ∧ RelV y w' := by
  cases r with
  | cons r1 r2 =>
    cases r2 with
    | cons r3 r4 => cases r4; exact ⟨_, _, rfl, r1, r3⟩
/-- len of a str, a bytes, a list, a tuple -/
def LenV (K : PySem.W.Frag) (x : V) (H : Hp) (n : Nat) : Prop :=
  match x with
  | .str y => y.length ≤ sizeLine ∧ n = y.length
  | .byt y => y.size ≤ sizeLine ∧ n = y.size
  | .ref p => (∃ xs, SqL K H p xs ∧ n = xs.length) ∨ ∃ xs, SqT K H p xs ∧ n = xs.length
  | _ => False
end
end L2

namespace L2
open PySem PySem.Spec PyProof.Rows

/-! ### an instance, its attributes a map -/
structure ObjM (h : Heap) (x dx C : Addr) (mA : Str → Option Value) : Prop where
  obj : h.get? x = some (PySem.W.instObj C dx)
  ns : h.Ns1 dx mA
  ne : dx ≠ x

theorem lookIn_ns {h : Heap} {dx : Addr} {mA : Str → Option Value} (n : h.Ns1 dx mA) : ∃ od, h.get? dx = some od ∧ ∀ name, PySem.W.lookIn name od = some (mA name) := by
  obtain ⟨o, es, ep, ho, hd, hk, _, hm⟩ := n
  refine ⟨o, ho, fun name => ?_⟩
  have e := hm name
  unfold nsFind findBy at e
  rw [← Array.find?_toList] at e
  unfold PySem.W.lookIn
  rw [hd]
  dsimp only
  split
  · rename_i y q
    rw [q] at e
    exact congrArg some e
  · rename_i q
    rw [q] at e
    have a : es.toList.any (·.refKey) = false := by
      rw [List.any_eq_false]
      intro y hy
      obtain ⟨z, t, hkey⟩ := hk y (Array.mem_toList_iff.mp hy)
      simp [DictEntry.refKey, hkey]
    have a' : ¬ es.toList.any (·.refKey) = true := by rw [a]; exact Bool.false_ne_true
    rw [if_neg a']
    exact congrArg some e

theorem ObjM.look {h : Heap} {x dx C : Addr} {mA : Str → Option Value} (I : ObjM h x dx C mA) : ∃ od, PySem.W.InstAt h x (PySem.W.instObj C dx) C (some od) ∧ ∀ name, PySem.W.lookIn name od = some (mA name) :=
  let ⟨od, ho, hl⟩ := lookIn_ns I.ns
  ⟨od, ⟨I.obj, rfl, rfl, ho⟩, hl⟩

section
variable {prog : Program} {w : World} {A : Around} {E : Value → Shared → Prop} {s : Shared} {K : PySem.W.Frag} {x dx C f : Addr} {mA : Str → Option Value} {name : Str} {v : Value}

end

/-! ### the attributes as a list of pairs -/
def putF (f : Str) (v : V) : List (Str × V) → List (Str × V)
  | [] => [(f, v)]
  | (g, x) :: r => if g = f then (g, v) :: r else (g, x) :: putF f v r
section
variable {P : Program} {w : World} {H H' : Hp} {h h' : Heap} {a C dx : Addr} {fs fs' : List (Str × V)}
theorem ins_get (hok : HOk P w H h) (e : H a = some (.ins C dx fs)) : ∃ mA, ObjM h a dx C mA ∧ (∀ f, RelO (fs.lookup f) (mA f)) ∧ PySem.Within mA (fs.map (·.1)) ∧ fs.length ≤ 1000 ∧ H dx = some (.own a) := by
  obtain ⟨d, z, ne, ob, mA, n, r, q⟩ := (show ObjOk P w H h a (.ins C dx fs) from hok a _ e)
  exact ⟨mA, ⟨ob, n, ne⟩, r, q, z, d⟩
end

/-! ### what of the text a class must have -/
structure Cls (K : PySem.W.Frag) (C : Addr) : Prop where
  pg : PySem.W.plainGet K C Str.empty = true
  hd : PySem.W.hasDictIn K C = true
  po : PySem.W.plainOver K C = true
  sa : PySem.W.findIn K (.ref C) "__setattr__" = some (some (.builtin "object.__setattr__"))
theorem Cls.get {K : PySem.W.Frag} {C : Addr} (c : Cls K C) (f : Str) : PySem.W.plainGet K C f = true := c.pg
/-- no class of it has the name -/
def NoAttr (K : PySem.W.Frag) (C : Addr) (f : Str) : Prop := PySem.W.findIn K (.ref C) f = some none
/-- a constant of the class -/
structure Con (K : PySem.W.Frag) (C : Addr) (f : Str) (v : V) (u : Value) : Prop where
  at_ : PySem.W.findIn K (.ref C) f = some (some u)
  rel : RelV v u
  get : PySem.W.specialIn K u "__get__" = some none
  cp : PySem.W.copiedNames.contains f = false
/-- a method: a plain def of the class or of one above it -/
structure Meth (K : PySem.W.Frag) (C : Addr) (m : Str) (f : Addr) : Prop where
  at_ : PySem.W.findIn K (.ref C) m = some (some (.ref f))
  fn : PySem.W.isFn K (.ref f) = true
  kp : PySem.W.keepIn K (.ref f) = true

section
variable {X : Cx} {pins : List (Addr × Obj)} {σ : St} {H : Hp} {s : Shared} {a C dx : Addr} {fs : List (Str × V)} {f : Str} {v : V} {A : Around} {E : Value → Shared → Prop}

/-- a new instance, tracked, without attributes -/
theorem Inv.made (I : Inv X pins σ H s) : Inv X pins σ (upd (upd H s.heap.objs.size (.own (s.heap.objs.size + 1))) (s.heap.objs.size + 1) (.ins C s.heap.objs.size []))
    { s with heap := (s.heap.push PySem.W.emptyDict).push (PySem.W.instObj C s.heap.objs.size) } := by
  have e1 : (s.heap.push PySem.W.emptyDict).get? s.heap.objs.size = some PySem.W.emptyDict := Heap.get?_push_size s.heap rfl
  have e2 : ((s.heap.push PySem.W.emptyDict).push (PySem.W.instObj C s.heap.objs.size)).get? (s.heap.objs.size + 1) = some (PySem.W.instObj C s.heap.objs.size) := by
    have := Heap.get?_push_size (s.heap.push PySem.W.emptyDict) (o := PySem.W.instObj C s.heap.objs.size) rfl
    rwa [Heap.size_push] at this
  have e3 : (s.heap.push PySem.W.emptyDict).Ns s.heap.objs.size (fun _ => none) := ⟨PySem.W.emptyDict, #[], _, e1, rfl, (fun e he => absurd he (by simp)), fun _ => rfl⟩
  have I1 := I.laid (a := s.heap.objs.size) (o := .own (s.heap.objs.size + 1)) (h' := s.heap.push PySem.W.emptyDict) (t' := s.toks) (fun b u q => Heap.get?_push_of_some _ q) (Nat.le_refl _) ⟨_, e1⟩
  refine I1.laid (a := s.heap.objs.size + 1) (o := .ins C s.heap.objs.size []) (t' := s.toks) (fun b u q => Heap.get?_push_of_some _ q) (Nat.le_of_eq (Heap.size_push _ _)) ?_
  have ne : s.heap.objs.size ≠ s.heap.objs.size + 1 := Nat.ne_of_lt (Nat.lt_succ_self _)
  refine ⟨by rw [upd_ne ne, upd_same], Nat.zero_le _, ne, e2, fun _ => none, (Heap.Ns1.of_empty e3).at fun o q => Heap.get?_push_of_some _ q, fun _ => True.intro, fun y hy => absurd rfl hy⟩

end

/-! ### readings and rules -/
/-- e.f, an attribute of the instance -/
def tFld (K : PySem.W.Frag) (ta : TE) (f : Str) : TE := fun σ H Q => ta σ H fun x H1 => ∃ a C dx fs v, x = .ref a ∧ H1 a = some (.ins C dx fs) ∧ Cls K C ∧ NoAttr K C f ∧ fs.lookup f = some v ∧ Q v H1
/-- e.f, a constant of the class -/
def tCon (K : PySem.W.Frag) (ta : TE) (f : Str) : TE := fun σ H Q => ta σ H fun x H1 => ∃ a C dx fs v u, x = .ref a ∧ H1 a = some (.ins C dx fs) ∧ Cls K C ∧ Con K C f v u ∧ fs.lookup f = none ∧ Q v H1
/-- e.f = value -/
def sFld (K : PySem.W.Frag) (ta tv : TE) (f : Str) : TS := fun D σ H => tv σ H fun y H1 => ta σ H1 fun x H2 => ∃ a C dx fs, x = .ref a ∧ H2 a = some (.ins C dx fs) ∧ Cls K C ∧ NoAttr K C f ∧ fs.length < 1000 ∧
  D.nx σ (upd H2 a (.ins C dx (putF f y fs)))
/-- an augmented operator on two values -/
def InOp (X : Cx) (op : Operator) (rd : V → V → Hp → VK → Prop) : Prop :=
  ∀ (pins : List (Addr × Obj)) (s : Shared) (σ : St) (H : Hp) (x y : V) (u v : Value) (Q : VK), Inv X pins σ H s → RelV x u → RelV y v → rd x y H Q → wpAny (model X.prog X.w) X.A (inplaceOp op u v) (EP X pins σ Q) X.xe s
/-- e.f op= value -/
def sFldAug (K : PySem.W.Frag) (ta tv : TE) (rd : V → V → Hp → VK → Prop) (f : Str) : TS := fun D σ H => ta σ H fun x H1 => ∃ a C dx fs v, x = .ref a ∧ H1 a = some (.ins C dx fs) ∧ Cls K C ∧ NoAttr K C f ∧ fs.lookup f = some v ∧
  tv σ H1 fun y H2 => rd v y H2 fun z H3 => ∃ dx' fs', H3 a = some (.ins C dx' fs') ∧ fs'.length < 1000 ∧ D.nx σ (upd H3 a (.ins C dx' (putF f z fs')))

section
variable {X : Cx} {o e value : Expr} {f : Str} {pos pos' tpos : Pos} {ta tv : TE}
def rAdd : V → V → Hp → VK → Prop := fun x y H Q => ∃ i j, x = .int i ∧ y = .int j ∧ Q (.int (i + j)) H
def rSub : V → V → Hp → VK → Prop := fun x y H Q => ∃ i j, x = .int i ∧ y = .int j ∧ Q (.int (i - j)) H
end

/-! ### isinstance -/
section
variable {X : Cx} {pins : List (Addr × Obj)} {σ : St} {H : Hp} {s : Shared} {A : Around} {E : Value → Shared → Prop} {Q : Value → Shared → Prop} {c : Value} {b : Bool}
/-- the type of a value, as the fragment's deciders take it; for an instance its class -/
inductive TyOf (K : PySem.W.Frag) (H : Hp) : V → Value → Prop where
  | non : TyOf K H .non (.type "NoneType")
  | bl (x : Bool) : TyOf K H (.bl x) (.type "bool")
  | int (i : Int) : TyOf K H (.int i) (.type "int")
  | str (x : Str) : TyOf K H (.str x) (.type "str")
  | flt (x : UInt64) : TyOf K H (.flt x) (.type "float")
  | lst {a : Addr} {xs : List V} (e : H a = some (.lst xs)) : TyOf K H (.ref a) (.type "list")
  | frz {a : Addr} {o : Obj} {xs : List V} (e : H a = some (.frz o (.lst xs))) : TyOf K H (.ref a) (.type "list")
  | tup {a : Addr} {xs : List V} (e : H a = some (.tup xs)) : TyOf K H (.ref a) (.type "tuple")
  | dK {a : Addr} {kvs : List (Key × V)} (e : H a = some (.dK kvs)) : TyOf K H (.ref a) (.type "dict")
  | dT {a : Addr} {kvs : List (List Key × V)} (e : H a = some (.dT kvs)) : TyOf K H (.ref a) (.type "dict")
  | ins {a C dx : Addr} {fs : List (Str × V)} (e : H a = some (.ins C dx fs)) (cl : Cls K C) (ha : PySem.W.findIn K (.ref C) "__class__" = some (some (.builtin "object.__class__")))
      (hn : PySem.W.specialIn K (.builtin "object.__class__") "__get__" = some (some (.builtin "getset_descriptor.__get__"))) (htk : PySem.W.takesIn K (.builtin "object.__class__") = some true)
      (hm : PySem.W.mroIn K C (.type "object") = some true) : TyOf K H (.ref a) (.ref C)
/-- isinstance(x, c) for one class c, a built-in or an own one: kitOne's answer -/
theorem isinst_ok {x : V} {u t : Value} (I : Inv X pins σ H s) (rx : RelV x u) (ty : TyOf X.K H x t) (e : PySem.W.kitOne X.K t c = some b) (h : ∀ tk, Q (.bool b) { s with toks := tk }) :
    wpAny (model X.prog X.w) A (call (.builtin "isinstance") [u, c]) Q E s := by
  cases ty with
  | non => cases (show u = Value.none from rx); exact PySem.W.kia_one PySem.W.kitx_none I.kIn True.intro e (fun z => nomatch z) h
  | bl y => cases (show u = Value.bool y from rx); exact PySem.W.kia_one PySem.W.kitx_bool I.kIn True.intro e (fun z => nomatch z) h
  | int i => obtain ⟨t, q⟩ := (show ∃ t, u = Value.int i t from rx); cases q; exact PySem.W.kia_one PySem.W.kitx_int I.kIn True.intro e (fun z => nomatch z) h
  | str y => obtain ⟨t, q⟩ := (show ∃ t, u = Value.str y t from rx); cases q; exact PySem.W.kia_one PySem.W.kitx_str I.kIn True.intro e (fun z => nomatch z) h
  | flt y => obtain ⟨t, q⟩ := (show ∃ t, u = Value.float y t from rx); cases q; exact PySem.W.kia_one PySem.W.kitx_float I.kIn True.intro e (fun z => nomatch z) h
  | @lst a xs ea =>
    cases (show u = Value.ref a from rx)
    obtain ⟨_, _, n, _, h1⟩ := (show ObjOk X.prog X.w H s.heap a (.lst xs) from I.hok a _ ea)
    exact PySem.W.kia_one PySem.W.kitx_list I.kIn ⟨_, h1, rfl⟩ e (fun z => nomatch z) h
  | @frz a ob xs ea =>
    cases (show u = Value.ref a from rx)
    obtain ⟨_, _, _, n, _, h1⟩ := (show ObjOk X.prog X.w H s.heap a (.frz ob (.lst xs)) from I.hok a _ ea)
    exact PySem.W.kia_one PySem.W.kitx_list I.kIn ⟨_, h1, rfl⟩ e (fun z => nomatch z) h
  | @tup a xs ea =>
    cases (show u = Value.ref a from rx)
    obtain ⟨_, _, _, p⟩ := (show ObjOk X.prog X.w H s.heap a (.tup xs) from I.hok a _ ea)
    obtain ⟨o, h1, h2, _⟩ := p
    exact PySem.W.kia_one PySem.W.kitx_tuple I.kIn ⟨o, h1, h2⟩ e (fun z => nomatch z) h
  | @dK a kvs ea =>
    cases (show u = Value.ref a from rx)
    obtain ⟨_, _, vs, _, p⟩ := (show ObjOk X.prog X.w H s.heap a (.dK kvs) from I.hok a _ ea)
    obtain ⟨o, es, ep, h1, h2, _⟩ := p
    exact PySem.W.kia_one PySem.W.kitx_dict I.kIn ⟨o, h1, h2.1⟩ e (fun z => nomatch z) h
  | @dT a kvs ea =>
    cases (show u = Value.ref a from rx)
    obtain ⟨_, _, xs, _, o, es, ep, h1, h2, _⟩ := (show ObjOk X.prog X.w H s.heap a (.dT kvs) from I.hok a _ ea)
    exact PySem.W.kia_one PySem.W.kitx_dict I.kIn ⟨o, h1, h2.1⟩ e (fun z => nomatch z) h
  | @ins a C dx fs ea cl ha hn htk hm =>
    cases (show u = Value.ref a from rx)
    obtain ⟨mA, O, _⟩ := ins_get I.hok ea
    obtain ⟨od, J, _⟩ := O.look
    exact PySem.W.kia_one (PySem.W.kitx_own (cl.get _) cl.hd ha hn htk hm) I.kIn J e (fun z => nomatch z) h
end
end L2

namespace L2
open PySem PySem.Spec PyProof.Rows

/-! ### room -/
structure Room (k : Nat) (A : Around) : Prop where
  hd : A.handled = none
  dp : A.depth + 3 * k + 5 < recursionLimit
  un : A.units + 16 * k + 200 < cLine
theorem Room.mono {j k : Nat} {A : Around} (r : Room k A) (h : j ≤ k) : Room j A := ⟨r.hd, by have := r.dp; omega, by have := r.un; omega⟩
theorem Room.deeper {k : Nat} {A : Around} (r : Room (k + 1) A) (env : Env) : Room k (A.deeper env) :=
  ⟨r.hd, by have := r.dp; show A.depth + 1 + 3 * k + 5 < _; omega, by have := r.un; show A.units + 3 + 16 * k + 200 < _; omega⟩
theorem Room.in1 {k : Nat} {A : Around} (r : Room (k + 1) A) : Room k A.in1 :=
  ⟨r.hd, by have := r.dp; show A.depth + 3 * k + 5 < _; omega, by have := r.un; show A.units + 1 + 16 * k + 200 < _; omega⟩
theorem make_depth {A : Around} {C : Addr} {us : List Value} {kw : List (Str × Value)} : (A.under (.builtin "type.__call__" ⟨.ref C :: us, kw⟩)).depth = A.depth + 1 := by
  first | rfl | simp [Around.under, Code.weight, Code.isCreation, Code.isGuard, Code.isCaller, Code.frames, Code.isFrame, guardIds]
theorem make_units {A : Around} {C : Addr} {us : List Value} {kw : List (Str × Value)} : (A.under (.builtin "type.__call__" ⟨.ref C :: us, kw⟩)).units = A.units + 1 := by
  first | rfl | simp [Around.under, Code.cUnits, Code.frames, Code.isFrame]
theorem Room.make {k : Nat} {A : Around} (r : Room (k + 1) A) (C : Addr) (us : List Value) (kw : List (Str × Value)) : Room k (A.under (.builtin "type.__call__" ⟨.ref C :: us, kw⟩)) :=
  ⟨r.hd, by have := r.dp; rw [make_depth]; omega, by have := r.un; rw [make_units]; omega⟩
theorem Room.depth {k : Nat} {A : Around} (r : Room k A) : A.depth < recursionLimit := by have := r.dp; omega
theorem Room.units {k : Nat} {A : Around} (r : Room k A) : A.units + 64 < cLine := by have := r.un; omega
/-! ### argument lists and displays -/
def tNil : TA := fun _ H Q => Q [] H
def tCons (ta : TE) (tr : TA) : TA := fun σ H Q => ta σ H fun x H1 => tr σ H1 fun xs H2 => Q (x :: xs) H2
section
variable {X : Cx} {e : Expr} {es : List Expr} {te : TE} {t : TA} {pos : Pos}
theorem pa_nil : PA X [] tNil := fun _ _ _ _ H Q I h => Calls.spliced_nil ⟨[], H, I, .nil, h⟩
theorem pa_cons (ha : PE X e te) (hr : PA X es t) (hs : starEach (e :: es) X.env = (false, eval e X.env) :: starEach es X.env := by rfl) : PA X (e :: es) (tCons te t) := by
  intro pos pins s σ H Q I h
  rw [hs]
  show wpAny _ _ (spliced ((false, eval e X.env) :: backTo pos (starEach es X.env))) _ _ s
  refine Calls.spliced_cons (thn (ha pins s σ H _ I h) fun u s1 ⟨x, H1, I1, r1, q1⟩ => ?_)
  exact thn (hr pos pins s1 σ H1 _ I1 q1) fun us s2 ⟨xs, H2, I2, r2, q2⟩ => ⟨x :: xs, H2, I2, .cons r1 r2, q2⟩

/-- a tuple, a list of written items -/
def tTup (t : TA) : TE := fun σ H Q => t σ H fun xs H1 => xs.length ≤ sizeLine ∧ ∀ p, H1 p = none → Q (.ref p) (upd H1 p (.tup xs))
def tLst (t : TA) : TE := fun σ H Q => t σ H fun xs H1 => xs.length ≤ sizeLine ∧ ∀ p, H1 p = none → Q (.ref p) (upd H1 p (.lst xs))
theorem pe_tup {x1} (h : PA X es t) : PE X (.Tuple es x1 pos) (tTup t) := by
  intro pins s σ H Q I hq
  refine wpAny_Tuple_spliced (thn (h pos pins s σ H _ I hq) fun us s1 ⟨xs, H1, I1, r, z, q⟩ => ⟨by rw [← r.length]; exact z, ?_⟩)
  have hf : H1 s1.heap.objs.size = none := I1.hok.fresh (Nat.le_refl _)
  refine ⟨.ref s1.heap.objs.size, upd H1 s1.heap.objs.size (.tup xs), I1.laid (t' := s1.toks) (fun b u e => Heap.get?_push_of_some _ e) (Nat.le_refl _) ?_, rfl, q _ hf⟩
  exact ⟨z, us, r, ⟨_, Heap.get?_push_size _ rfl, rfl, _, rfl⟩⟩
theorem pe_lst (h : PA X es t) : PE X (.List es pos) (tLst t) := by
  intro pins s σ H Q I hq
  refine wpAny_List_spliced (thn (h pos pins s σ H _ I hq) fun us s1 ⟨xs, H1, I1, r, z, q⟩ => ⟨by rw [← r.length]; exact z, ?_⟩)
  have hf : H1 s1.heap.objs.size = none := I1.hok.fresh (Nat.le_refl _)
  refine ⟨.ref s1.heap.objs.size, upd H1 s1.heap.objs.size (.lst xs), I1.laid (t' := s1.toks) (fun b u e => Heap.get?_push_of_some _ e) (Nat.le_refl _) ?_, rfl, q _ hf⟩
  exact ⟨z, us, 0, r, Heap.get?_push_size _ rfl⟩
end

/-! ### what a def promises -/
/-- a def's promise: the bound arguments in the parameters' order, the heap, the wanted end, the wanted exception -/
abbrev Sp := List V → Hp → VK → XK → Prop
/-- how an exception lies behind a call (file 08 gives it): the callers' frames, abstract heap and state ahead of the call, the wish, the exception, the state -/
abbrev CXT := List Env → Hp → Shared → XK → Value → Shared → Prop

/-- the state at a call -/
structure Env0 (P : Program) (w : World) (K : PySem.W.Frag) (mg : Str → Option Value) (base : Heap) (A : Around) (outer : List Env) (s : Shared) (H : Hp) : Prop where
  frames : A.frames = some outer
  mod : Mod K mg base
  bs : ∀ b o, base.get? b = some o → s.heap.get? b = some o ∧ H b = none
  bsz : base.objs.size ≤ s.heap.objs.size
  funs : s.heap.FunFrames base outer
  frf : ∀ b ∈ frs outer, H b = none
  hok : HOk P w H s.heap
  bare : AllBare s.gens
/-- a call's end -/
def CE (outer : List Env) (P : Program) (w : World) (H : Hp) (s : Shared) (Q : VK) (u : Value) (s' : Shared) : Prop :=
  ∃ v H', s'.os = s.os ∧ AllBare s'.gens ∧ Un (frs outer) [] H H' s.heap s'.heap ∧ HOk P w H' s'.heap ∧ RelV v u ∧ Q v H'
def CR (CX : CXT) (outer : List Env) (P : Program) (w : World) (H : Hp) (s : Shared) (Q : VK) (E : XK) (r : Result) (s' : Shared) : Prop :=
  match r with
  | .ok (.ret u) => CE outer P w H s Q u s'
  | .ok _ => False
  | .error e => CX outer H s E e s'
structure FnOk (P : Program) (w : World) (K : PySem.W.Frag) (mg : Str → Option Value) (base : Heap) (CX : CXT) (k : Nat) (f : Addr) (fd : FuncData) (ps : List Str) (sp : Sp) : Prop where
  len : ∀ vs H Q E, sp vs H Q E → vs.length = ps.length
  run : ∀ (A : Around) (outer : List Env) (s : Shared) (H : Hp) (args : Args) (us : List Value) (vs : List V) (Q : VK) (E : XK), Room k A → Env0 P w K mg base A outer s H → BindsTo s fd args (ps.zip us) → Vals vs us → sp vs H Q E →
    codeAny (model P w) A (.call (.ref f) args) (CR CX outer P w H s Q E) s
theorem FnOk.mono {P : Program} {w : World} {K : PySem.W.Frag} {mg : Str → Option Value} {base : Heap} {CX : CXT} {j k : Nat} {f : Addr} {fd : FuncData} {ps : List Str} {sp : Sp} (F : FnOk P w K mg base CX j f fd ps sp) (h : j ≤ k) :
    FnOk P w K mg base CX k f fd ps sp := ⟨F.len, fun A outer s H args us vs Q E hr => F.run A outer s H args us vs Q E (hr.mono h)⟩
/-- a weaker promise -/
theorem FnOk.imp {P : Program} {w : World} {K : PySem.W.Frag} {mg : Str → Option Value} {base : Heap} {CX : CXT} {k : Nat} {f : Addr} {fd : FuncData} {ps : List Str} {sp sp' : Sp} (F : FnOk P w K mg base CX k f fd ps sp)
    (h : ∀ vs H Q E, sp' vs H Q E → sp vs H Q E) : FnOk P w K mg base CX k f fd ps sp' :=
  ⟨fun vs H Q E q => F.len vs H Q E (h _ _ _ _ q), fun A outer s H args us vs Q E hr he hb hv hs => F.run A outer s H args us vs Q E hr he hb hv (h _ _ _ _ hs)⟩

theorem Env0.make {P : Program} {w : World} {K : PySem.W.Frag} {mg : Str → Option Value} {base : Heap} {A : Around} {outer : List Env} {s : Shared} {H : Hp} (e : Env0 P w K mg base A outer s H) (C : Addr) (us : List Value) (kw : List (Str × Value)) :
    Env0 P w K mg base (A.under (.builtin "type.__call__" ⟨.ref C :: us, kw⟩)) outer s H := ⟨by first | exact e.frames | (simpa [Around.under, Code.envs, Code.isFrame, pushEnvs] using e.frames), e.mod, e.bs, e.bsz, e.funs, e.frf, e.hok, e.bare⟩
theorem Env0.in1 {P : Program} {w : World} {K : PySem.W.Frag} {mg : Str → Option Value} {base : Heap} {A : Around} {outer : List Env} {s : Shared} {H : Hp} (e : Env0 P w K mg base A outer s H) :
    Env0 P w K mg base A.in1 outer s H := ⟨e.frames, e.mod, e.bs, e.bsz, e.funs, e.frf, e.hok, e.bare⟩

section
variable {X : Cx} {pins : List (Addr × Obj)} {σ : St} {H : Hp} {s s' : Shared}
/-- from a body: what a callee wants -/
theorem Inv.env0 (I : Inv X pins σ H s) : Env0 X.prog X.w X.K X.mg X.base X.A X.stack s H :=
  ⟨I.ok.frames, I.ok.mod, I.bs, Nat.le_trans I.ok.bsz I.sz, I.stack, I.stkFree, I.hok, I.bare⟩
/-- behind a call -/
theorem Inv.after {Q : VK} {u : Value} (I : Inv X pins σ H s) (h : CE X.stack X.prog X.w H s Q u s') : EP X pins σ Q u s' := by
  obtain ⟨v, H', os, bare, un, hok, r, q⟩ := h
  obtain ⟨hh, g, d, t, os'⟩ := s'
  obtain rfl : os' = s.os := os
  exact ⟨v, H', I.call (h' := hh) (g' := g) (d' := d) (t' := t) (ch := []) un hok bare (fun b z => absurd z (by simp)), r, q⟩
end

/-! ### calls -/
/-- f(..): the written arguments, then the defaults dvs; E: what is wanted of an exception -/
def tCall (sp : Sp) (dvs : List V) (E : XK) (t : TA) : TE := fun σ H Q => t σ H fun vs H1 => sp (vs ++ dvs) H1 Q E
/-- o.m(..) of an instance of the class at C -/
def tMeth (C : Addr) (m : Str) (sp : Sp) (dvs : List V) (E : XK) (ta : TE) (t : TA) : TE := fun σ H Q => ta σ H fun x H1 => ∃ a dx fs, x = .ref a ∧ H1 a = some (.ins C dx fs) ∧ fs.lookup m = none ∧
  t σ H1 fun vs H2 => sp (x :: (vs ++ dvs)) H2 Q E
/-- C(..): a new instance and its dict, then __init__ -/
def tMake (C : Addr) (sp : Sp) (dvs : List V) (E : XK) (t : TA) : TE := fun σ H Q => t σ H fun vs H1 => ∀ x dx, H1 x = none → H1 dx = none → dx ≠ x →
  sp (.ref x :: (vs ++ dvs)) (upd (upd H1 dx (.own x)) x (.ins C dx [])) (fun v H2 => v = .non ∧ Q (.ref x) H2) E

/-- how the parameters are bound: us the positional arguments, kw the keywords' values by name, ds the defaults that fill up -/
def Binds (K : PySem.W.Frag) (fd : FuncData) (ps : List Str) (ds : List Value) : Prop :=
  ∀ (s : Shared) (us : List Value), K.In s.heap → (us ++ ds).length = ps.length → BindsTo s fd ⟨us, []⟩ (ps.zip (us ++ ds))
/-- every parameter is given -/
theorem Binds.all {K : PySem.W.Frag} {fd : FuncData} {ps : List Str} (h : ∀ us : List Value, us.length = ps.length → bindArgs fd ⟨us, []⟩ = pure (ps.zip us)) : Binds K fd ps [] := fun s us _ hl => by
  rw [List.append_nil] at hl ⊢
  exact .of_eq (h us hl)

/-- an exception of a callee reaches what this body wants of exceptions -/
def Passes (CX : CXT) (X : Cx) (E : XK) : Prop := ∀ (pins : List (Addr × Obj)) (σ : St) (H : Hp) (s : Shared) (e : Value) (s' : Shared), Inv X pins σ H s → CX X.stack H s E e s' → X.xe e s'

section
variable {X : Cx} {CX : CXT} {k : Nat} {f C : Addr} {fd : FuncData} {ps : List Str} {sp : Sp} {dvs : List V} {ds : List Value} {E : XK} {x m : Str} {p pos apos : Pos} {e o : Expr} {es : List Expr} {ta : TE} {t : TA}

/-- the callee runs -/
theorem run_fn {pins : List (Addr × Obj)} {σ : St} {H : Hp} {s : Shared} {Q : VK} {us : List Value} {vs : List V} (F : FnOk X.prog X.w X.K X.mg X.base CX k f fd ps sp) (hr : Room k X.A) (hb : Binds X.K fd ps ds) (hd : Vals dvs ds) (hx : Passes CX X E)
    (I : Inv X pins σ H s) (r : Vals vs us) (h : sp (vs ++ dvs) H Q E) : wpAny (model X.prog X.w) X.A (call (.ref f) us) (EP X pins σ Q) X.xe s := by
  have r2 : Vals (vs ++ dvs) (us ++ ds) := r.append hd
  have hl : (us ++ ds).length = ps.length := by rw [← r2.length]; exact F.len _ _ _ _ h
  refine wpAny_call (codeAny_mono (F.run X.A X.stack s H ⟨us, []⟩ (us ++ ds) (vs ++ dvs) Q E hr I.env0 (hb s us I.kIn hl) r2 h) fun r s' hq => ?_)
  cases r with
  | error e => exact hx pins σ H s e s' I hq
  | ok fl =>
    cases fl with
    | ret u => exact I.after hq
    | next => exact False.elim hq
    | brk => exact False.elim hq
    | cont => exact False.elim hq

theorem pe_call (F : FnOk X.prog X.w X.K X.mg X.base CX k f fd ps sp) (hr : Room k X.A) (hg : Gl X x) (hm : X.mg x = some (.ref f)) (hk : PySem.W.keepIn X.K (.ref f) = true) (hb : Binds X.K fd ps ds) (hd : Vals dvs ds) (hx : Passes CX X E)
    (ha : PA X (e :: es) t) (hdb : (x == ("__debug__" : Str)) = false := by decide) (he : starEach (e :: es) X.env = (false, eval e X.env) :: starEach es X.env := by rfl) (hpl : (backTo pos (starEach es X.env)).any (·.1) = false := by rfl) :
    PE X (.Call (.Name x p) (e :: es) [] pos) (tCall sp dvs E t) := by
  intro pins s σ H Q I h
  refine wpAny_Call_Name_kw (ld_glob I hg hm ?_ hdb)
  refine PySem.W.callWith_K (h₀ := X.base) I.ok.mod.kin hk (thn (ha pos pins s σ H _ I h) fun us s1 ⟨vs, H1, I1, r, q⟩ => ⟨I1.kIn, ?_⟩) he hpl
  exact run_fn F hr hb hd hx I1 r q
/-- what a class must have to be made -/
structure Mk (K : PySem.W.Frag) (C f : Addr) : Prop where
  makes : PySem.W.makesIn K C = true
  init : PySem.W.findIn K (.ref C) "__init__" = some (some (.ref f))
  fn : PySem.W.isFn K (.ref f) = true
  kp : PySem.W.keepIn K (.ref C) = true

end

/-! ### keywords -/
/-- the values of the keywords, from the left -/
def PK (X : Cx) (kws : List Keyword) (t : TA) : Prop :=
  ∀ (pos : Pos) (pins : List (Addr × Obj)) (s : Shared) (σ : St) (H : Hp) (Q : List V → Hp → Prop), Inv X pins σ H s → t σ H Q → wpAny (model X.prog X.w) X.A (evalAll ((backToKw pos (keywordEach kws X.env)).map (·.2))) (AP X pins σ Q) X.xe s
section
variable {X : Cx} {CX : CXT} {k : Nat} {f C : Addr} {fd : FuncData} {ps ks : List Str} {sp : Sp} {E : XK} {x m : Str} {p pos apos kpos : Pos} {e o : Expr} {es : List Expr} {kws : List Keyword} {te ta : TE} {t tk : TA} {nm : Option Str}
/-- how a call with keywords binds: g puts the positional values us and the keywords' values ws (names ks) in the parameters' order, defaults among them -/
structure KBinds (K : PySem.W.Frag) (fd : FuncData) (ps ks : List Str) (g : List Value → List Value → List Value) (gV : List V → List V → List V) : Prop where
  to : ∀ (s : Shared) (us ws : List Value), K.In s.heap → (g us ws).length = ps.length → BindsTo s fd ⟨us, ks.zip ws⟩ (ps.zip (g us ws))
  rel : ∀ {vs : List V} {us : List Value} {zs : List V} {ws : List Value}, Vals vs us → Vals zs ws → Vals (gV vs zs) (g us ws)
def tCallK (sp : Sp) (gV : List V → List V → List V) (E : XK) (t tk : TA) : TE := fun σ H Q => t σ H fun vs H1 => tk σ H1 fun zs H2 => sp (gV vs zs) H2 Q E
variable {g : List Value → List Value → List Value} {gV : List V → List V → List V}
end

/-! ### a def's body keeps its promise -/
/-- names: the parameters first -/
structure FnScope (N P : List Str) (sc : Scope) : Prop where
  kind : sc.kind = .function
  co : sc.isCoroutine = false
  gen : sc.isGenerator = false
  nd : N.Nodup
  pre : N.take P.length = P
  par : ∀ x ∈ P, sc.names.lookup x = some .local ∨ sc.names.lookup x = some .cell
  nofree : ∀ y ∈ sc.names, y.2 ≠ .free

theorem bindL_out {kindOf : Str → Option NameKind} {x : Str} : ∀ {binds : List (Str × Value)} {m : Str → Option Value}, (∀ v, (x, v) ∉ binds) → bindL kindOf binds m x = m x
  | [], _, _ => rfl
  | (n, v) :: r, m, h => by
    unfold bindL
    rw [bindL_out fun w hw => h w (List.mem_cons_of_mem _ hw)]
    split
    · have : x ≠ n := by rintro rfl; exact h v List.mem_cons_self
      simp [this]
    · rfl
theorem bindC_out {kindOf : Str → Option NameKind} {x : Str} : ∀ {binds : List (Str × Value)} {m : Str → Option Value}, (∀ v, (x, v) ∉ binds) → bindC kindOf binds m x = m x
  | [], _, _ => rfl
  | (n, v) :: r, m, h => by
    unfold bindC
    rw [bindC_out fun w hw => h w (List.mem_cons_of_mem _ hw)]
    split
    · rfl
    · have : x ≠ n := by rintro rfl; exact h v List.mem_cons_self
      simp [this]
theorem bindL_get {kindOf : Str → Option NameKind} {x : Str} {v : Value} : ∀ {P : List Str} {vs : List Value} {i : Nat} {m : Str → Option Value}, P.Nodup → P[i]? = some x → vs[i]? = some v → kindOf x = some .local →
    bindL kindOf (P.zip vs) m x = some v
  | [], _, _, _, _, h, _, _ => by simp at h
  | _ :: _, [], _, _, _, _, h, _ => by simp at h
  | p :: P, w :: vs, 0, m, nd, h1, h2, hk => by
    simp at h1 h2; subst h1; subst h2
    show bindL kindOf ((p, w) :: P.zip vs) m p = _
    unfold bindL
    rw [bindL_out fun v hv => (List.nodup_cons.mp nd).1 (List.of_mem_zip hv).1, if_pos hk]
    simp
  | p :: P, w :: vs, i + 1, m, nd, h1, h2, hk => by
    show bindL kindOf ((p, w) :: P.zip vs) m x = _
    unfold bindL
    exact bindL_get (i := i) (List.nodup_cons.mp nd).2 (by simpa using h1) (by simpa using h2) hk
theorem bindC_get {kindOf : Str → Option NameKind} {x : Str} {v : Value} : ∀ {P : List Str} {vs : List Value} {i : Nat} {m : Str → Option Value}, P.Nodup → P[i]? = some x → vs[i]? = some v → kindOf x ≠ some .local →
    bindC kindOf (P.zip vs) m x = some v
  | [], _, _, _, _, h, _, _ => by simp at h
  | _ :: _, [], _, _, _, _, h, _ => by simp at h
  | p :: P, w :: vs, 0, m, nd, h1, h2, hk => by
    simp at h1 h2; subst h1; subst h2
    show bindC kindOf ((p, w) :: P.zip vs) m p = _
    unfold bindC
    rw [bindC_out fun v hv => (List.nodup_cons.mp nd).1 (List.of_mem_zip hv).1, if_neg hk]
    simp
  | p :: P, w :: vs, i + 1, m, nd, h1, h2, hk => by
    show bindC kindOf ((p, w) :: P.zip vs) m x = _
    unfold bindC
    exact bindC_get (i := i) (List.nodup_cons.mp nd).2 (by simpa using h1) (by simpa using h2) hk

/-- the names' values at the entry -/
def start (N : List Str) (vs : List V) : St := vs.map some ++ List.replicate (N.length - vs.length) none

/-- the context of a def's body, at its entry; an exception leaves the frame, then lies as CX says -/
def cxOf (CX : CXT) (P : Program) (w : World) (K : PySem.W.Frag) (mg : Str → Option Value) (base : Heap) (N : List Str) (qual : Str) (scope : Scope) (f : Addr) (cd : Value) (A : Around) (outer : List Env) (s : Shared) (H : Hp) (E : XK) : Cx where
  prog := P
  w := w
  K := K
  mg := mg
  base := base
  A := A.deeper (envOfC qual scope s.heap.objs.size f cd)
  N := N
  s₀ := s
  H₀ := H
  env := envOfC qual scope s.heap.objs.size f cd
  outer := outer
  stack := envOfC qual scope s.heap.objs.size f cd :: outer
  ex := []
  calm := true
  fn := fun _ => true
  pn := []
  xe := fun e s' => wpAny (model P w) (A.deeper (envOfC qual scope s.heap.objs.size f cd)) (leaving (envOfC qual scope s.heap.objs.size f cd) e) (fun _ s'' => CX outer H s E e s'') (fun e' s'' => CX outer H s E e' s'') s'

theorem cell_has {sc : Scope} {n : Nat} {x : Str} (h : sc.names.lookup x = some .cell) : ∃ c, (cellsFrom n sc.names []).lookup x = some c := by
  have q := PySem.W.cellsFrom_some sc.names n [] (.inl h)
  exact Option.isSome_iff_exists.mp q

theorem inv_start {CX : CXT} {P : Program} {w : World} {K : PySem.W.Frag} {mg : Str → Option Value} {base : Heap} {N ps : List Str} {qual : Str} {scope : Scope} {f : Addr} {cd : Value} {A : Around} {outer : List Env} {s s1 : Shared} {H : Hp} {E : XK} {us : List Value} {vs : List V}
    (S : FnScope N ps scope) (hd : A.handled = none) (e0 : Env0 P w K mg base A outer s H) (hl : vs.length = ps.length) (r : Vals vs us)
    (x : InCallC s s.heap.objs.size (bindL (envOfC qual scope s.heap.objs.size f cd).kindOf (ps.zip us) fun _ => none) (cellsFrom (s.heap.objs.size + 1) scope.names []) (bindC (envOfC qual scope s.heap.objs.size f cd).kindOf (ps.zip us) fun _ => none) s1) :
    Inv (cxOf CX P w K mg base N qual scope f cd A outer s H E) [] (start N vs) H s1 := by
  have hpl : ps.length ≤ N.length := by have := congrArg List.length S.pre; rw [List.length_take] at this; omega
  obtain ⟨h1, tk, rfl, hk⟩ := x.done
  have noA : ∀ b : Addr, b ∉ (cxOf CX P w K mg base N qual scope f cd A outer s H E).ex := fun b z => absurd (show b ∈ ([] : List Addr) from z) (by simp)
  refine ⟨⟨e0.mod, S.kind, rfl, rfl, Nat.le_refl _, fun y z c h1 h2 => ?_, fun y hy => ?_, fun y c _ h => ?_, fun _ => hd, Around.frames_deeper e0.frames, .inr ⟨rfl, rfl⟩, fun b z => absurd z (noA b), e0.bs, e0.bsz, fun b _ _ => noA b, fun b z => absurd z (noA b), e0.funs, e0.frf⟩,
    rfl, e0.bare, Un.kept hk, ⟨_, x.toInCall.ns, fun i y v h1 h2 h3 => ?_⟩, fun y c h => ⟨_, x.cell y c h⟩, e0.hok.fresh (Nat.le_refl _), fun y c h => ?_, fun p hp => absurd (show p ∈ ([] : List (Addr × Obj)) from hp) (by simp), e0.hok.kept hk, ?_⟩
  · exact name_of_addr x.apart (PySem.mem_of_lookup h1) (PySem.mem_of_lookup h2)
  · have hy : scope.names.lookup y = some .cell ∨ scope.names.lookup y = some .free := hy
    rcases hy with hy | hy
    · exact cell_has hy
    · exact absurd rfl (S.nofree _ (PySem.mem_of_lookup hy))
  · exact Nat.le_of_lt (x.above y c (PySem.mem_of_lookup h))
  · have hi : i < vs.length := by
      unfold start at h2
      by_cases hi : i < vs.length
      · exact hi
      · rw [List.getElem?_append_right (by simpa using hi)] at h2
        rw [List.getElem?_replicate] at h2
        split at h2 <;> cases h2
    have ha : vs[i]? = some v := by
      unfold start at h2
      rw [List.getElem?_append_left (by simpa using hi), List.getElem?_map] at h2
      cases e : vs[i]? with
      | none => rw [e] at h2; cases h2
      | some a => rw [e] at h2; cases h2; rfl
    obtain ⟨u, hu, rv⟩ := r.get ha
    have hp : ps[i]? = some y := by
      rw [← S.pre, List.getElem?_take_of_lt (by omega)]; exact h1
    have ndP : ps.Nodup := by rw [← S.pre]; exact S.nd.sublist (List.take_sublist _ _)
    refine ⟨u, rv, ?_⟩
    rcases S.par y (List.mem_of_getElem? hp) with k | k
    · exact .inl ⟨k, bindL_get ndP hp hu k⟩
    · obtain ⟨c, e⟩ := cell_has (n := s.heap.objs.size + 1) k
      refine .inr ⟨.inl k, c, e, ?_⟩
      have q := x.cell y c e
      rw [bindC_get ndP hp hu (by show scope.names.lookup y ≠ _; rw [k]; decide)] at q
      exact q
  · exact e0.hok.fresh (Nat.le_of_lt (x.above y c (PySem.mem_of_lookup h)))
  · unfold start
    show _ = N.length
    rw [List.length_append, List.length_map, List.length_replicate]
    omega

/-- THE RULE: a def (or a method) of the text, by its body. The body's reading t is chosen for each entry; it is run at the parameters' values -/
theorem fn_of {CX : CXT} {P : Program} {w : World} {K : PySem.W.Frag} {mg : Str → Option Value} {base : Heap} {k : Nat} {f : Addr} {name qual : Str} {params : Arguments} {body : List Stmt} {scope : Scope} {dV kV doc pm cdv ct oc : Value} {an od : Option Addr}
    {osl : Array (Option Value)} {N ps : List Str} {sp : Sp} (lk : K.lookup f = some ⟨oc, od, .func (PySem.W.fnOf name qual params body scope dV kV doc pm an cdv ct), osl⟩) (hcd : PySem.W.codeIn K cdv qual = true) (S : FnScope N ps scope)
    (len : ∀ vs H Q E, sp vs H Q E → vs.length = ps.length)
    (hbody : ∀ (A : Around) (outer : List Env) (s : Shared) (H : Hp) (vs : List V) (Q : VK) (E : XK), Room k (A.deeper (envOfC qual scope s.heap.objs.size f cdv)) → sp vs H Q E →
      ∃ t, PSs (cxOf CX P w K mg base N qual scope f cdv A outer s H E) body t ∧ t { nx := fun _ H' => Q .non H', rt := Q } (start N vs) H) :
    FnOk P w K mg base CX (k + 1) f (PySem.W.fnOf name qual params body scope dV kV doc pm an cdv ct) ps sp := by
  refine ⟨len, fun A outer s H args us vs Q E hr e0 hb r hsp => ?_⟩
  have hl := len _ _ _ _ hsp
  have KX : K.In s.heap := e0.mod.kin.keeps fun b o e => (e0.bs b o e).1
  have lim : s.heap.NoLimit := e0.mod.nolimit.keeps fun b o e => (e0.bs b o e).1
  have hkind : ∀ y ∈ ps.zip us, scope.names.lookup y.1 = some .local ∨ (scope.names.lookup y.1 = some .cell ∧ ((cellsFrom (s.heap.objs.size + 1) scope.names []).lookup y.1).isSome = true) := fun ⟨n, v⟩ hy => by
    rcases S.par n (List.of_mem_zip hy).1 with q | q
    · exact .inl q
    · exact .inr ⟨q, PySem.W.cellsFrom_some _ _ _ (.inl q)⟩
  refine codeAny_call_function hr.depth (KX _ _ lk) rfl S.co S.gen rfl (PySem.W.codeRec_of KX hcd) (hb _ _ _ _ ?_)
  refine wpAny_newFunctionEnv_cells S.kind hkind fun env he s1 x => ?_
  subst he
  refine ⟨lim.keeps x.toInCall.keep, codeAny_func ?_⟩
  obtain ⟨t, ht, hq⟩ := hbody A outer s H vs Q E (hr.deeper _) hsp
  have I : Inv (cxOf CX P w K mg base N qual scope f cdv A outer s H E) [] (start N vs) H s1 := inv_start S hr.hd e0 hl r x
  refine wpAny_mono (ht [] s1 (start N vs) H _ I hq) (fun fl s' hs => ?_) fun e s' hs => hs
  have fin : ∀ {σ' : St} {H' : Hp} {v : V} {u : Value}, Inv (cxOf CX P w K mg base N qual scope f cdv A outer s H E) [] σ' H' s' → RelV v u → Q v H' → CE outer P w H s Q u s' :=
    fun {σ' H' v u} J rv q => ⟨v, H', J.os, J.bare, J.base, J.hok, rv, q⟩
  cases fl with
  | ret u =>
    obtain ⟨v, σ', H', J, rv, q⟩ := hs
    exact fin J rv q
  | next =>
    obtain ⟨σ', H', J, q⟩ := hs
    exact fin (v := V.non) (u := Value.none) J rfl q
  | brk =>
    obtain ⟨_, _, _, q⟩ := hs
    exact False.elim q
  | cont =>
    obtain ⟨_, _, _, q⟩ := hs
    exact False.elim q
end L2

namespace L2
open PySem PySem.Spec PyProof.Rows
section
variable {X : Cx} {x : Str} {p pos : Pos} {e : Expr} {es : List Expr} {t : TA} {id T : String} {r : List V → Hp → VK → Prop}

def tCB (r : List V → Hp → VK → Prop) (t : TA) : TE := fun σ H Q => t σ H fun vs H1 => r vs H1 Q
/-- f(e, ..), f a built-in function -/
theorem pe_callB (hc : CallR X (.builtin id) r) (hg : Gl X x) (hm : X.mg x = none) (hv : bootBuiltins x = some (.builtin id)) (ha : PA X (e :: es) t) (hn : x ≠ "__name__" := by decide) (hdb : (x == ("__debug__" : Str)) = false := by decide)
    (he : starEach (e :: es) X.env = (false, eval e X.env) :: starEach es X.env := by rfl) (hpl : (backTo pos (starEach es X.env)).any (·.1) = false := by rfl) : PE X (.Call (.Name x p) (e :: es) [] pos) (tCB r t) := by
  intro pins s σ H Q I h
  refine wpAny_Call_Name_kw (ld_blt I hg hm hv ?_ hn hdb)
  exact PyProof.Rows.callWith_builtin1 (thn (ha pos pins s σ H _ I h) fun us s1 ⟨vs, H1, I1, r1, q1⟩ => hc pins s1 σ H1 vs us Q I1 r1 q1) he hpl
/-- T(e, ..), T a built-in type -/
theorem pe_callTy (hc : CallR X (.type T) r) (hg : Gl X x) (hm : X.mg x = none) (hv : bootBuiltins x = some (.type T)) (ha : PA X (e :: es) t) (hn : x ≠ "__name__" := by decide) (hdb : (x == ("__debug__" : Str)) = false := by decide)
    (he : starEach (e :: es) X.env = (false, eval e X.env) :: starEach es X.env := by rfl) (hpl : (backTo pos (starEach es X.env)).any (·.1) = false := by rfl) : PE X (.Call (.Name x p) (e :: es) [] pos) (tCB r t) := by
  intro pins s σ H Q I h
  refine wpAny_Call_Name_kw (ld_blt I hg hm hv ?_ hn hdb)
  exact PyProof.Rows.callWith_type1 (thn (ha pos pins s σ H _ I h) fun us s1 ⟨vs, H1, I1, r1, q1⟩ => hc pins s1 σ H1 vs us Q I1 r1 q1) he hpl
end
end L2

namespace HT
open PySem PyProof.Rows

/-- t < u of tuples of ints -/
def lexLt : List Int → List Int → Bool
  | [], [] => false
  | [], _ :: _ => true
  | _ :: _, [] => false
  | x :: xs, y :: ys => if x = y then lexLt xs ys else decide (x < y)
theorem rcLt_int (A : Around) (s : Shared) (a : Int) (t : Tok) (c : Int) (u : Tok) (prog : Program) (w : World) (E : Value → Shared → Prop) (Q : Value → Shared → Prop) (h : Q (.bool (decide (a < c))) s) :
    wpAny (model prog w) A (richCompare .Lt (.int a t) (.int c u)) Q E s :=
  (PyProof.Rows.lt_int h : wpAny (model prog w) A (compareOp .Lt (.int a t) (.int c u)) Q E s)

section
open PySem.SeqAt
open PySem.AutoSeq1 (wpAny_loadPart')
open PySem.MeetsSeq PySem.MeetsSeq2 PySem.MeetsSeq3

end

section
variable {prog : Program} {w : World} {A : Around} {E : Value → Shared → Prop} {s : Shared}

/-! ### t[a:b], not the whole -/
/-- a slice's bound as a place among n (d where it is left out) -/
def sIx (n d : Nat) : Option Int → Nat
  | none => d
  | some v => if v < 0 then (v + (n : Int)).toNat else min v.toNat n
theorem sIx_none (n d : Nat) : sIx n d none = d := rfl
theorem sIx_nat (n d k : Nat) : sIx n d (some (k : Int)) = min k n := by
  show (if (k : Int) < 0 then ((k : Int) + (n : Int)).toNat else min (k : Int).toNat n) = min k n
  rw [if_neg (by omega), Int.toNat_natCast]
end
end HT

namespace L2
open PySem PySem.Spec PyProof.Rows

/-! ### the parts of a slice -/
abbrev TO := St → Hp → (Option Int → Hp → Prop) → Prop
/-- a slice's part (left out, or an int) -/
def PO (X : Cx) (e : Option Expr) (t : TO) : Prop :=
  ∀ (pins : List (Addr × Obj)) (s : Shared) (σ : St) (H : Hp) (Q : Option Int → Hp → Prop), Inv X pins σ H s → t σ H Q →
    wpAny (model X.prog X.w) X.A (evalPart e X.env) (fun u s' => ∃ o H', Inv X pins σ H' s' ∧ IsPart u o ∧ Q o H') X.xe s
def tNoPart : TO := fun _ H Q => Q none H
def tPart (t : TE) : TO := fun σ H Q => t σ H fun x H1 => ∃ i, x = .int i ∧ Q (some i) H1

theorem intsAre_of {ns : List Int} : ∀ {us : List Value}, Vals (ns.map V.int) us → IntsAre us ns := by
  induction ns with
  | nil => intro us r; rw [List.map_nil] at r; cases r; exact .nil
  | cons n ns ih =>
    intro us r
    rw [List.map_cons] at r
    cases r with
    | cons r1 r2 =>
      obtain ⟨t, e⟩ := r1
      subst e
      exact .cons n t (ih r2)

section
variable {X : Cx} {e : Expr} {te : TE} {lo hi : Option Expr} {tl th : TO} {pos p2 : Pos}

theorem po_none : PO X none tNoPart := by
  intro pins s σ H Q I h
  rw [evalPart_none]
  exact wpAny_pure ⟨none, H, I, .none, h⟩
theorem po_some (h : PE X e te) : PO X (some e) (tPart te) := by
  intro pins s σ H Q I hw
  rw [evalPart_some]
  refine thn (h pins s σ H _ I hw) fun u s1 ⟨x, H1, I1, r1, q1⟩ => ?_
  obtain ⟨i, rfl, q⟩ := q1
  obtain ⟨t, rfl⟩ := r1
  exact ⟨some i, H1, I1, .int i t, q⟩

/-- what a slice of a value is, by values: the slice object stands at sl -/
def SlR (X : Cx) (r : V → Option Int → Option Int → Hp → VK → Prop) : Prop :=
  ∀ (pins : List (Addr × Obj)) (s : Shared) (σ : St) (H : Hp) (x : V) (v vl vu : Value) (lo hi : Option Int) (sl : Addr) (Q : VK), Inv X pins σ H s → RelV x v → s.heap.IsSliceOf sl vl vu .none → IsPart vl lo → IsPart vu hi → r x lo hi H Q →
    ∃ T id, typeLookup (.type T) "__getitem__" = pure (some (.builtin id)) ∧ s.TypeIs v T ∧ wpAny (model X.prog X.w) X.A (getItem v (.ref sl)) (EP X pins σ Q) X.xe s
theorem SlR.or {r r' : V → Option Int → Option Int → Hp → VK → Prop} (h : SlR X r) (h' : SlR X r') : SlR X (fun x lo hi H Q => r x lo hi H Q ∨ r' x lo hi H Q) := by
  intro pins s σ H x v vl vu lo hi sl Q I rx hs pl pu q
  rcases q with q | q
  · exact h pins s σ H x v vl vu lo hi sl Q I rx hs pl pu q
  · exact h' pins s σ H x v vl vu lo hi sl Q I rx hs pl pu q
def tSl (r : V → Option Int → Option Int → Hp → VK → Prop) (te : TE) (tl th : TO) : TE := fun σ H Q => te σ H fun x H1 => tl σ H1 fun l H2 => th σ H2 fun u H3 => r x l u H3 Q
/-- a[lo:hi], any a -/
theorem pe_slice {r : V → Option Int → Option Int → Hp → VK → Prop} (hr : SlR X r) (he : PE X e te) (hl : PO X lo tl) (hu : PO X hi th) : PE X (.Subscript e (.Slice lo hi none p2) pos) (tSl r te tl th) := by
  intro pins s σ H Q I h
  refine Subscript_ (thn (he pins s σ H _ I h) fun v s1 ⟨x, H1, I1, r1, q1⟩ => ?_)
  refine wpAny_Slice (thn (hl pins s1 σ H1 _ I1 q1) fun vl s2 ⟨l, H2, I2, pl, q2⟩ => thn (hu pins s2 σ H2 _ I2 q2) fun vu s3 ⟨u, H3, I3, pu, q3⟩ => ?_)
  rw [evalPart_none]
  refine wpAny_pure ?_
  have I4 : Inv X pins σ H3 { s3 with heap := s3.heap.push { cls := .type "slice", data := .fields #[vl, vu, .none] } } := I3.kept (t' := s3.toks) fun b ob q => Heap.get?_push_of_some _ q
  obtain ⟨T, id, hT, ht, hg⟩ := hr pins { s3 with heap := s3.heap.push { cls := .type "slice", data := .fields #[vl, vu, .none] } } σ H3 x v vl vu l u s3.heap.objs.size Q I4 r1 (Heap.IsSliceOf.new ..) pl pu q3
  show wpAny (model X.prog X.w) X.A (subscriptTail e (.Slice lo hi none p2) v (.ref s3.heap.objs.size)) (EP X pins σ Q) X.xe { s3 with heap := s3.heap.push { cls := .type "slice", data := .fields #[vl, vu, .none] } }
  exact tail_any (ops := [.ref s3.heap.objs.size, v]) ht hT hg (by with_unfolding_all rfl)

/-- the items of xs[lo:hi] -/
def cutV (xs : List V) (lo hi : Option Int) : List V := (xs.drop (HT.sIx xs.length 0 lo)).take (HT.sIx xs.length xs.length hi - HT.sIx xs.length 0 lo)
theorem cutV_length (xs : List V) (lo hi : Option Int) : (cutV xs lo hi).length ≤ xs.length := by
  unfold cutV
  rw [List.length_take, List.length_drop]
  omega
/-- t[lo:hi], not the whole of it (the whole would be t itself) -/
def rSlT (K : PySem.W.Frag) : V → Option Int → Option Int → Hp → VK → Prop := fun x lo hi H Q => ∃ a xs, x = .ref a ∧ SqT K H a xs ∧
  ¬ (HT.sIx xs.length 0 lo = 0 ∧ HT.sIx xs.length xs.length hi = xs.length) ∧ ∀ p, H p = none → Q (.ref p) (upd H p (.tup (cutV xs lo hi)))
/-! ### t < u, t + u -/
def rLtT (K : PySem.W.Frag) : R2 := fun x y H Q => ∃ a b ns ms, x = .ref a ∧ y = .ref b ∧ SqT K H a (ns.map V.int) ∧ SqT K H b (ms.map V.int) ∧ Q (.bl (HT.lexLt ns ms)) H
/-- t + u, t not empty: u empty gives t itself -/
def rCatT (K : PySem.W.Frag) : R2 := fun x y H Q => ∃ a b xs ys, x = .ref a ∧ y = .ref b ∧ SqT K H a xs ∧ SqT K H b ys ∧ xs ≠ [] ∧ xs.length + ys.length ≤ sizeLine ∧
  (ys = [] → Q (.ref a) H) ∧ (ys ≠ [] → ∀ p, H p = none → Q (.ref p) (upd H p (.tup (xs ++ ys))))
end
end L2

namespace L2
open PySem PySem.Spec PyProof.Rows

/-! ### places -/
/-- the place that an index of any sign means -/
def ixN (n : Nat) (i : Int) : Option Nat := if 0 ≤ i then (if i < n then some i.toNat else none) else if -(n : Int) ≤ i then some (i + n).toNat else none
def atI {α : Type} (xs : List α) (i : Int) : Option α := (ixN xs.length i).bind fun j => xs[j]?
theorem ixN_seq {n : Nat} {i : Int} {j : Nat} (h : ixN n i = some j) : seqIndex? i n = some j ∧ j < n ∧ -(n : Int) ≤ i ∧ i < n := by
  unfold ixN at h
  by_cases h0 : 0 ≤ i
  · rw [if_pos h0] at h
    by_cases h1 : i < n
    · rw [if_pos h1] at h
      have e : i.toNat = j := Option.some.inj h
      exact ⟨by rw [seqIndex_of h0 h1, e], by omega, by omega, h1⟩
    · rw [if_neg h1] at h; cases h
  · rw [if_neg h0] at h
    by_cases h1 : -(n : Int) ≤ i
    · rw [if_pos h1] at h
      have e : (i + n).toNat = j := Option.some.inj h
      exact ⟨by rw [seqIndex_neg (by omega) h1, e], by omega, h1, by omega⟩
    · rw [if_neg h1] at h; cases h
theorem atI_get {α : Type} {xs : List α} {i : Int} {v : α} (h : atI xs i = some v) : ∃ j, seqIndex? i xs.length = some j ∧ xs[j]? = some v ∧ j < xs.length ∧ -(xs.length : Int) ≤ i ∧ i < xs.length := by
  unfold atI at h
  cases e : ixN xs.length i with
  | none => rw [e] at h; cases h
  | some j =>
    rw [e] at h
    obtain ⟨h1, h2, h3, h4⟩ := ixN_seq e
    exact ⟨j, h1, h, h2, h3, h4⟩
theorem atI_nat {α : Type} {xs : List α} {j : Nat} {v : α} (h : xs[j]? = some v) : atI xs (j : Int) = some v := by
  have hj : j < xs.length := (List.getElem?_eq_some_iff.mp h).1
  have e : ixN xs.length (j : Int) = some j := by
    unfold ixN
    rw [if_pos (by omega), if_pos (by omega)]; simp
  unfold atI; rw [e]; exact h
/-! ### what may be subscripted -/
/-- what stands as an index of a plain subscript -/
def PlainIx (b : Expr) : Prop := ∀ o i, subscripted b false o i = operate [o, i] (getItem o i)
/-- a subscript by values -/
def IxR (X : Cx) (r : R2) : Prop :=
  ∀ (value slice : Expr) (pins : List (Addr × Obj)) (s : Shared) (σ : St) (H : Hp) (x y : V) (v u : Value) (Q : VK), Inv X pins σ H s → RelV x v → RelV y u → r x y H Q →
    subscripted slice false v u = operate [v, u] (getItem v u) → wpAny (model X.prog X.w) X.A (subscriptTail value slice v u) (EP X pins σ Q) X.xe s
/-- a call of a builtin's method by values: the receiver, the arguments -/
def MtR (X : Cx) (id : String) (r : V → List V → Hp → VK → Prop) : Prop :=
  ∀ (pins : List (Addr × Obj)) (s : Shared) (σ : St) (H : Hp) (x : V) (xs : List V) (v : Value) (us : List Value) (Q : VK), Inv X pins σ H s → RelV x v → Vals xs us → r x xs H Q →
    wpAny (model X.prog X.w) X.A (call (.builtin id) (v :: us)) (EP X pins σ Q) X.xe s
section
variable {X : Cx} {a b : Expr} {ta tb : TE} {pos : Pos}
theorem IxR.or {r r' : R2} (h : IxR X r) (h' : IxR X r') : IxR X (fun x y H Q => r x y H Q ∨ r' x y H Q) := by
  intro value slice pins s σ H x y v u Q I rx ry q hs
  rcases q with q | q
  · exact h value slice pins s σ H x y v u Q I rx ry q hs
  · exact h' value slice pins s σ H x y v u Q I rx ry q hs
theorem MtR.or {id : String} {r r' : V → List V → Hp → VK → Prop} (h : MtR X id r) (h' : MtR X id r') : MtR X id (fun x xs H Q => r x xs H Q ∨ r' x xs H Q) := by
  intro pins s σ H x xs v us Q I rx rs q
  rcases q with q | q
  · exact h pins s σ H x xs v us Q I rx rs q
  · exact h' pins s σ H x xs v us Q I rx rs q
/-- a[b] -/
theorem pe_ix {r : R2} (hr : IxR X r) (ha : PE X a ta) (hb : PE X b tb) (hs : PlainIx b) : PE X (.Subscript a b pos) (tOp r ta tb) := by
  intro pins s σ H Q I h
  exact Subscript_ (binT ha hb I h fun v u s2 x y H2 I2 rx ry q => hr a b pins s2 σ H2 x y v u Q I2 rx ry q (hs _ _))

def rIxL (K : PySem.W.Frag) : R2 := fun x y H Q => ∃ p xs i v, x = .ref p ∧ y = .int i ∧ SqL K H p xs ∧ atI xs i = some v ∧ Q v H
def rIxT (K : PySem.W.Frag) : R2 := fun x y H Q => ∃ p xs i v, x = .ref p ∧ y = .int i ∧ SqT K H p xs ∧ atI xs i = some v ∧ Q v H
def rIxS : R2 := fun x y H Q => ∃ z i c, x = .str z ∧ y = .int i ∧ z.length ≤ sizeLine ∧ atI z.cps.toList i = some c ∧ Q (.str ⟨#[c]⟩) H
theorem ix_list : IxR X (rIxL X.K) := by
  intro value slice pins s σ H x y v u Q I rx ry h hs
  obtain ⟨p, xs, i, z, rfl, rfl, hq, he, q⟩ := h
  cases rx
  obtain ⟨t, rfl⟩ := ry
  obtain ⟨its, r, pl, hz⟩ := I.list hq
  obtain ⟨j, h1, h2, h3, h4, h5⟩ := atI_get he
  obtain ⟨w, ew, rw'⟩ := r.get h2
  have hl := r.length
  have hn := line63
  have fin : EP X pins σ Q w s := ⟨z, H, I, rw', q⟩
  by_cases h0 : 0 ≤ i
  · have hj : i.toNat = j := by
      rw [seqIndex_of h0 h5] at h1
      exact Option.some.inj h1
    exact item_listR pl.isList h0 (by omega) (by rw [hj]; simpa using ew) fin hs
  · have hj : (i + (its.toArray.size : Int)).toNat = j := by
      rw [seqIndex_neg (by omega) h4] at h1
      rw [List.size_toArray, ← hl]
      exact Option.some.inj h1
    exact subscriptTail_builtinR (x := w) pl.isList.typeIs slot_list_getitem.lookup
      (wpAny_getItem_list_neg (Q := fun r s' => r = w ∧ EP X pins σ Q r s') pl.isList (by omega) (by rw [List.size_toArray] <;> omega) (by omega) (by rw [hj]; simpa using ew) ⟨rfl, fin⟩) hs
theorem ix_tup : IxR X (rIxT X.K) := by
  intro value slice pins s σ H x y v u Q I rx ry h hs
  obtain ⟨p, xs, i, z, rfl, rfl, hq, he, q⟩ := h
  cases rx
  obtain ⟨t, rfl⟩ := ry
  obtain ⟨its, r, pl, hz⟩ := I.tuple hq
  obtain ⟨j, h1, h2, h3, h4, h5⟩ := atI_get he
  obtain ⟨w, ew, rw'⟩ := r.get h2
  have hl := r.length
  have hn := line63
  have fin : EP X pins σ Q w s := ⟨z, H, I, rw', q⟩
  exact subscriptTail_builtinR (x := w) pl.typeIs slot_tuple_getitem.lookup
    (getItem_tuple (j := j) (Q := fun r s' => r = w ∧ EP X pins σ Q r s') pl (by omega) (by omega) (by rw [List.size_toArray, ← hl]; exact h1) (by simpa using ew) ⟨rfl, fin⟩) hs
theorem ix_str : IxR X rIxS := by
  intro value slice pins s σ H x y v u Q I rx ry h hs
  obtain ⟨z, i, c, rfl, rfl, hz, he, q⟩ := h
  obtain ⟨t, rfl⟩ := rx
  obtain ⟨t', rfl⟩ := ry
  obtain ⟨j, h1, h2, h3, h4, h5⟩ := atI_get he
  have hl : z.cps.toList.length = z.length := by simp [Str.length]
  rw [hl] at h1 h4 h5
  have hn := line63
  exact tail_any (typeIs_str s z t) slot_str_getitem.lookup (getItem_str (c := c) (by
    have e1 : decide (i < -(2 ^ 63 : Int)) = false := decide_eq_false (by omega)
    have e2 : decide (i ≥ 2 ^ 63) = false := decide_eq_false (by omega)
    rw [e1, e2, Bool.or_false]) (by rw [h1]; simpa using h2) ⟨.str ⟨#[c]⟩, H, I.tok _, ⟨_, rfl⟩, q⟩) hs
/-- list, tuple or str -/
def rIx (K : PySem.W.Frag) : R2 := fun x y H Q => rIxL K x y H Q ∨ rIxT K x y H Q ∨ rIxS x y H Q
/-! ### xs[i] = v, any sign -/
theorem Inv.lst {pins : List (Addr × Obj)} {σ : St} {H : Hp} {s : Shared} {p : Addr} {xs : List V} (I : Inv X pins σ H s) (h : H p = some (.lst xs)) :
    ∃ (its : List Value) (n : Nat), Vals xs its ∧ s.heap.get? p = some { cls := .type "list", data := .seq its.toArray n } ∧ xs.length ≤ sizeLine := by
  obtain ⟨z, its, n, r, e⟩ := I.hok p _ h
  exact ⟨its, n, r, e, z⟩
def rSetL : V → V → V → Hp → (Hp → Prop) → Prop := fun o i v H Q => ∃ p xs k j, o = .ref p ∧ i = .int k ∧ H p = some (.lst xs) ∧ ixN xs.length k = some j ∧ Q (upd H p (.lst (xs.set j v)))
/-! ### slices -/
theorem slice_bounds (lo hi : Option Int) (n : Nat) : (sliceBounds lo hi none n).1 = ((HT.sIx n 0 lo : Nat) : Int) ∧ (sliceBounds lo hi none n).2.1 = ((HT.sIx n n hi : Nat) : Int) ∧ (sliceBounds lo hi none n).2.2 = 1 := by
  refine ⟨?_, ?_, rfl⟩
  · cases lo with
    | none => simp [sliceBounds, HT.sIx]
    | some i =>
      simp only [sliceBounds, HT.sIx, Option.getD_none, show (1 : Int) > 0 by decide, if_true]
      by_cases h : i < 0
      · simp only [h, if_true] <;> omega
      · simp only [h, if_false] <;> omega
  · cases hi with
    | none => simp [sliceBounds, HT.sIx]
    | some i =>
      simp only [sliceBounds, HT.sIx, Option.getD_none, show (1 : Int) > 0 by decide, if_true]
      by_cases h : i < 0
      · simp only [h, if_true] <;> omega
      · simp only [h, if_false] <;> omega
theorem slicePick_cut (its : List Value) (lo hi : Option Int) : slicePick its.toArray lo hi none = ((its.drop (HT.sIx its.length 0 lo)).take (HT.sIx its.length its.length hi - HT.sIx its.length 0 lo)).toArray := by
  obtain ⟨h1, h2, h3⟩ := slice_bounds lo hi its.toArray.size
  unfold slicePick
  rw [h1, h2, h3]
  simp only [sliceRange_one, pick_run, List.size_toArray] <;> rfl
/-- xs[lo:hi] of a list: a new list -/
def rSlL (K : PySem.W.Frag) : V → Option Int → Option Int → Hp → VK → Prop := fun x lo hi H Q => ∃ a xs, x = .ref a ∧ SqL K H a xs ∧ ∀ p, H p = none → Q (.ref p) (upd H p (.lst (cutV xs lo hi)))
theorem sl_list : SlR X (rSlL X.K) := by
  intro pins s σ H x v vl vu lo hi sl Q I rx hs pl pu h
  obtain ⟨a, xs, rfl, hx, q⟩ := h
  cases rx
  obtain ⟨its, r, ht, hz⟩ := I.list hx
  have hlen := r.length
  refine ⟨"list", _, slot_list_getitem.lookup, ht.isList.typeIs, ?_⟩
  refine wpAny_getItem_list_slice ht.isList hs pl pu .none (by simp) ?_ (by rw [List.size_toArray] <;> omega)
  rw [slicePick_cut, ← hlen]
  refine ⟨.ref s.heap.objs.size, _, I.laid (t' := s.toks) (o := .lst (cutV xs lo hi)) (fun b ob q => Heap.get?_push_of_some _ q) (Nat.le_refl _) ?_, rfl, q _ (I.hok.fresh (Nat.le_refl _))⟩
  exact ⟨Nat.le_trans (cutV_length xs lo hi) hz, _, 0, (r.drop (HT.sIx xs.length 0 lo)).take (HT.sIx xs.length xs.length hi - HT.sIx xs.length 0 lo), Heap.get?_push_size _ rfl⟩

/-! ### in, not in: flat items -/
def flatV : V → Bool
  | .non => true
  | .bl _ => true
  | .int _ => true
  | .str _ => true
  | _ => false
/-- == of flat values -/
def eqV : V → V → Bool
  | .non, .non => true
  | .bl a, .bl b => a == b
  | .bl a, .int b => (if a then 1 else 0) == b
  | .int a, .bl b => a == (if b then 1 else 0)
  | .int a, .int b => a == b
  | .str a, .str b => a == b
  | _, _ => false
theorem eqAt_V {A : Around} {s : Shared} {y x : V} {u v : Value} (ry : RelV y u) (rx : RelV x v) (fy : flatV y = true) (fx : flatV x = true) : SeqAt.EqAt A s u v (eqV y x) := by
  cases y with
  | non =>
    cases ry
    cases x with
    | non => cases rx; exact SeqAt.EqAt.same _
    | bl b => cases rx; exact SeqAt.EqAt.none_bool b
    | int b => obtain ⟨t, rfl⟩ := rx; exact SeqAt.EqAt.none_int b t
    | str b => obtain ⟨t, rfl⟩ := rx; exact SeqAt.EqAt.none_str b t
    | _ => exact absurd (show false = true from fx) Bool.false_ne_true
  | bl a =>
    cases ry
    cases x with
    | non => cases rx; exact SeqAt.EqAt.bool_none a
    | bl b => cases rx; exact SeqAt.EqAt.bool_bool a b
    | int b => obtain ⟨t, rfl⟩ := rx; exact SeqAt.EqAt.bool_int a b t
    | str b => obtain ⟨t, rfl⟩ := rx; exact SeqAt.EqAt.bool_str a b t
    | _ => exact absurd (show false = true from fx) Bool.false_ne_true
  | int a =>
    obtain ⟨t', rfl⟩ := ry
    cases x with
    | non => cases rx; exact SeqAt.EqAt.int_none a t'
    | bl b => cases rx; exact SeqAt.EqAt.int_bool a t' b
    | int b => obtain ⟨t, rfl⟩ := rx; exact SeqAt.EqAt.int_int a t' b t
    | str b => obtain ⟨t, rfl⟩ := rx; exact SeqAt.EqAt.int_str a t' b t
    | _ => exact absurd (show false = true from fx) Bool.false_ne_true
  | str a =>
    obtain ⟨t', rfl⟩ := ry
    cases x with
    | non => cases rx; exact SeqAt.EqAt.str_none a t'
    | bl b => cases rx; exact SeqAt.EqAt.str_bool a t' b
    | int b => obtain ⟨t, rfl⟩ := rx; exact SeqAt.EqAt.str_int a t' b t
    | str b => obtain ⟨t, rfl⟩ := rx; exact SeqAt.EqAt.str_str a t' b t
    | _ => exact absurd (show false = true from fx) Bool.false_ne_true
  | _ => exact absurd (show false = true from fy) Bool.false_ne_true
/-- the items' answers, read off the values (a value's own answer does not lean on its token) -/
def eqU (x : V) (u : Value) : Bool := match u with
  | .none => eqV .non x
  | .bool b => eqV (.bl b) x
  | .int i _ => eqV (.int i) x
  | .str z _ => eqV (.str z) x
  | _ => false
theorem eqU_of {x y : V} {u : Value} (r : RelV y u) (f : flatV y = true) : eqU x u = eqV y x := by
  cases y with
  | non => cases r; rfl
  | bl b => cases r; rfl
  | int i => obtain ⟨t, rfl⟩ := r; rfl
  | str z => obtain ⟨t, rfl⟩ := r; rfl
  | _ => exact absurd (show false = true from f) Bool.false_ne_true
theorem any_eqU {x : V} : ∀ {xs : List V} {us : List Value}, Vals xs us → xs.all flatV = true → us.any (eqU x) = xs.any fun y => eqV y x
  | _, _, .nil, _ => rfl
  | y :: xs, u :: us, .cons r t, f => by
    rw [List.all_cons, Bool.and_eq_true] at f
    rw [List.any_cons, List.any_cons, eqU_of r f.1, any_eqU t f.2]
theorem mem_eqAt {A : Around} {s : Shared} {x : V} {v : Value} (rx : RelV x v) (fx : flatV x = true) : ∀ {xs : List V} {us : List Value}, Vals xs us → xs.all flatV = true → ∀ u ∈ us, SeqAt.EqAt A s u v (eqU x u)
  | _, _, .nil, _ => fun u hu => by cases hu
  | y :: xs, u :: us, .cons r t, f => fun u' hu => by
    rw [List.all_cons, Bool.and_eq_true] at f
    rcases List.mem_cons.mp hu with rfl | hu
    · rw [eqU_of r f.1]; exact eqAt_V r rx f.1 fx
    · exact mem_eqAt rx fx t f.2 u' hu
def inV (x : V) (xs : List V) : Bool := xs.any fun y => eqV y x
/-- x in a list or tuple of flat items -/
def rIn (K : PySem.W.Frag) (neg : Bool) : R2 := fun x y H Q => ∃ p xs, y = .ref p ∧ (SqL K H p xs ∨ SqT K H p xs) ∧ flatV x = true ∧ xs.all flatV = true ∧ Q (.bl (if neg then !inV x xs else inV x xs)) H
theorem op_in_seq : OpR X (compareOp .In) (rIn X.K false) := by
  intro pins s σ H x y v u Q I rx ry h
  obtain ⟨p, xs, rfl, hq, fx, fs, q⟩ := h
  cases ry
  rcases hq with hq | hq
  · obtain ⟨its, r, pl, hz⟩ := I.list hq
    refine SeqAt.in_listAt (eqU x) pl.isList (fun w hw => mem_eqAt rx fx r fs w (by simpa using hw)) ⟨.bl _, H, I, rfl, ?_⟩
    rw [show its.toArray.any (eqU x) = its.any (eqU x) by simp, any_eqU r fs]
    exact q
  · obtain ⟨its, r, pl, hz⟩ := I.tuple hq
    refine SeqAt.in_tupleAt (eqU x) pl (fun w hw => mem_eqAt rx fx r fs w (by simpa using hw)) ⟨.bl _, H, I, rfl, ?_⟩
    rw [show its.toArray.any (eqU x) = its.any (eqU x) by simp, any_eqU r fs]
    exact q
theorem op_notIn_seq : OpR X (compareOp .NotIn) (rIn X.K true) := by
  intro pins s σ H x y v u Q I rx ry h
  obtain ⟨p, xs, rfl, hq, fx, fs, q⟩ := h
  cases ry
  rcases hq with hq | hq
  · obtain ⟨its, r, pl, hz⟩ := I.list hq
    refine SeqAt.notIn_listAt (eqU x) pl.isList (fun w hw => mem_eqAt rx fx r fs w (by simpa using hw)) ⟨.bl _, H, I, rfl, ?_⟩
    rw [show its.toArray.any (eqU x) = its.any (eqU x) by simp, any_eqU r fs]
    exact q
  · obtain ⟨its, r, pl, hz⟩ := I.tuple hq
    refine SeqAt.notIn_tupleAt (eqU x) pl (fun w hw => mem_eqAt rx fx r fs w (by simpa using hw)) ⟨.bl _, H, I, rfl, ?_⟩
    rw [show its.toArray.any (eqU x) = its.any (eqU x) by simp, any_eqU r fs]
    exact q
/-! ### len, list(x), tuple(x) of any list or tuple that is read -/
theorem call_len_seq : CallR X (.builtin "len") (fun xs H Q => ∃ p ys, xs = [.ref p] ∧ (SqL X.K H p ys ∨ SqT X.K H p ys) ∧ Q (.int ys.length) H) := by
  intro pins s σ H xs us Q I r h
  obtain ⟨p, ys, rfl, hq, q⟩ := h
  obtain ⟨u, rfl, rx⟩ := vals1 r
  cases rx
  have hn := line63
  rcases hq with hq | hq
  · obtain ⟨its, r', pl, hz⟩ := I.list hq
    have hlen := r'.length
    exact Calls.call_len_list pl.isList (by simp only [List.size_toArray] <;> omega) ⟨.int ys.length, H, I.tok _, ⟨s.toks + 1, by rw [List.size_toArray, hlen]⟩, q⟩
  · obtain ⟨its, r', pl, hz⟩ := I.tuple hq
    have hlen := r'.length
    exact len_tuple pl (by simp only [List.size_toArray] <;> omega) ⟨.int ys.length, H, I.tok _, ⟨s.toks + 1, by rw [List.size_toArray, hlen]⟩, q⟩
theorem call_len_str : CallR X (.builtin "len") (fun xs H Q => ∃ z, xs = [.str z] ∧ z.length ≤ sizeLine ∧ Q (.int z.length) H) := by
  intro pins s σ H xs us Q I r h
  obtain ⟨z, rfl, hz, q⟩ := h
  obtain ⟨u, rfl, t, rfl⟩ := vals1 r
  have hn := line63
  exact len_str (by omega) ⟨.int z.length, H, I.tok _, ⟨_, rfl⟩, q⟩
theorem CallR.or {f : Value} {r r' : List V → Hp → VK → Prop} (h : CallR X f r) (h' : CallR X f r') : CallR X f (fun xs H Q => r xs H Q ∨ r' xs H Q) := by
  intro pins s σ H xs us Q I rs q
  rcases q with q | q
  · exact h pins s σ H xs us Q I rs q
  · exact h' pins s σ H xs us Q I rs q
theorem call_tuple_of : CallR X (.type "tuple") (fun xs H Q => ∃ p ys, xs = [.ref p] ∧ ((SqL X.K H p ys ∧ ∀ l, H l = none → Q (.ref l) (upd H l (.tup ys))) ∨ (SqT X.K H p ys ∧ Q (.ref p) H))) := by
  intro pins s σ H xs us Q I r h
  obtain ⟨p, ys, rfl, h⟩ := h
  obtain ⟨u, rfl, rx⟩ := vals1 r
  cases rx
  rcases h with ⟨hq, q⟩ | ⟨hq, q⟩
  · obtain ⟨its, r', pl, hz⟩ := I.list hq
    have hlen := r'.length
    refine call_tuple_list pl.isList (fun h' kp => ?_) (by simp only [List.size_toArray] <;> omega)
    have I1 : Inv X pins σ H { s with heap := h' } := I.kept (t' := s.toks) kp
    have I2 : Inv X pins σ (upd H h'.objs.size (.tup ys)) { s with heap := h'.push { cls := .type "tuple", data := .seq its.toArray } } :=
      I1.laid (t' := s.toks) (fun b o e => Heap.get?_push_of_some _ e) (Nat.le_refl _) (show ObjOk X.prog X.w _ _ _ (.tup ys) from ⟨hz, its, r', IsTup.new _ _⟩)
    exact ⟨.ref h'.objs.size, _, I2, rfl, q _ (I1.hok.fresh (Nat.le_refl _))⟩
  · obtain ⟨its, r', pl, hz⟩ := I.tuple hq
    exact call_tuple_same pl ⟨.ref p, H, I, rfl, q⟩

/-! ### the call of a builtin's method: o.m(..) -/
/-- the value is of that builtin type -/
def tyV (K : PySem.W.Frag) (T : String) (x : V) (H : Hp) : Prop := match x with
  | .str _ => T = "str"
  | .int _ => T = "int"
  | .ref p => (T = "list" ∧ ∃ xs, SqL K H p xs) ∨ (T = "tuple" ∧ ∃ o, K.lookup p = some o ∧ o.cls = .type "tuple" ∧ o.dict = none) ∨
      (T = "dict" ∧ ((∃ kvs, H p = some (.dK kvs)) ∨ ∃ kvs, H p = some (.dT kvs))) ∨ (T = "set" ∧ ∃ S n, H p = some (.set S n))
  | _ => False
theorem tyV_is {pins : List (Addr × Obj)} {σ : St} {H : Hp} {s : Shared} {T : String} {x : V} {v : Value} (I : Inv X pins σ H s) (r : RelV x v) (ty : tyV X.K T x H) :
    s.TypeIs v T ∧ ∀ a, v = .ref a → ∃ ob, s.heap.get? a = some ob ∧ ob.dict = none := by
  cases x with
  | str z =>
    obtain ⟨t, rfl⟩ := r
    cases (show T = "str" from ty)
    exact ⟨typeIs_str s z t, fun _ e => nomatch e⟩
  | int i =>
    obtain ⟨t, rfl⟩ := r
    cases (show T = "int" from ty)
    exact ⟨typeIs_int s i t, fun _ e => nomatch e⟩
  | ref p =>
    cases r
    rcases ty with ⟨rfl, xs, hq⟩ | ⟨rfl, o, hk, hc, hd⟩ | ⟨rfl, hk⟩ | ⟨rfl, S, n, hk⟩
    · obtain ⟨its, _, pl, _⟩ := I.list hq
      refine ⟨pl.isList.typeIs, fun a e => ?_⟩
      cases e
      obtain ⟨o, n, e, c, hd, _⟩ := pl
      exact ⟨o, e, hd⟩
    · refine ⟨⟨o, I.kIn p o hk, hc⟩, fun a e => ?_⟩
      cases e
      exact ⟨o, I.kIn _ o hk, hd⟩
    · have z : ∃ o, s.heap.get? p = some o ∧ o.ExactDict := by
        rcases hk with ⟨kvs, hk⟩ | ⟨kvs, hk⟩
        · obtain ⟨_, _, _, _, o, _, _, e, ex, _⟩ := I.hok p _ hk
          exact ⟨o, e, ex⟩
        · obtain ⟨_, _, _, _, o, _, _, e, ex, _⟩ := I.hok p _ hk
          exact ⟨o, e, ex⟩
      obtain ⟨o, e, ex⟩ := z
      refine ⟨⟨o, e, ex.1⟩, fun a e2 => ?_⟩
      cases e2
      exact ⟨o, e, ex.2.1⟩
    · obtain ⟨o, _, _, _, e, ex, _⟩ := I.hok p _ hk
      refine ⟨⟨o, e, ex.1⟩, fun a e2 => ?_⟩
      cases e2
      exact ⟨o, e, ex.2.1⟩
  | _ => exact False.elim ty
def tBM0 (K : PySem.W.Frag) (T : String) (r : V → List V → Hp → VK → Prop) (to : TE) : TE := fun σ H Q => to σ H fun x H1 => tyV K T x H1 ∧ r x [] H1 Q
def tBM (K : PySem.W.Frag) (T : String) (r : V → List V → Hp → VK → Prop) (to : TE) (t : TA) : TE := fun σ H Q => to σ H fun x H1 => tyV K T x H1 ∧ t σ H1 fun xs H2 => r x xs H2 Q
variable {o e : Expr} {es : List Expr} {to : TE} {t : TA} {name : Str} {apos cpos : Pos} {T id : String} {r : V → List V → Hp → VK → Prop}
theorem pe_bm0 (pa : PlainAttrs T) (slot : Slot T name id) (hty : typeOf (.builtin id) = pure (.type "method_descriptor")) (hm : MtR X id r) (ho : PE X o to)
    (hbase : attributeBase o name X.env (eval o X.env) = eval o X.env := by rfl) (hline : (apos.endLine == cpos.line) = true := by rfl) : PE X (.Call (.Attribute o name apos) [] [] cpos) (tBM0 X.K T r to) := by
  intro pins s σ H Q I h
  refine wpAny_Call_method0_late hbase hline (thn (ho pins s σ H _ I h) fun v s1 ⟨x, H1, I1, r1, ty, q1⟩ => ?_)
  obtain ⟨h1, h2⟩ := tyV_is I1 r1 ty
  exact ⟨T, id, pa, slot, hty, h1, h2, Calls.callWith_builtin rfl (PySem.evalArgs_none (hm pins s1 σ H1 x [] v [] Q I1 r1 .nil q1))⟩
theorem pe_bm (pa : PlainAttrs T) (slot : Slot T name id) (hty : typeOf (.builtin id) = pure (.type "method_descriptor")) (hm : MtR X id r) (ho : PE X o to) (ha : PA X (e :: es) t)
    (hbase : attributeBase o name X.env (eval o X.env) = eval o X.env := by rfl)
    (hfew : ((backTo cpos (starEach (e :: es) X.env)).all (fun x => !x.1) && (backToKw cpos (keywordEach [] X.env)).all (fun x => x.1.isSome)
      && decide ((e :: es).length + ([] : List Keyword).length + (if ([] : List Keyword).isEmpty then 0 else 1) < 30)) = true := by rfl)
    (hline : (apos.endLine == cpos.line) = true := by rfl) (hs : starEach (e :: es) X.env = (false, eval e X.env) :: starEach es X.env := by rfl) (hplain : (backTo cpos (starEach es X.env)).any (·.1) = false := by rfl) :
    PE X (.Call (.Attribute o name apos) (e :: es) [] cpos) (tBM X.K T r to t) := by
  intro pins s σ H Q I h
  refine wpAny_Call_method_late hbase hfew hline rfl (thn (ho pins s σ H _ I h) fun v s1 ⟨x, H1, I1, r1, ty, q1⟩ => ?_)
  obtain ⟨h1, h2⟩ := tyV_is I1 r1 ty
  refine ⟨T, id, pa, slot, hty, h1, h2, ?_⟩
  have hA := ha cpos pins s1 σ H1 _ I1 q1
  rw [hs] at hA ⊢
  refine Calls.callWith_builtin (by show (false || (backTo cpos (starEach es X.env)).any (·.1)) = false; rw [hplain] <;> rfl) (Calls.evalArgs_plain ?_)
  exact thn hA fun us s2 ⟨vs, H2, I2, r2, q2⟩ => hm pins s2 σ H2 x vs v us Q I2 r1 r2 q2
/- xs.append(e), list.index on a module's tuple .. are MtR facts of 06m -/
end
end L2

namespace L2
open PySem PySem.Spec PyProof.Rows

def MtM (X : Cx) (id : String) (r : V → List V → Hp → VK → Prop) : Prop :=
  ∀ (pins : List (Addr × Obj)) (s : Shared) (σ : St) (H : Hp) (x : V) (xs : List V) (v : Value) (us : List Value) (Q : VK), Inv X pins σ H s → RelV x v → Vals xs us → r x xs H Q →
    wpAny (model X.prog X.w) X.A (call (.builtin id) (v :: us)) (EP X pins σ Q) X.xe s

/-! ### lists of values -/
theorem Vals.one : ∀ {x : V} {us : List Value}, Vals [x] us → ∃ u, us = [u] ∧ RelV x u
  | _, _, .cons r .nil => ⟨_, rfl, r⟩
theorem Vals.two : ∀ {x y : V} {us : List Value}, Vals [x, y] us → ∃ u v, us = [u, v] ∧ RelV x u ∧ RelV y v
  | _, _, _, .cons r (.cons q .nil) => ⟨_, _, rfl, r, q⟩
theorem Vals.zero : ∀ {us : List Value}, Vals [] us → us = []
  | _, .nil => rfl
theorem Vals.dropLast {xs : List V} {us : List Value} (h : Vals xs us) : Vals xs.dropLast us.dropLast := by
  induction h with
  | nil => exact .nil
  | cons r t ih =>
    cases t with
    | nil => exact .nil
    | cons q t' => exact .cons r ih
theorem Vals.eraseIdx : ∀ {xs : List V} {us : List Value} (i : Nat), Vals xs us → Vals (xs.eraseIdx i) (us.eraseIdx i)
  | _, _, _, .nil => .nil
  | _, _, 0, .cons _ t => t
  | _, _, i + 1, .cons r t => .cons r (Vals.eraseIdx i t)
theorem Vals.reverse {xs : List V} {us : List Value} (h : Vals xs us) : Vals xs.reverse us.reverse := by
  induction h with
  | nil => exact .nil
  | cons r t ih => rw [List.reverse_cons, List.reverse_cons]; exact Vals.append ih (.cons r .nil)
section
variable {X : Cx} {pins : List (Addr × Obj)} {σ : St} {H : Hp} {s : Shared} {l b : Addr} {xs ys zs : List V}

/-! ### the two steps: a tracked list is rewritten, a new list is laid -/
theorem Inv.lset {its its' : List Value} {n : Nat} {f : Array Value → Array Value} {t' : Nat} (I : Inv X pins σ H s) (hH : H l = some (.lst xs))
    (e : s.heap.get? l = some { cls := .type "list", data := .seq its.toArray n }) (hf : f its.toArray = its'.toArray) (hv : Vals ys its') (hz : ys.length ≤ sizeLine) :
    Inv X pins σ (upd H l (.lst ys)) { s with heap := s.heap.update l (Obj.mapSeq f), toks := t' } := by
  have q := PySem.IsL.update e f
  rw [hf] at q
  refine I.write (x := l) (e := l) (by rw [hH]; exact trivial) (.inl rfl) (fun b' u hb hu => (Heap.get?_update_other s.heap (Obj.mapSeq f) (Ne.symm hb)).trans hu) ⟨_, q⟩ ?_
  exact ⟨hz, its', _, hv, q⟩
theorem Inv.lnew {its : List Value} {t' : Nat} (I : Inv X pins σ H s) (hv : Vals ys its) (hz : ys.length ≤ sizeLine) :
    Inv X pins σ (upd H s.heap.objs.size (.lst ys)) { s with heap := s.heap.push { cls := .type "list", data := .seq its.toArray }, toks := t' } :=
  I.laid (fun _ _ q => Heap.get?_push_of_some _ q) (Nat.le_refl _) ⟨hz, its, 0, hv, Heap.get?_push_size _ rfl⟩
theorem Inv.fresh (I : Inv X pins σ H s) : H s.heap.objs.size = none := I.hok.fresh (Nat.le_refl _)
theorem Inv.lstM (I : Inv X pins σ H s) (hH : H l = some (.lst xs)) : xs.length ≤ sizeLine ∧ ∃ (its : List Value) (n : Nat), Vals xs its ∧ xs.length = its.length ∧ s.heap.get? l = some { cls := .type "list", data := .seq its.toArray n } := by
  obtain ⟨z, its, n, r, e⟩ := I.hok l _ hH
  exact ⟨z, its, n, r, r.length, e⟩

end

section
variable {X : Cx}

/-! ### methods -/
def rAppend : V → List V → Hp → VK → Prop := fun x vs H Q => ∃ l xs y, x = .ref l ∧ vs = [y] ∧ H l = some (.lst xs) ∧ xs.length < sizeLine ∧ Q .non (upd H l (.lst (xs ++ [y])))
theorem mt_append : MtM X "list.append" rAppend := by
  intro pins s σ H x vs v us Q I rx rv h
  obtain ⟨l, xs, y, rfl, rfl, hH, hz, q⟩ := h
  cases rx
  obtain ⟨u, rfl, ru⟩ := rv.one
  obtain ⟨z, its, n, r, hl, e⟩ := I.lstM hH
  refine call_meets F.slot_list_append ⟨_, e, rfl⟩ F.entry_list_append (F.args_list_append_2 _ _) (PySem.list_append l its.toArray n u (by rw [List.size_toArray]; omega)) ⟨e, ?_⟩
  refine ⟨.non, _, I.lset (its' := its ++ [u]) hH e (by simp) (r.append (.cons ru .nil)) ?_, rfl, q⟩
  rw [List.length_append, List.length_singleton]
  omega

def rExtend : V → List V → Hp → VK → Prop := fun x vs H Q => ∃ l b xs zs, x = .ref l ∧ vs = [.ref b] ∧ H l = some (.lst xs) ∧ H b = some (.lst zs) ∧ xs.length + zs.length ≤ sizeLine ∧ Q .non (upd H l (.lst (xs ++ zs)))
def rPop : V → List V → Hp → VK → Prop := fun x vs H Q => ∃ l xs y, x = .ref l ∧ vs = [] ∧ H l = some (.lst xs) ∧ xs[xs.length - 1]? = some y ∧ Q y (upd H l (.lst xs.dropLast))
def rPopAt : V → List V → Hp → VK → Prop := fun x vs H Q => ∃ l xs i k y, x = .ref l ∧ vs = [.int i] ∧ H l = some (.lst xs) ∧ -(2 ^ 63) ≤ i ∧ i < 2 ^ 63 ∧ seqIndex? i xs.length = some k ∧ xs[k]? = some y ∧ Q y (upd H l (.lst (xs.eraseIdx k)))
def rReverse : V → List V → Hp → VK → Prop := fun x vs H Q => ∃ l xs, x = .ref l ∧ vs = [] ∧ H l = some (.lst xs) ∧ Q .non (upd H l (.lst xs.reverse))
def rClear : V → List V → Hp → VK → Prop := fun x vs H Q => ∃ l xs, x = .ref l ∧ vs = [] ∧ H l = some (.lst xs) ∧ Q .non (upd H l (.lst []))
/-! ### list + list, list += list, list * int -/
def rCat : R2 := fun x y H Q => ∃ l b xs zs, x = .ref l ∧ y = .ref b ∧ H l = some (.lst xs) ∧ H b = some (.lst zs) ∧ xs.length + zs.length ≤ sizeLine ∧ ∀ p, H p = none → Q (.ref p) (upd H p (.lst (xs ++ zs)))
theorem op_cat : OpR X (binaryOp .Add) rCat := by
  intro pins s σ H x y v u Q I rx ry h
  obtain ⟨l, b, xs, zs, rfl, rfl, hH, hB, hz, q⟩ := h
  cases rx
  cases ry
  obtain ⟨z, its, n, r, hl, e⟩ := I.lstM hH
  obtain ⟨z2, its2, n2, r2, hl2, e2⟩ := I.lstM hB
  refine PySem.P.add_list e e2 ?_ (by rw [List.size_toArray, List.size_toArray]; omega)
  have ea : its.toArray ++ its2.toArray = (its ++ its2).toArray := by simp
  rw [ea]
  exact ⟨.ref _, _, I.lnew (t' := s.toks) (r.append r2) (by rw [List.length_append]; omega), rfl, q _ I.fresh⟩
/-- a list times an int (a negative one is nothing) -/
def rRep : R2 := fun x y H Q => ∃ l k xs, x = .ref l ∧ y = .int k ∧ H l = some (.lst xs) ∧ -(2 ^ 63) ≤ k ∧ k < 2 ^ 63 ∧ xs.length * k.toNat ≤ sizeLine ∧
  ∀ p, H p = none → Q (.ref p) (upd H p (.lst (List.replicate k.toNat xs).flatten))
/-! ### del xs[i] -/
end

/-! ### xs[a:b] = ys -/
section
variable {prog : Program} {w : World} {A : Around} {E : Value → Shared → Prop} {s : Shared}
end

section
variable {X : Cx}
end
end L2

namespace Att
open PySem PySem.W PySem.Calls PyProof.Rows

/-! ### the script -/
theorem ints_of_wellAll {P : Params} {h : Heap} : ∀ (ns : List Int) (vs : List Value), WellAll P h vs (ns.map WData.int) → IntsAre vs ns := by
  intro ns
  induction ns with
  | nil =>
    intro vs w
    rw [List.map_nil] at w
    cases w
    exact .nil
  | cons n ns ih =>
    intro vs w
    rw [List.map_cons] at w
    cases w with
    | cons a b =>
      cases a
      exact .cons _ _ (ih _ b)

theorem script_of {l : OpenLaw} {n : Nat} (hn : l.most = some n) {P : Params} {h : Heap} {args : List WData} {vals : List Value}
    (hpre : l.row.toRowW.claim.pre args = true) (hwl : WellAll P h vals args) :
    ∃ a vs ns, vals = [Value.ref a] ∧ args = [WData.list (ns.map WData.int)] ∧ h.get? a = some { cls := .type "list", data := .seq vs.toArray } ∧ IntsAre vs ns ∧ ns.length ≤ n := by
  have hsh : WShape.hasAll [] args [.list .int] = true := (pre_splitW hpre).1
  have hc : l.pre.holds [] { args := args } = true := (pre_splitW hpre).2
  obtain ⟨d, r, rfl, h1, h2⟩ := hasAllW_cons hsh
  obtain rfl := hasAllW_nil h2
  obtain ⟨xs, rfl, h3⟩ := hasW_list h1
  obtain ⟨ns, rfl⟩ := items_int h3
  have hlen : ns.length ≤ n := by
    unfold OpenLaw.pre at hc
    have h4 : (WTm.not (.lt (.lit (.int (n : Int))) (.len (.arg 0)))).holds [] { args := [.list (ns.map .int)] } = true := by
      have h4 := (holds_andW hc).1
      rw [hn] at h4
      exact h4
    have h5 := condW_of h4 (w_not (w_lt w_lit (w_len_list (w_arg rfl))))
    rw [List.length_map] at h5
    refine Nat.le_of_not_lt fun q => ?_
    have q' : (n : Int) < ((ns.length : Nat) : Int) := by omega
    first
      | (rw [decide_eq_true q'] at h5; exact absurd h5 (by decide))
      | (simp at h5; omega)
  cases hwl with
  | cons w1 w2 =>
    cases w2
    cases w1 with
    | list ho hall => exact ⟨_, _, ns, rfl, rfl, ho, ints_of_wellAll ns _ hall, hlen⟩

theorem post_true (l : OpenLaw) (args : List WData) : l.row.toRowW.claim.post args (.bool true) args = true :=
  postW_of (r := l.row.toRowW) (X := (true == true))
    (show WShape.has [] (.bool true) .bool = true by first | rfl | decide | simp [WShape.has, WShape.arms, WShape.armsAll])
    (show (WTm.eq .res (.lit (.bool true))).value [] { args := args, res := some (.bool true), after := args } = some (.bool (true == true)) from w_eq_bool (w_res rfl) w_lit) rfl

/-! ### the attachment: holds_open's last premise (the goal 'hc' behind k_head) from a wpAny of the law's body -/
/-- the same from a codeAny of the CALL (for a layer whose function contracts speak of calls) -/
theorem attach_call {l : OpenLaw} {n : Nat} {q : Program} {loose : List Str} {XP : (Str → Option Value) → Heap → Prop} {YP : World → Heap → Prop} {d : DefRec}
    (hn : l.most = some n) (hdf : d.params.defaults = [])
    (call : ∀ (w : World) (s₀ s₁ : Shared) (mg mb : Str → Option Value) (fa : Addr) (o : Obj) (pm cd doc : Value) (a : Addr) (vs : List Value) (ns : List Int),
      Ground q loose [] XP w s₀ mg mb s₁.heap → YP w s₁.heap →
      s₁.heap.get? fa = some o → o.data = .func (docDef d.name d.params d.body d.scope pm cd doc) → s₁.heap.CodeRec cd d.name → mg d.name = some (.ref fa) →
      s₁.heap.get? a = some { cls := .type "list", data := .seq vs.toArray } → IntsAre vs ns → ns.length ≤ n → s₁.gens = #[] →
      codeAny (model l.prog w) callerA (.call (.ref fa) ⟨[.ref a], []⟩) (fun r s' => r = .ok (.ret (.bool true)) ∧ OldK s₁.heap s'.heap ∧ s'.os = s₁.os ∧ AllBare s'.gens) s₁) :
    WalkO q loose XP YP l.row.toRowW d [] (fun f vs => PySem.call f vs) := by
  intro w s₀ s₁ mg mb G Y fa o pm cd doc dV kV ho hd hcd hD hmg hg args vals as hpre hlay hrd hwl hlo
  obtain rfl : dV = .none := Dflts.none hD hdf
  obtain rfl : kV = .none := Dflts.noKw hD
  obtain ⟨a, vs, ns, rfl, rfl, hobj, hints, hlen⟩ := script_of hn hpre hwl
  refine enter_call (codeAny_mono (call w s₀ s₁ mg mb fa o pm cd doc a vs ns G Y ho (fd_plain hd) hcd hmg hobj hints hlen hg) fun r s' hq => ?_)
  obtain ⟨rfl, h2, h3, h4⟩ := hq
  exact ⟨.inl ⟨.bool true, .bool true, [], rfl, fun _ => rfl, .bool true, post_true l _, fun _ => ⟨List.Pairwise.nil, fun _ hm => (nomatch hm)⟩⟩, h2, h3, h4⟩

/-! ### rules over ANY heap (no ledger) from facts about the written part K: the library's own take a ledger (News) for what they write -/
section
variable {prog : Program} {w : World} {A : Around} {E : Value → Shared → Prop} {s : Shared} {K : Frag}

/-! the whole heap as the ledger: makes every rule that writes through a ledger a rule over any heap -/
def noObjs (h : Heap) : Heap := { h with objs := #[] }
def ledger (h : Heap) (L d : Addr) : List (Addr × Obj) := (List.range h.objs.size).filterMap fun a => if a = L ∨ a = d then none else (h.get? a).map fun o => (a, o)
end
end Att

namespace L2
open PySem PySem.Spec PyProof.Rows

theorem vals_ints : ∀ {vs : List Value} {ns : List Int}, IntsAre vs ns → Vals (ns.map V.int) vs
  | _, _, .nil => .nil
  | _, _, .cons n t h => .cons ⟨t, rfl⟩ (vals_ints h)

/-- nothing is tracked but the script, known to the object (or it is an object of the module) -/
def Only (H : Hp) : Prop := ∀ b, H b = none ∨ ∃ o xs, H b = some (.frz o (.lst xs))

/-- THE HEAD: the law's promise, at the heap behind the top. F, the promise of the law's def, may use that base is part of the heap (so K.In base, base.Ns mainGlobals mg stand in Mod) -/
theorem law_call {P : Program} {w : World} {K : PySem.W.Frag} {mg mb : Str → Option Value} {CX : CXT} {k : Nat} {fa a : Addr} {fd : FuncData} {x : Str} {sp : Sp} {s₁ : Shared} {vs : List Value} {ns : List Int}
    (KX : K.In s₁.heap) (hns : s₁.heap.Ns mainGlobals mg) (hb : s₁.heap.Ns builtinsNs mb) (hbb : ∀ x : Str, x ≠ "__name__" → mb x = bootBuiltins x) (hlim : s₁.heap.NoLimit) (hg : s₁.gens = #[])
    (ha : s₁.heap.get? a = some { cls := .type "list", data := .seq vs.toArray }) (hi : IntsAre vs ns) (hl : ns.length ≤ sizeLine) (hr : Room k callerA)
    (F : ∀ base : Heap, K.In base → base.Ns mainGlobals mg → FnOk P w K mg base CX k fa fd [x] sp) (hbind : ∀ (s : Shared) (u : Value), BindsTo s fd ⟨[u], []⟩ [(x, u)])
    (hsp : ∀ H : Hp, Only H → SqL K H a (ns.map V.int) → sp [.ref a] H (fun v _ => v = .bl true) fun _ _ _ => False)
    (hCX : ∀ H e s', CX [] H s₁ (fun _ _ _ => False) e s' → False) :
    codeAny (model P w) callerA (.call (.ref fa) ⟨[.ref a], []⟩) (fun r s' => r = .ok (.ret (.bool true)) ∧ OldK s₁.heap s'.heap ∧ s'.os = s₁.os ∧ AllBare s'.gens) s₁ := by
  have rv := vals_ints hi
  have lenV := hi.length
  -- from an abstract heap in which nothing but the script may be tracked
  have core : ∀ H : Hp, Only H → SqL K H a (ns.map V.int) → HOk P w H s₁.heap → (∀ b, H b ≠ none → b = a) → (H a ≠ none → K.lookup a = none) →
      codeAny (model P w) callerA (.call (.ref fa) ⟨[.ref a], []⟩) (fun r s' => r = .ok (.ret (.bool true)) ∧ OldK s₁.heap s'.heap ∧ s'.os = s₁.os ∧ AllBare s'.gens) s₁ := by
    intro H hO hS hok hA hK
    have base_of : ∀ {b : Addr} {o : Obj}, s₁.heap.get? b = some o → H b = none → (hidT s₁.heap H).get? b = some o := fun e n => hidT_get e n
    have noA : ∀ {b : Addr} {o : Obj} {es : Array DictEntry} {ep : Nat}, s₁.heap.get? b = some o → o.data = .dict es ep → H b = none := fun {b o es ep} e d => by
      cases q : H b with
      | none => rfl
      | some u =>
        have e' : b = a := hA b (by rw [q]; simp)
        subst e'
        rw [ha] at e; cases e
        have d' : Data.seq vs.toArray _ = Data.dict es ep := d
        cases d'
    have nsK : ∀ {b : Addr} {m : Str → Option Value}, s₁.heap.Ns b m → (hidT s₁.heap H).Ns b m := fun {b m} ⟨o, es, ep, e, d, r⟩ => ⟨o, es, ep, base_of e (noA e d), d, r⟩
    have hKb : K.In (hidT s₁.heap H) := fun b o e => base_of (KX b o e) (by
      cases q : H b with
      | none => rfl
      | some u =>
        have e' : b = a := hA b (by rw [q]; simp)
        subst e'
        rw [hK (by rw [q]; simp)] at e; cases e)
    have hM : Mod K mg (hidT s₁.heap H) := ⟨hKb, nsK hns, ⟨mb, nsK hb, hbb⟩, let ⟨mc, h1, h2⟩ := hlim; ⟨mc, nsK h1, h2⟩⟩
    have e0 : Env0 P w K mg (hidT s₁.heap H) callerA [] s₁ H := ⟨rfl, hM, fun b o e => of_hidT e, Nat.le_of_eq (hidT_size _ _), trivial, fun b hb => absurd (show b ∈ ([] : List Addr) from hb) (by simp), hok, .of_eq hg⟩
    refine codeAny_mono ((F _ hKb (nsK hns)).run callerA [] s₁ H ⟨[.ref a], []⟩ [.ref a] [.ref a] _ _ hr e0 (hbind s₁ (.ref a)) (.cons rfl .nil) (hsp H hO hS)) fun r s' h => ?_
    cases r with
    | error e => exact (hCX H e s' h).elim
    | ok fl =>
      cases fl with
      | next => exact False.elim h
      | brk => exact False.elim h
      | cont => exact False.elim h
      | ret u =>
        obtain ⟨v, H', os, bare, un, hok', r', q⟩ := h
        have q' : v = .bl true := q
        subst q'
        obtain rfl : u = Value.bool true := r'
        refine ⟨rfl, OldK.of_keep fun b o e => ?_, os, bare⟩
        cases q : H b with
        | none => exact un.keep b o e q (by intro z; exact absurd (show b ∈ ([] : List Addr) from z) (by simp)) (by simp)
        | some u =>
          rcases hO b with z | ⟨ob, xs, z⟩
          · rw [q] at z; cases z
          · have z2 := un.frzs b ob _ z
            obtain ⟨e1, _⟩ := hok b _ z
            obtain ⟨e2, _⟩ := hok' b _ z2
            rw [e] at e1; cases e1
            exact e2
  cases hk : K.lookup a with
  | some o =>
    -- the script is one of the module's own objects
    have e := KX a o hk
    rw [ha] at e
    cases e
    refine core (fun _ => none) (fun _ => .inl rfl) (.inr ⟨_, vs.toArray, _, hk, rfl, rfl, rfl, by rw [List.size_toArray, lenV]; exact hl, by simpa using rv⟩) (fun b u z => by have z' : (none : Option HO) = some u := z; cases z') (fun b z => absurd rfl z) fun z => absurd rfl z
  | none =>
    refine core (fun b => if b = a then some (.frz { cls := .type "list", data := .seq vs.toArray } (.lst (ns.map V.int))) else none) (fun b => ?_) (.inl (.inr ⟨{ cls := .type "list", data := .seq vs.toArray }, if_pos rfl⟩)) (fun b u z => ?_) (fun b z => ?_) fun _ => hk
    · by_cases hb : b = a
      · exact .inr ⟨_, _, if_pos hb⟩
      · exact .inl (if_neg hb)
    · by_cases hb : b = a
      · have z' := (if_pos hb).symm.trans z
        cases z'
        subst hb
        exact ⟨ha, by rw [List.length_map]; exact hl, vs, _, rv, ha⟩
      · have z' := (if_neg hb).symm.trans z
        cases z'
    · by_cases hb : b = a
      · exact hb
      · exact absurd (if_neg hb) z
end L2

namespace L2
open PySem PySem.Spec PyProof.Rows

abbrev KOf {K : PySem.W.Frag} {h : Heap} (_ : K.In h) : PySem.W.Frag := K

/-- the goal that k_head leaves (case hc), from the law's promise. F gives the function object fd (K's own) once, then the promise over every base -/
theorem walk_of {l : PySem.W.OpenLaw} {n k : Nat} {q : Program} {loose : List Str} {XP : (Str → Option Value) → Heap → Prop} {YP : World → Heap → Prop} {d : DefRec} {K : Params → PySem.W.Frag} {CX : World → CXT} {sp : World → Sp} {x : Str}
    (hn : l.most = some n) (hn2 : n ≤ sizeLine) (hdf : d.params.defaults = []) (hr : Room k callerA)
    (hY : ∀ (w : World) (h : Heap), YP w h → (K w.params).In h)
    (F : ∀ (w : World) (mg : Str → Option Value) (fa : Addr) (h : Heap), (K w.params).In h → h.Ns mainGlobals mg → mg d.name = some (.ref fa) →
      ∃ fd : FuncData, (∀ (s : Shared) (u : Value), BindsTo s fd ⟨[u], []⟩ [(x, u)]) ∧
        ∀ base : Heap, (K w.params).In base → base.Ns mainGlobals mg → FnOk l.prog w (K w.params) mg base (CX w) k fa fd [x] (sp w))
    (hsp : ∀ (w : World) (H : Hp) (a : Addr) (ns : List Int), ns.length ≤ n → Only H → SqL (K w.params) H a (ns.map V.int) → sp w [.ref a] H (fun v _ => v = .bl true) fun _ _ _ => False)
    (hCX : ∀ (w : World) (H : Hp) (s : Shared) (e : Value) (s' : Shared), CX w [] H s (fun _ _ _ => False) e s' → False) :
    PySem.W.WalkO q loose XP YP l.row.toRowW d [] (fun f vs => PySem.call f vs) := by
  refine Att.attach_call hn hdf fun w s₀ s₁ mg mb fa o pm cd doc a vs ns G Y ho hd hcd hmg hobj hints hlen hg => ?_
  have KX := hY w _ Y
  obtain ⟨fd, hb, hF⟩ := F w mg fa _ KX G.T.g hmg
  exact law_call KX G.T.g G.T.b G.T.builtins G.T.nolimit hg hobj hints (Nat.le_trans hlen hn2) hr hF hb (fun H hO hS => hsp w H a ns hlen hO hS) fun H e s' => hCX w H s₁ e s'
end L2



/-! SHORT WORDS over the layer: a def of the text, its body, what a loop and a test want. -/
namespace L2
open PySem PySem.Spec PyProof.Rows

/-! ### the text by places -/
/-- the j-th statement of a class's body -/
def inClass (s : Stmt) (j : Nat) : Stmt := match s with
  | .ClassDef _ _ _ body _ _ _ _ _ _ _ => body.getD j (.Pass ⟨0, 0, 0, 0⟩)
  | _ => .Pass ⟨0, 0, 0, 0⟩
def defArgs (s : Stmt) : Arguments := match s with
  | .FunctionDef _ a _ _ _ _ _ _ _ _ => a
  | _ => { posonlyargs := [], args := [], vararg := none, kwonlyargs := [], kw_defaults := [], kwarg := none, defaults := [] }
def defBody (s : Stmt) : List Stmt := match s with
  | .FunctionDef _ _ b _ _ _ _ _ _ _ => b
  | _ => []
def defScope (s : Stmt) : Scope := match s with
  | .FunctionDef _ _ _ _ _ _ sc _ _ _ => sc
  | _ => { kind := .function, names := [], isGenerator := false, isCoroutine := false }

/-! ### no exception leaves a def -/
abbrev CX0 : CXT := fun _ _ _ _ _ _ => False
abbrev E0 : XK := fun _ _ _ => False
theorem pass0 {X : Cx} : Passes CX0 X E0 := fun _ _ _ _ _ _ _ h => h.elim

/-! ### a def (or method) of the text as it stands behind the top -/
structure Fun (K : PySem.W.Frag) (x qual : Str) (st : Stmt) (f : Addr) (fd : FuncData) : Prop where
  ex : ∃ (oc : Value) (od : Option Addr) (kV doc pm : Value) (an : Option Addr) (cdv ct : Value) (osl : Array (Option Value)),
    fd = PySem.W.fnOf x qual (defArgs st) (defBody st) (defScope st) .none kV doc pm an cdv ct ∧ K.lookup f = some ⟨oc, od, .func fd, osl⟩ ∧ PySem.W.codeIn K cdv qual = true
  kp : PySem.W.keepIn K (.ref f) = true
section
variable {P : Program} {w : World} {K : PySem.W.Frag} {mg : Str → Option Value} {base : Heap}
/-- THE RULE for a def: its body as a term of rules, and the reading of that term -/
theorem Fun.ok {x qual : Str} {st : Stmt} {f : Addr} {fd : FuncData} {N ps : List Str} {k : Nat} {sp : Sp} (F : Fun K x qual st f fd) (S : FnScope N ps (defScope st)) (len : ∀ vs H Q E, sp vs H Q E → vs.length = ps.length)
    (hbody : ∀ (cdv : Value) (A : Around) (outer : List Env) (s : Shared) (H : Hp) (vs : List V) (Q : VK) (E : XK), Room k (A.deeper (envOfC qual (defScope st) s.heap.objs.size f cdv)) → sp vs H Q E →
      ∃ t, PSs (cxOf CX0 P w K mg base N qual (defScope st) f cdv A outer s H E).nox (defBody st) t ∧ t { nx := fun _ H' => Q .non H', rt := Q } (start N vs) H) : FnOk P w K mg base CX0 (k + 1) f fd ps sp := by
  obtain ⟨oc, od, kV, doc, pm, an, cdv, ct, osl, rfl, lk, hcd⟩ := F.ex
  refine fn_of lk hcd S len fun A outer s H vs Q E hr hsp => ?_
  obtain ⟨t, h, q⟩ := hbody cdv A outer s H vs Q E hr hsp
  exact ⟨t, h.nox, q⟩
/-- how its arguments bind (no defaults): h is «fun _ _ _ _ _ _ us hl => match us, hl with | [_, _], _ => rfl», one _ a parameter -/
theorem Fun.binds {x qual : Str} {st : Stmt} {f : Addr} {fd : FuncData} {ps : List Str} (F : Fun K x qual st f fd)
    (h : ∀ (kV doc pm : Value) (an : Option Addr) (cdv ct : Value) (us : List Value), us.length = ps.length → bindArgs (PySem.W.fnOf x qual (defArgs st) (defBody st) (defScope st) .none kV doc pm an cdv ct) ⟨us, []⟩ = pure (ps.zip us)) : Binds K fd ps [] := by
  obtain ⟨oc, od, kV, doc, pm, an, cdv, ct, osl, rfl, lk, hcd⟩ := F.ex
  exact .all (h kV doc pm an cdv ct)
theorem fun_mk {x qual : Str} {st : Stmt} {f : Addr} {oc : Value} {od an : Option Addr} {osl : Array (Option Value)} {kV doc pm cdv ct : Value} (l : K.lookup f = some ⟨oc, od, .func (PySem.W.fnOf x qual (defArgs st) (defBody st) (defScope st) .none kV doc pm an cdv ct), osl⟩)
    (c : PySem.W.codeIn K cdv qual = true) (k : PySem.W.keepIn K (.ref f) = true) : Fun K x qual st f (PySem.W.fnOf x qual (defArgs st) (defBody st) (defScope st) .none kV doc pm an cdv ct) := ⟨⟨oc, od, kV, doc, pm, an, cdv, ct, osl, rfl, l, c⟩, k⟩
end
/-! ### expressions in short: the name that stands in the i-th slot -/
section
variable {X : Cx}
theorem pv (i : Nat) {x : Str} {pos : Pos} (hN : X.N[i]? = some x := by rfl) (hv : Vis X.env.scope x := by first | exact Or.inl rfl | exact Or.inr (Or.inl rfl) | exact Or.inr (Or.inr rfl)) (hd : (x == ("__debug__" : Str)) = false := by decide)
    (hcd : (x == ("__classdict__" : Str)) = false := by decide) : PE X (.Name x pos) (tVar i) := pe_var hN hv hd hcd
end

/-! ### tests -/
theorem iteF {A B : Prop} (h : B) : if false = true then A else B := by
  rw [if_neg Bool.false_ne_true]
  exact h
theorem iteT {A B : Prop} (h : A) : if true = true then A else B := by
  rw [if_pos rfl]
  exact h
theorem ite2 {c A B : Prop} [Decidable c] (h1 : c → A) (h2 : ¬ c → B) : if c then A else B := by
  by_cases h : c
  · rw [if_pos h]
    exact h1 h
  · rw [if_neg h]
    exact h2 h
/-! ### heaps -/
/-- all that was tracked is as it was -/
def Same (H H' : Hp) : Prop := ∀ b o, H b = some o → H' b = some o
theorem Same.refl (H : Hp) : Same H H := fun _ _ h => h
theorem Same.trans {H H1 H2 : Hp} (a : Same H H1) (b : Same H1 H2) : Same H H2 := fun c o h => b c o (a c o h)
theorem Same.free {H H' : Hp} (e : Same H H') {l : Addr} (h : H' l = Option.none) : H l = Option.none := by
  cases q : H l with
  | none => rfl
  | some o =>
    rw [e l o q] at h
    cases h
theorem Same.seq {K : PySem.W.Frag} {H H' : Hp} {a : Addr} {xs : List V} (e : Same H H') (h : SqL K H a xs) : SqL K H' a xs := by
  rcases h with (h | ⟨o, h⟩) | h
  · exact .inl (.inl (e _ _ h))
  · exact .inl (.inr ⟨o, e _ _ h⟩)
  · exact .inr h

end L2
namespace L2
open PySem PySem.Spec PyProof.Rows

theorem closure_fold (env : Env) : ∀ (names : List (Str × NameKind)) (cs : List (Str × Addr)), (∀ x, (x, NameKind.free) ∈ names → ∃ c, env.cells.lookup x = some c) →
    ∃ cl, (forIn names cs fun (p : Str × NameKind) (cs : List (Str × Addr)) => (if (p.2 == NameKind.free) = true then (do let c ← cellOf env p.1; pure (ForInStep.yield ((p.1, c) :: cs))) else pure (ForInStep.yield cs) : Sem (ForInStep (List (Str × Addr))))) = pure cl ∧
      (∀ x c, cl.lookup x = some c → env.cells.lookup x = some c ∨ cs.lookup x = some c) ∧ (∀ x, (x, NameKind.free) ∈ names → ∃ c, cl.lookup x = some c) ∧ (∀ x c, cs.lookup x = some c → ∃ d, cl.lookup x = some d)
  | [], cs, _ => ⟨cs, by simp, fun _ _ h => .inr h, (fun _ h => nomatch h), fun x c h => ⟨c, h⟩⟩
  | (n, k) :: r, cs, h => by
    by_cases hk : k = NameKind.free
    · subst hk
      obtain ⟨c, hc⟩ := h n (List.mem_cons_self ..)
      obtain ⟨cl, e, a, b, d⟩ := closure_fold env r ((n, c) :: cs) (fun x hx => h x (List.mem_cons_of_mem _ hx))
      have hcell : cellOf env n = pure c := by unfold cellOf; rw [hc]
      refine ⟨cl, ?_, fun x c' hx => ?_, fun x hx => ?_, fun x c' hx => ?_⟩
      · rw [List.forIn_cons]
        simp only [beq_self_eq_true, if_true, hcell, pure_bind]
        exact e
      · rcases a x c' hx with q | q
        · exact .inl q
        · rw [List.lookup_cons] at q
          by_cases hxn : (x == n) = true
          · rw [hxn] at q
            have hx' : x = n := by simpa using hxn
            subst hx'
            have : c = c' := by simpa using q
            subst this
            exact .inl hc
          · rw [Bool.eq_false_iff.mpr hxn] at q
            exact .inr q
      · rcases List.mem_cons.mp hx with q | q
        · have hx' : x = n := congrArg Prod.fst q
          subst hx'
          exact d x c (by rw [List.lookup_cons]; simp)
        · exact b x q
      · have : ∃ d', ((n, c) :: cs).lookup x = some d' := by
          rw [List.lookup_cons]
          by_cases hxn : (x == n) = true
          · rw [hxn]; exact ⟨c, rfl⟩
          · rw [Bool.eq_false_iff.mpr hxn]; exact ⟨c', hx⟩
        obtain ⟨d', hd'⟩ := this
        exact d x d' hd'
    · obtain ⟨cl, e, a, b, d⟩ := closure_fold env r cs (fun x hx => h x (List.mem_cons_of_mem _ hx))
      have hkf : (k == NameKind.free) = false := by simpa using hk
      refine ⟨cl, ?_, a, fun x hx => ?_, d⟩
      · rw [List.forIn_cons]
        simp only [hkf, Bool.false_eq_true, if_false, pure_bind]
        exact e
      · rcases List.mem_cons.mp hx with q | q
        · exact absurd (congrArg Prod.snd q).symm hk
        · exact b x q
theorem closure_ok (env : Env) (scope : Scope) (h : ∀ x, (x, NameKind.free) ∈ scope.names → ∃ c, env.cells.lookup x = some c) :
    ∃ cl, closureFor scope env = pure cl ∧ (∀ x c, cl.lookup x = some c → env.cells.lookup x = some c) ∧ (∀ x, (x, NameKind.free) ∈ scope.names → ∃ c, cl.lookup x = some c) := by
  obtain ⟨cl, e, a, b, _⟩ := closure_fold env scope.names [] h
  refine ⟨cl, ?_, fun x c hx => (a x c hx).elim id (fun z => by simp at z), b⟩
  unfold closureFor
  simp only [bind_pure]
  exact e

/-- the context of a comprehension's block -/
def cxC (X : Cx) (scope : Scope) (N' : List Str) (cl : List (Str × Addr)) (C : Addr) (s₀ : Shared) (H₀ : Hp) (fp : List Addr) (pn : List (Addr × Obj)) : Cx :=
  { X with N := N', s₀ := s₀, H₀ := H₀, env := compEnvC scope cl C X.env, outer := X.stack, ex := fp, fn := fun _ => false, pn := pn, xe := fun _ _ => False }
/-- which names of the block are the frame's own slots -/
inductive Cap (X : Cx) (scope : Scope) : List (Option Nat) → List Str → Prop
  | nil : Cap X scope [] []
  | own {x src N'} : Cap X scope src N' → Cap X scope (none :: src) (x :: N')
  | cap {x i src N'} : X.N[i]? = some x → scope.names.lookup x = some NameKind.free → (X.env.scope.names.lookup x = some NameKind.cell ∨ X.env.scope.names.lookup x = some NameKind.free) → Cap X scope src N' → Cap X scope (some i :: src) (x :: N')
def capSt (src : List (Option Nat)) (σ : St) : St := src.map fun o => match o with | none => none | some i => σ.getD i none
theorem Cap.length {X : Cx} {scope : Scope} : ∀ {src : List (Option Nat)} {N' : List Str}, Cap X scope src N' → src.length = N'.length
  | _, _, .nil => rfl
  | _, _, .own h => congrArg (· + 1) h.length
  | _, _, .cap _ _ _ h => congrArg (· + 1) h.length
theorem Cap.get {X : Cx} {scope : Scope} {σ : St} : ∀ {src : List (Option Nat)} {N' : List Str}, Cap X scope src N' → ∀ (j : Nat) (x : Str) (v : V), N'[j]? = some x → (capSt src σ)[j]? = some (some v) →
    ∃ i : Nat, X.N[i]? = some x ∧ σ[i]? = some (some v) ∧ scope.names.lookup x = some NameKind.free ∧ (X.env.scope.names.lookup x = some NameKind.cell ∨ X.env.scope.names.lookup x = some NameKind.free)
  | _, _, .nil, j, x, v, h, _ => by simp at h
  | _, _, .own h, 0, x, v, _, e => by simp [capSt] at e
  | _, _, .own h, j + 1, x, v, e1, e2 => h.get j x v (by simpa using e1) (by simpa [capSt] using e2)
  | _, _, .cap (x := y) (i := i) hN hf hk h, 0, x, v, e1, e2 => by
    have ex : y = x := by simpa using e1
    subst ex
    refine ⟨i, hN, ?_, hf, hk⟩
    simp only [capSt, List.map_cons, List.getElem?_cons_zero, Option.some.injEq] at e2
    rw [List.getD_eq_getElem?_getD] at e2
    cases q : σ[i]? with
    | none => rw [q] at e2; simp at e2
    | some o => rw [q] at e2; simp at e2; rw [e2]
  | _, _, .cap hN hf hk h, j + 1, x, v, e1, e2 => h.get j x v (by simpa using e1) (by simpa [capSt] using e2)

theorem lookup_relabel (env : Env) (x : Str) : ∀ {names : List (Str × NameKind)},
    (names.map fun (n, k) => if (k == NameKind.free && env.scope.kind == .function && env.kindOf n == some .cell) then (n, NameKind.cell) else (n, k)).lookup x =
      (names.lookup x).map fun k => if (k == NameKind.free && env.scope.kind == .function && env.kindOf x == some .cell) then NameKind.cell else k
  | [] => rfl
  | (n, k) :: r => by
    have ih := @lookup_relabel env x r
    rw [List.map_cons]
    dsimp only
    by_cases hx : (x == n) = true
    · have e : x = n := by simpa using hx
      subst e
      by_cases hc : (k == NameKind.free && env.scope.kind == .function && env.kindOf x == some .cell) = true
      · rw [if_pos hc, List.lookup_cons, List.lookup_cons, hx]
        simp only [Option.map_some]
        rw [if_pos hc]
      · rw [if_neg hc, List.lookup_cons, List.lookup_cons, hx]
        simp only [Option.map_some]
        rw [if_neg hc]
    · have hx' := Bool.eq_false_iff.mpr hx
      by_cases hc : (k == NameKind.free && env.scope.kind == .function && env.kindOf n == some .cell) = true
      · rw [if_pos hc]; simp only [List.lookup_cons, hx']; exact ih
      · rw [if_neg hc]; simp only [List.lookup_cons, hx']; exact ih
theorem lookup_mem_free {names : List (Str × NameKind)} {x : Str} (h : names.lookup x = some NameKind.free) : (x, NameKind.free) ∈ names := PySem.mem_of_lookup h

section
variable {X : Cx}
/-- the block's first state -/
theorem inv_comp {scope : Scope} {N' : List Str} {src : List (Option Nat)} {cl : List (Str × Addr)} {pins : List (Addr × Obj)} {σ : St} {H : Hp} {s s' : Shared} {h' : Heap} {tk : Nat} {fp : List Addr} {m : Str → Option Value}
    (hk : scope.kind = .function) (hcell : ∀ y ∈ scope.names, y.2 ≠ .cell) (hcap : Cap X scope src N')
    (a : ∀ x c, cl.lookup x = some c → X.env.cells.lookup x = some c) (b : ∀ x, (x, NameKind.free) ∈ scope.names → ∃ c, cl.lookup x = some c)
    (I : Inv X pins σ H s) (hf : ∀ b ∈ fp, FpOk X pins H b) (hfl : ∀ b ∈ fp, b < s.heap.objs.size) (es' : s' = { s with heap := h', toks := tk })
    (keep : ∀ b o, s.heap.get? b = some o → h'.get? b = some o) (hn : h'.Ns s.heap.objs.size m) :
    Inv (cxC X scope N' cl s.heap.objs.size s H fp (X.pn ++ pins)) [] (capSt src σ) H s' := by
  subst es'
  have kindOf : ∀ x, (compEnvC scope cl s.heap.objs.size X.env).kindOf x = (scope.names.lookup x).map fun k => if (k == NameKind.free && X.env.scope.kind == .function && X.env.kindOf x == some .cell) then NameKind.cell else k := fun x => lookup_relabel X.env x
  have freeOf : ∀ x, ((compEnvC scope cl s.heap.objs.size X.env).kindOf x = some .cell ∨ (compEnvC scope cl s.heap.objs.size X.env).kindOf x = some .free) → scope.names.lookup x = some .free := fun x h => by
    rw [kindOf] at h
    cases q : scope.names.lookup x with
    | none => rw [q] at h; simp at h
    | some k =>
      rw [q] at h
      by_cases hkf : k = NameKind.free
      · rw [hkf]
      · have hkf' : (k == NameKind.free) = false := by simpa using hkf
        simp only [Option.map_some, hkf', Bool.false_and, Bool.false_eq_true, if_false] at h
        rcases h with h | h
        · exact absurd (Option.some.inj h) (hcell _ (PySem.mem_of_lookup q))
        · exact absurd (Option.some.inj h) hkf
  refine ⟨⟨I.ok.mod, hk, I.ok.glob, I.ok.blt, Nat.le_refl _, fun x y c h1 h2 => I.ok.inj x y c (a x c h1) (a y c h2), fun x hx => b x (lookup_mem_free (freeOf x hx)), (fun x c z _ => nomatch z), I.ok.hd, I.ok.frames, .inl rfl, fun b' hb => ?_, I.bs, Nat.le_trans I.ok.bsz I.sz, fun b' o e hb => ?_, fun b' hb z => ?_, I.stack, I.stkFree⟩,
    rfl, I.bare, Un.kept keep, ⟨m, hn, fun j x v h1 h2 h3 => ?_⟩, fun x c h => ?_, I.hok.fresh (Nat.le_refl _), fun x c h => I.freeC x c (a x c h), fun p hp => ?_, I.hok.kept keep, ?_⟩
  · obtain ⟨f0, f1, f2, f3, f4, f5⟩ := hf b' hb
    exact ⟨Nat.ne_of_lt (hfl b' hb), fun x c h => f4 x c (a x c h)⟩
  · obtain ⟨f0, f1, f2, f3, f4, f5⟩ := hf b' hb
    rcases f3 with z | z
    · exact I.ok.noex b' o e z
    · exact absurd (Nat.lt_of_lt_of_le (Heap.lt_size e) (Nat.le_trans I.ok.bsz z)) (Nat.lt_irrefl _)
  · obtain ⟨f0, f1, f2, f3, f4, f5⟩ := hf b' hb
    rcases List.mem_cons.mp (I.stkSub b' z) with e | e
    · exact f1 e
    · exact f2 e
  · obtain ⟨i, e1, e2, e3, e4⟩ := hcap.get j x v h1 h2
    obtain ⟨m0, hn0, hl⟩ := I.loc
    obtain ⟨u, r, l⟩ := hl i x v e1 e2 (by rcases e4 with e4 | e4; exact .inr (.inl e4); exact .inr (.inr e4))
    refine ⟨u, r, ?_⟩
    rcases l with ⟨l, _⟩ | ⟨k, c, e, z⟩
    · have l' : X.env.scope.names.lookup x = some NameKind.local := l
      rcases e4 with e4 | e4 <;> (rw [e4] at l'; cases l')
    · refine .inr ⟨?_, ?_⟩
      · show (compEnvC scope cl s.heap.objs.size X.env).kindOf x = some .cell ∨ (compEnvC scope cl s.heap.objs.size X.env).kindOf x = some .free
        rw [kindOf, e3]
        simp only [Option.map_some]
        split
        · exact .inl rfl
        · exact .inr rfl
      · obtain ⟨c', hc'⟩ := b x (lookup_mem_free e3)
        have := a x c' hc'
        rw [e] at this
        cases this
        obtain ⟨o, ho, hd⟩ := z
        exact ⟨c, hc', o, keep _ _ ho, hd⟩
  · obtain ⟨v, o, ho, hd⟩ := I.cell x c (a x c h)
    exact ⟨v, o, keep _ _ ho, hd⟩
  · have hp' : p ∈ X.pn ++ pins := by simpa [cxC] using hp
    obtain ⟨e, n, ne, nf, d⟩ := I.pin p hp'
    refine ⟨keep _ _ e, n, Nat.ne_of_lt (Heap.lt_size e), fun z => ?_, d⟩
    rcases List.mem_cons.mp (I.stkSub p.1 z) with q | q
    · exact ne q
    · exact nf q
  · show (capSt src σ).length = N'.length
    rw [← hcap.length]
    simp [capSt]
end
end L2
namespace L2
open PySem PySem.Spec PyProof.Rows

/-! ### list comprehensions of one clause -/
section
variable {prog : Program} {w : World} {A : Around} {R : Result → Shared → Prop} {s : Shared}
/-- the loop, with what goes ahead of the store -/
theorem comp_loop {elt tg iter : Expr} {ifs : List Expr} {scope : Scope} {pos : Pos} {it acc : Value} {env : Env} (J : Nat → Shared → Prop)
    (turn : ∀ n s, J n s → wpAny (model prog w) A (pyNext it) (fun r s₁ => match r with
        | none => R (.ok .next) s₁
        | some v => wpAny (model prog w) A (letOwnedTupleGo tg it v) (fun _ z₁ => wpAny (model prog w) A (assign tg env v) (fun _ s₂ =>
            wpAny (model prog w) A (forIn ifs true fun c r => if r = true then do let ok ← isTrue c env (eval c env); pure (ForInStep.yield ok) else pure (ForInStep.yield r))
              (fun ok s₃ => if ok = true then wpAny (model prog w) A (eval elt env) (fun x s₄ => wpAny (model prog w) A (call (.builtin "list.append") [acc, x]) (fun _ s₅ => ∃ m, m < n ∧ J m s₅) (fun _ _ => False) s₄) (fun _ _ => False) s₃
                else ∃ m, m < n ∧ J m s₃) (fun _ _ => False) s₂) (fun _ _ => False) z₁) (fun _ _ => False) s₁) (fun _ _ => False) s)
    (n : Nat) (h : J n s) : codeAny (model prog w) A (.compLoop (.ListComp elt [⟨tg, iter, ifs, 0⟩] scope pos) 0 it acc env) R s := by
  refine codeAny_loop rfl J (fun n s hJ => ?_) n h
  show wpAny _ A (Sem.onRaise (compTurn (.ListComp elt [⟨tg, iter, ifs, 0⟩] scope pos) 0 it acc env) (fun x => do noteFrame x env; theTreesLotGoes x)) _ _ s
  refine wpAny_noted ?_
  rw [compTurn_list]
  have no : ∀ {E : Value → Shared → Prop}, ∀ (e : Value) (s' : Shared), False → E e s' := fun _ _ f => f.elim
  refine wpAny_bind (wpAny_standAt (wpAny_bind (wpAny_mono (turn n s hJ) (fun r s₁ h₁ => ?_) no)))
  cases r with
  | none => exact wpAny_pure h₁
  | some v =>
    refine wpAny_bind (wpAny_mono h₁ (fun _ z₁ hz => ?_) no)
    refine wpAny_bind (wpAny_mono hz (fun _ s₂ h₂ => wpAny_bind (wpAny_mono h₂ (fun ok s₃ h₃ => ?_) no)) no)
    cases ok with
    | false => exact wpAny_pure ⟨rfl, h₃⟩
    | true =>
      exact wpAny_bind (wpAny_bind (wpAny_mono h₃ (fun x s₄ h₄ => wpAny_bind (wpAny_mono h₄ (fun _ s₅ h₅ => wpAny_pure (wpAny_pure ⟨rfl, h₅⟩)) no)) no))
end

/-- the clause's tests -/
def PTs (X : Cx) (ifs : List Expr) (t : TT) : Prop :=
  ∀ (pins : List (Addr × Obj)) (s : Shared) (σ : St) (H : Hp) (Q : Bool → Hp → Prop), Inv X pins σ H s → t σ H Q →
    wpAny (model X.prog X.w) X.A (forIn ifs true fun c r => if r = true then do let ok ← isTrue c X.env (eval c X.env); pure (ForInStep.yield ok) else pure (ForInStep.yield r)) (TP X pins σ Q) X.xe s
def tYes : TT := fun _ H Q => Q true H
theorem pts_nil {X : Cx} : PTs X [] tYes := fun _ _ _ H _ I h => wpAny_tests_nil ⟨H, I, h⟩
/-- W: the turn, a measure, the items so far, the block's slots, the heap; N: what a turn is to reach -/
def LC (src : List (Option Nat)) (J : It) (g : TG) (tt : TT) (te : TE) (σ : St) (H1 : Hp) (Q : VK) (D : Addr) : Prop := ∃ W : Nat → Nat → List V → St → Hp → Prop, (∃ m, W 0 m [] (capSt src σ) (upd H1 D (.lst []))) ∧
  ∀ i m ys σ' H2, W i m ys σ' H2 → H2 D = some (.lst ys) ∧ ((J.stop i H2 ∧ Q (.ref D) H2) ∨ (J.go i H2 ∧ ∃ N : List V → St → Hp → Prop, (∀ ys' σ3 H3, N ys' σ3 H3 → ∃ m', m' < m ∧ W (i + 1) m' ys' σ3 H3) ∧ ∀ x H3, J.yld i H2 x H3 → g x σ' H3 fun σ2 H4 => tt σ2 H4 fun b H5 =>
    if b = true then te σ2 H5 fun y H6 => H6 D = some (.lst ys) ∧ ys.length < sizeLine ∧ N (ys ++ [y]) σ2 (upd H6 D (.lst (ys ++ [y])))
    else N ys σ2 H5))
def tLC (src : List (Option Nat)) (wi : TI) (g : TG) (tt : TT) (te : TE) : TE := fun σ H Q => wi σ H fun J H1 => ∀ D, H1 D = none → LC src J g tt te σ H1 Q D
section
variable {X : Cx}
theorem pe_lc {elt tg iter : Expr} {ifs : List Expr} {scope : Scope} {pos : Pos} {src : List (Option Nat)} {N' : List Str} {wi : TI} {g : TG} {tt : TT} {te : TE} (hcap : Cap X scope src N') (hc : X.calm = true) (hi : PI X tg iter wi)
    (hg : ∀ cl C s₀ H₀ fp pn, PG (cxC X scope N' cl C s₀ H₀ fp pn) tg g) (ht : ∀ cl C s₀ H₀ fp pn, PTs (cxC X scope N' cl C s₀ H₀ fp pn) ifs tt) (he : ∀ cl C s₀ H₀ fp pn, PE (cxC X scope N' cl C s₀ H₀ fp pn) elt te)
    (hfree : ∀ x, (x, NameKind.free) ∈ scope.names → X.env.scope.names.lookup x = some NameKind.cell ∨ X.env.scope.names.lookup x = some NameKind.free)
    (hk : scope.kind = .function := by rfl) (hcell : ∀ y ∈ scope.names, y.2 ≠ .cell := by decide) (hnames : ∀ y ∈ scope.names, y.2 = .local → scope.names.lookup y.1 = some .local := by decide +kernel)
    (hs : ∀ x, foldedSetIterable iter X.env x = pure x := by intro _; rfl) : PE X (.ListComp elt [⟨tg, iter, ifs, 0⟩] scope pos) (tLC src wi g tt te) := by
  intro pins s σ H Q I h
  have no : ∀ {E : Value → Shared → Prop}, ∀ (e : Value) (s' : Shared), False → E e s' := fun _ _ f => f.elim
  obtain ⟨cl, hcl, a, b⟩ := closure_ok X.env scope fun x hx => I.ok.has x (hfree x hx)
  rw [eval_ListComp]
  refine wpAny_comprehension_free (use := none) rfl hs hcl hk hnames (thn (hi pins s σ H _ I h) fun v s1 h1 => thn h1 fun itv s2 h2 => ?_)
  obtain ⟨it, fp, tn, J, H2, e, I2, T, st2, f2, q⟩ := h2
  subst e
  have hD : H2 s2.heap.objs.size = none := I2.hok.fresh (Nat.le_refl _)
  obtain ⟨W, ⟨m0, w0⟩, turn⟩ := q s2.heap.objs.size hD
  have I3 := I2.lnew (t' := s2.toks) (ys := []) (its := []) .nil (Nat.zero_le _)
  have fl2 : ∀ b ∈ fp, b < s2.heap.objs.size := fun b hb => by
    obtain ⟨o, e, _⟩ := T.obj _ _ st2 b hb
    exact Heap.lt_size e
  refine wpAny_newObj_type ?_
  generalize es3 : ({ s2 with heap := s2.heap.push { cls := .type "list", dict := none, data := .seq ([] : List Value).toArray } } : Shared) = s3
  have I3' : Inv X pins σ (upd H2 s2.heap.objs.size (.lst [])) s3 := es3 ▸ I3
  have keep3 : ∀ b o, s2.heap.get? b = some o → s3.heap.get? b = some o := fun b o e => by rw [← es3]; exact Heap.get?_push_of_some _ e
  have st3 : tn 0 s3.heap := T.keep _ _ _ st2 fun b _ o e => keep3 b o e
  have fl3 : ∀ b ∈ fp, b < s3.heap.objs.size := fun b hb => by
    obtain ⟨o, e, _⟩ := T.obj _ _ st3 b hb
    exact Heap.lt_size e
  have f3 : ∀ b ∈ fp, FpOk X pins (upd H2 s2.heap.objs.size (.lst [])) b := fun b hb => ⟨by rw [upd_ne (Nat.ne_of_lt (fl2 b hb))]; exact (f2 b hb).1, (f2 b hb).2⟩
  generalize eD : s2.heap.objs.size = D at *
  generalize eH3 : upd H2 D (.lst []) = H3 at *
  refine wpAny_newFunctionEnv hcell (by intro y hy; simp at hy) (fun h₁ hns₁ hsb₁ => ?_) hk
  have keep4 : ∀ b o, s3.heap.get? b = some o → h₁.get? b = some o := fun b o e => hsb₁.extBut b o (Nat.ne_of_lt (Heap.lt_size e)) (Heap.get?_push_of_some _ e)
  have I4 := inv_comp (N' := N') (src := src) (tk := s3.toks + ([] : List (Str × Value)).length) hk hcell hcap a b I3' f3 fl3 rfl keep4 hns₁
  -- the iterator's objects, through the block
  have stat : ∀ {H' : Hp}, (∀ b ∈ fp, H' b = none) → ∀ b ∈ fp, FpOk (cxC X scope N' cl s3.heap.objs.size s3 H3 fp (X.pn ++ pins)) [] H' b := fun hn b' hb => by
    obtain ⟨f0, f1, fs, fe, f4, f5⟩ := f3 b' hb
    refine ⟨hn b' hb, Nat.ne_of_lt (fl3 b' hb), fun z => ?_, .inl hb, fun x c h => f4 x c (a x c h), fun p hp => f5 p (by simpa [cxC] using hp)⟩
    rcases List.mem_cons.mp (I3'.stkSub b' z) with e | e
    · exact f1 e
    · exact fs e
  -- behind the block
  have fin : ∀ {H' : Hp} {s' : Shared} {σ' : St} {pins' : List (Addr × Obj)}, Inv (cxC X scope N' cl s3.heap.objs.size s3 H3 fp (X.pn ++ pins)) pins' σ' H' s' → ∀ h', Heap.SameBut s3.heap.objs.size s'.heap h' → Inv X pins σ H' { s' with heap := h' } := fun {H' s' σ' pins'} J' h' sb => by
    have same : ∀ b o, b ≠ s3.heap.objs.size → s'.heap.get? b = some o → h'.get? b = some o := fun b o hb e => sb.extBut b o hb e
    have u : Un (frs X.stack) fp H3 H' s3.heap s'.heap := J'.base
    refine I3'.call' (s' := { s' with heap := h' }) (ch := fp) J'.os ⟨fun b o e n hb hx => ?_, fun b o e n hb hx => ?_, u.free, fun b o e hx => ?_, u.tups, u.frzs, u.tbls⟩ (fun b o e => ?_) J'.bare fun b hb => ?_
    · exact same b o (Nat.ne_of_lt (Heap.lt_size e)) (u.keep b o e n hb hx)
    · obtain ⟨sl, z⟩ := u.slot b o e n hb hx
      exact ⟨sl, same b _ (Nat.ne_of_lt (Heap.lt_size e)) z⟩
    · obtain ⟨o', z⟩ := u.there b o e hx
      exact ⟨o', same b o' (Nat.ne_of_lt (Heap.lt_size e)) z⟩
    · have nC : ∀ c v, H' c = some v → c ≠ s3.heap.objs.size := fun c v z q => by
        have := J'.free
        rw [show (cxC X scope N' cl s3.heap.objs.size s3 H3 fp (X.pn ++ pins)).env.locals = s3.heap.objs.size from rfl, ← q, z] at this
        cases this
      refine (J'.hok b o e).stay (fun c v hc q => same c v ?_ q) (fun _ q => q) fun _ _ q => q
      rcases hc with z | z
      · rw [z]; exact nC b o e
      · exact nC c _ z
    · obtain ⟨f0, f1, fs, fe, f4, f5⟩ := f3 b hb
      exact ⟨fe, f1, f4, f5⟩
  have loop : codeAny (model X.prog X.w) X.A (.compLoop (.ListComp elt [⟨tg, iter, ifs, 0⟩] scope pos) 0 (.ref it) (.ref D) (compEnvC scope cl s3.heap.objs.size X.env))
      (compPost (model X.prog X.w) X.A X.xe none (EP X pins σ Q) (.ref D) s3.heap.objs.size) { s3 with heap := h₁, toks := s3.toks + ([] : List (Str × Value)).length } := by
    refine comp_loop (fun n s' => ∃ i ys σ' H', Inv (cxC X scope N' cl s3.heap.objs.size s3 H3 fp (X.pn ++ pins)) [] σ' H' s' ∧ tn i s'.heap ∧ (∀ b ∈ fp, H' b = none) ∧ W i n ys σ' H') ?_ m0 ⟨0, [], capSt src σ, H3, I4, T.keep _ _ _ st3 fun b _ o e => keep4 b o e, fun b hb => (f3 b hb).1, w0⟩
    rintro n s5 ⟨i, ys, σ5, H5, I5, st5, fr5, w5⟩
    obtain ⟨hDs, stop | go⟩ := turn i n ys σ5 H5 w5
    · obtain ⟨stop, qn⟩ := stop
      refine thn (T.done (cxC X scope N' cl s3.heap.objs.size s3 H3 fp (X.pn ++ pins)) rfl rfl rfl hc i [] s5 σ5 H5 _ I5 (stat fr5) st5 stop) fun r s6 ⟨hr, I6⟩ => ?_
      subst hr
      obtain ⟨m, hn, _⟩ := id I6.loc
      exact ⟨m, hn, fun h' sb => ⟨.ref D, H5, fin I6 h' sb, rfl, qn⟩⟩
    · obtain ⟨go, N, hN, step⟩ := go
      refine thn (T.item (cxC X scope N' cl s3.heap.objs.size s3 H3 fp (X.pn ++ pins)) rfl rfl rfl hc i [] s5 σ5 H5 _ I5 (stat fr5) st5 go) fun r s6 ⟨u, hr, h6⟩ => ?_
      subst hr
      refine thn h6 fun _ s7 ⟨x, H7, I7, r7, y7, st7, fr7⟩ => ?_
      have I7' := I7.pinned (stat fr7) (T.obj _ _ st7)
      have again : ∀ {s8 : Shared} {σ8 : St} {H8 : Hp} {ys' : List V}, Inv (cxC X scope N' cl s3.heap.objs.size s3 H3 fp (X.pn ++ pins)) ([] ++ pinsAt fp s7.heap) σ8 H8 s8 → (∃ m', m' < n ∧ W (i + 1) m' ys' σ8 H8) →
          ∃ m, m < n ∧ ∃ i ys σ' H', Inv (cxC X scope N' cl s3.heap.objs.size s3 H3 fp (X.pn ++ pins)) [] σ' H' s8 ∧ tn i s8.heap ∧ (∀ b ∈ fp, H' b = none) ∧ W i m ys σ' H' := fun {s8 σ8 H8 ys'} I8 ⟨m', hm, w8⟩ => by
        refine ⟨m', hm, i + 1, ys', σ8, H8, I8.unpinned, T.keep _ _ _ st7 fun b hb o e => (I8.pin (b, o) (List.mem_append_right _ (List.mem_append_right _ (mem_pinsAt hb e)))).1, fun b hb => ?_, w8⟩
        obtain ⟨o, e, d⟩ := T.obj _ _ st7 b hb
        exact (I8.pin (b, o) (List.mem_append_right _ (List.mem_append_right _ (mem_pinsAt hb e)))).2.1
      refine thn (hg cl _ s3 H3 fp _ _ s7 σ5 H7 x u _ I7' r7 (step x H7 y7)) fun _ s8 ⟨σ8, H8, I8, q8⟩ => ?_
      refine thn (ht cl _ s3 H3 fp _ _ s8 σ8 H8 _ I8 q8) fun ok s9 ⟨H9, I9, q9⟩ => ?_
      cases ok with
      | false => exact again I9 (hN _ _ _ q9)
      | true =>
        rw [if_pos rfl]
        refine thn (he cl _ s3 H3 fp _ _ s9 σ8 H9 _ I9 q9) fun y s10 ⟨yv, H10, I10, r10, q10⟩ => ?_
        obtain ⟨hDy, hlen, w10⟩ := q10
        refine thn (mt_append (X := cxC X scope N' cl s3.heap.objs.size s3 H3 fp (X.pn ++ pins)) _ s10 σ8 H10 (.ref D) [yv] (.ref D) [y] (fun _ H' => H' = upd H10 D (.lst (ys ++ [yv]))) I10 rfl (.cons r10 .nil) ⟨D, ys, yv, rfl, rfl, hDy, hlen, rfl⟩) fun _ s11 ⟨_, H11, I11, _, e11⟩ => ?_
        subst e11
        exact again I11 (hN _ _ _ w10)
  exact codeAny_compStart_list loop (T.self _ 0 _ _ _ (T.keep _ _ _ st3 fun b _ o e => keep4 b o e) loop)
end
end L2
namespace L2
open PySem PySem.Spec PyProof.Rows

/-! ### texts: slices -/
def cutS (x : Str) (lo hi : Option Int) : Str := ⟨((x.cps.toList.drop (HT.sIx x.length 0 lo)).take (HT.sIx x.length x.length hi - HT.sIx x.length 0 lo)).toArray⟩
def rSlS : V → Option Int → Option Int → Hp → VK → Prop := fun x lo hi H Q => ∃ z, x = .str z ∧ z.length ≤ sizeLine ∧ Q (.str (cutS z lo hi)) H
section
variable {X : Cx}
/-! ### texts: their signs, one after another -/
def Its (x : Str) : It := ⟨fun i _ => i < x.length, fun i H v H' => H' = H ∧ ∃ c, x.cps.toList[i]? = some c ∧ v = .str ⟨#[c]⟩, fun i _ => x.length ≤ i⟩
theorem turn_str {P : Program} {w : World} {K : PySem.W.Frag} {tg : Expr} (x : Str) (t : Tok) (it : Addr) : Turn P w K tg (Its x) [it] it (fun i h => h.IsStrIter it "str_ascii_iterator" x t i ∨ h.IsStrIter it "str_iterator" x t i) where
  mem := by simp
  obj := fun i h st b hb => by
    have e : b = it := by simpa using hb
    subst e
    rcases st with ⟨o, e, c, d⟩ | ⟨o, e, c, d⟩ <;> exact ⟨o, e, fun v z => by rw [d] at z; cases z⟩
  keep := fun i h h' st k => by
    rcases st with ⟨o, e, c⟩ | ⟨o, e, c⟩
    · exact .inl ⟨o, k it (by simp) o e, c⟩
    · exact .inr ⟨o, k it (by simp) o e, c⟩
  item := by
    intro X hP hw hK hc i pins s σ H E I hf st hg
    subst hP hw hK
    have hi : i < x.cps.size := hg
    have hx : x.cps[i]? = some x.cps[i] := by simp [hi]
    obtain ⟨f0, f1, f2, f3, f4, f5⟩ := hf it (by simp)
    have fin : ∀ (ty : String) (h' : Heap), ["enumerate", "zip", "dict_itemiterator", "dict_reverseitemiterator", "odict_iterator", "itertools.zip_longest", "itertools.pairwise"].contains ty = false → h'.IsStrIter it ty x t (i + 1) → Heap.SameBut it s.heap h' →
        (h'.IsStrIter it ty x t (i + 1) → (h'.IsStrIter it "str_ascii_iterator" x t (i + 1) ∨ h'.IsStrIter it "str_iterator" x t (i + 1))) →
        ∃ u, some (Value.str ⟨#[x.cps[i]]⟩ s.toks) = some u ∧ wpAny (model X.prog X.w) X.A (letOwnedTupleGo tg (.ref it) u) (fun _ s2 => ∃ y H', Inv X pins σ H' s2 ∧ RelV y u ∧ (Its x).yld i H y H' ∧
          (s2.heap.IsStrIter it "str_ascii_iterator" x t (i + 1) ∨ s2.heap.IsStrIter it "str_iterator" x t (i + 1)) ∧ ∀ b ∈ [it], H' b = none) E { s with heap := h', toks := s.toks + 1 } := fun ty h' hn st' sb hor => by
      have I1 : Inv X pins σ H { s with heap := h', toks := s.toks + 1 } := I.turned (t' := s.toks + 1) (fun b o hb e => (sb.2 b hb).trans e) f0 f1 f3 f4 f5
      obtain ⟨o, e, c, d⟩ := id st'
      exact ⟨_, rfl, go_of (s := { s with heap := h', toks := s.toks + 1 }) e c d hn ⟨.str ⟨#[x.cps[i]]⟩, H, I1, ⟨_, rfl⟩, ⟨rfl, x.cps[i], by simp [hi], rfl⟩, hor st', fun b hb => (hf b hb).1⟩⟩
    rcases st with st | st
    · exact wpAny_pyNext_ascii_item st hx fun h' st' sb => fin _ h' (by decide) st' sb .inl
    · exact wpAny_pyNext_wide_item st hx fun h' st' sb => fin _ h' (by decide) st' sb .inr
  done := by
    intro X hP hw hK hc i pins s σ H E I hf st hg
    subst hP hw hK
    have hi : x.cps.size ≤ i := hg
    have hx : x.cps[i]? = none := by simp [hi]
    obtain ⟨f0, f1, f2, f3, f4, f5⟩ := hf it (by simp)
    rcases st with st | st
    · exact wpAny_pyNext_ascii_end (I.ok.hd hc) st hx fun h' eb => ⟨rfl, I.turned (t' := s.toks) (fun b o hb e => eb b o hb e) f0 f1 f3 f4 f5⟩
    · exact wpAny_pyNext_wide_end (I.ok.hd hc) st hx fun h' eb => ⟨rfl, I.turned (t' := s.toks) (fun b o hb e => eb b o hb e) f0 f1 f3 f4 f5⟩
  self := fun A i s Q E st h => by
    rcases st with st | st
    · exact wpAny_pyIter_slot st.typeIs F.slot_str_ascii_iterator_iter (wpAny_call_entry F.slot_str_ascii_iterator_iter st.typeIs F.entry_str_ascii_iterator_iter (wpAny_pure ⟨_, rfl, "str_ascii_iterator", _, st.typeIs, F.slot_str_ascii_iterator_next.lookup, h⟩) (F.args_str_ascii_iterator_iter_1 _))
    · exact wpAny_pyIter_slot st.typeIs F.slot_str_iterator_iter (wpAny_call_entry F.slot_str_iterator_iter st.typeIs F.entry_str_iterator_iter (wpAny_pure ⟨_, rfl, "str_iterator", _, st.typeIs, F.slot_str_iterator_next.lookup, h⟩) (F.args_str_iterator_iter_1 _))
end
end L2
namespace L2
open PySem PySem.Spec PyProof.Rows
section
variable {X : Cx} {tg : Expr}
def iStr (tl : TE) : TI := fun σ H R => tl σ H fun x H1 => ∃ z, x = .str z ∧ R (Its z) H1
theorem pi_str {l : Expr} {tl : TE} (hl : PE X l tl) : PI X tg l (iStr tl) := by
  intro pins s σ H R I h
  refine thn (hl pins s σ H _ I h) fun v s1 ⟨x, H1, I1, r1, q1⟩ => ?_
  obtain ⟨z, e, q⟩ := q1
  subst e
  obtain ⟨t, rfl⟩ := r1
  refine wpAny_pyIter_strU ?_
  refine ⟨s1.heap.objs.size, [s1.heap.objs.size], _, _, H1, rfl, I1.kept (t' := s1.toks) fun b o e => Heap.get?_push_of_some _ e, turn_str z t _, ?_, fun b hb => ?_, q⟩
  · unfold strIterType
    split
    · exact .inl ⟨_, Heap.get?_push_size _ rfl, rfl, rfl⟩
    · exact .inr ⟨_, Heap.get?_push_size _ rfl, rfl, rfl⟩
  · have e : b = s1.heap.objs.size := by simpa using hb
    subst e
    exact I1.fpOk (Nat.le_refl _) (I1.hok.fresh (Nat.le_refl _))
/-- over a sequence that yields the items of xs, whatever the turns do -/
def ItSeq (J : It) (P : Hp → Prop) (xs : List V) : Prop := ∀ H, P H → ∀ i, (∀ x, xs[i]? = some x → J.go i H ∧ ∀ y H', J.yld i H y H' → H' = H ∧ y = x) ∧ (xs.length ≤ i → J.stop i H)
theorem itseq_str (z : Str) (P : Hp → Prop) : ItSeq (Its z) P (z.cps.toList.map fun c => .str ⟨#[c]⟩) := fun H _ i => by
  refine ⟨fun x hx => ?_, fun hi => ?_⟩
  · rw [List.getElem?_map] at hx
    cases e : z.cps.toList[i]? with
    | none => rw [e] at hx; simp at hx
    | some c =>
      rw [e] at hx
      have hx' : V.str ⟨#[c]⟩ = x := by simpa using hx
      subst hx'
      have hi : i < z.cps.toList.length := (List.getElem?_eq_some_iff.mp e).1
      refine ⟨by show i < z.cps.size; simpa using hi, fun y H' ⟨e1, c', e2, e3⟩ => ⟨e1, ?_⟩⟩
      rw [e] at e2
      cases e2
      exact e3
  · show z.cps.size ≤ i
    simpa using hi
theorem itseq_tup {K : PySem.W.Frag} {a : Addr} {xs : List V} : ItSeq (Itt K a) (fun H => SqT K H a xs) xs := fun H hq i => by
  refine ⟨fun x hx => ⟨⟨xs, x, hq, hx⟩, fun y H' ⟨e1, e2⟩ => ⟨e1, ?_⟩⟩, fun hi => ⟨xs, hq, hi⟩⟩
  have := e2 xs hq
  rw [hx] at this
  exact (Option.some.inj this).symm
theorem itseq_list {K : PySem.W.Frag} {a : Addr} {xs : List V} : ItSeq (Itl K a) (fun H => SqL K H a xs) xs := fun H hq i => by
  refine ⟨fun x hx => ⟨⟨xs, x, hq, hx⟩, fun y H' ⟨e1, e2⟩ => ⟨e1, ?_⟩⟩, fun hi => ⟨xs, hq, hi⟩⟩
  have := e2 xs hq
  rw [hx] at this
  exact (Option.some.inj this).symm
theorem itseq_range {lo : Int} {n : Nat} {P : Hp → Prop} : ItSeq (Itr lo n) P ((List.range n).map fun (i : Nat) => V.int (lo + i)) := fun H hq i => by
  refine ⟨fun x hx => ?_, fun hi => by show n ≤ i; simpa using hi⟩
  have hi : i < n := by
    have := (List.getElem?_eq_some_iff.mp hx).1
    simpa using this
  refine ⟨hi, fun y H' ⟨e1, e2⟩ => ⟨e1, ?_⟩⟩
  rw [List.getElem?_map, List.getElem?_range hi] at hx
  rw [e2]
  simpa using hx
theorem ItSeq.imp {J : It} {P P' : Hp → Prop} {xs : List V} (h : ItSeq J P xs) (hp : ∀ H, P' H → P H) : ItSeq J P' xs := fun H q => h H (hp H q)
/-- a comprehension over such a sequence, by what holds between two turns -/
theorem lc_by {J : It} {P : Hp → Prop} {xs : List V} (hJ : ItSeq J P xs) {src : List (Option Nat)} {g : TG} {tt : TT} {te : TE} {σ : St} {H1 : Hp} {Q : VK} {D : Addr} (Pv : Nat → List V → St → Hp → Prop)
    (h0 : Pv 0 [] (capSt src σ) (upd H1 D (.lst []))) (hP : ∀ i ys σ' H', Pv i ys σ' H' → P H' ∧ H' D = some (.lst ys))
    (step : ∀ i ys σ' H' x, xs[i]? = some x → Pv i ys σ' H' → g x σ' H' fun σ2 H4 => tt σ2 H4 fun b H5 => if b = true then te σ2 H5 fun y H6 => H6 D = some (.lst ys) ∧ ys.length < sizeLine ∧ Pv (i + 1) (ys ++ [y]) σ2 (upd H6 D (.lst (ys ++ [y]))) else Pv (i + 1) ys σ2 H5)
    (fin : ∀ ys σ' H', Pv xs.length ys σ' H' → Q (.ref D) H') :
    LC src J g tt te σ H1 Q D := by
  refine ⟨fun i m ys σ' H' => m = xs.length - i ∧ i ≤ xs.length ∧ Pv i ys σ' H', ⟨xs.length, by simp, Nat.zero_le _, h0⟩, ?_⟩
  rintro i m ys σ' H2 ⟨rfl, hi, p⟩
  obtain ⟨hp, hD⟩ := hP i ys σ' H2 p
  refine ⟨hD, ?_⟩
  by_cases hlt : i < xs.length
  · obtain ⟨go, yl⟩ := (hJ H2 hp i).1 xs[i] (by simp [hlt])
    refine .inr ⟨go, fun ys' σ3 H3 => Pv (i + 1) ys' σ3 H3, fun ys' σ3 H3 p' => ⟨xs.length - (i + 1), by omega, rfl, hlt, p'⟩, fun x H3 y => ?_⟩
    obtain ⟨e1, e2⟩ := yl x H3 y
    subst e1 e2
    exact step i ys σ' _ _ (by simp [hlt]) p
  · have e : i = xs.length := by omega
    subst e
    exact .inl ⟨(hJ H2 hp _).2 (Nat.le_refl _), fin ys σ' H2 p⟩
theorem Same.upd_new {H : Hp} {p : Addr} (h : H p = none) (o : HO) : Same H (upd H p o) := fun b u q => by rw [upd_ne (ne_of_none q h)]; exact q
theorem Same.upd_over {H H' : Hp} {p : Addr} (h : H p = none) (e : Same H H') (o : HO) : Same H (upd H' p o) := fun b u q => by rw [upd_ne (ne_of_none q h)]; exact e b u q
theorem Same.tup {K : PySem.W.Frag} {H H' : Hp} {a : Addr} {xs : List V} (e : Same H H') (h : SqT K H a xs) : SqT K H' a xs := by
  rcases h with (h | ⟨o, h⟩) | h
  · exact .inl (.inl (e _ _ h))
  · exact .inl (.inr ⟨o, e _ _ h⟩)
  · exact .inr h
end

/-! ### all, any, join -/
section
variable {X : Cx}
theorem bools_of : ∀ {bs : List Bool} {us : List Value}, Vals (bs.map V.bl) us → LSm.BoolsAre us bs
  | [], _, h => by rw [Vals.zero h]; exact .nil
  | b :: bs, us, h => by
    have h' : Vals (V.bl b :: bs.map V.bl) us := h
    cases h' with
    | cons r t => cases (show _ = Value.bool b from r); exact .cons b (bools_of t)
theorem call_all_bools (hc : X.calm = true) : CallR X (.builtin "all") (fun xs H Q => ∃ (p : Addr) (bs : List Bool), xs = [.ref p] ∧ SqL X.K H p (bs.map V.bl) ∧ Q (.bl (bs.all id)) H) := by
  intro pins s σ H xs us Q I r h
  obtain ⟨p, bs, rfl, hq, q⟩ := h
  obtain ⟨u, rfl, rx⟩ := vals1 r
  cases rx
  obtain ⟨its, r', pl, hz⟩ := I.list hq
  have hb := bools_of r'
  have hl := pl.isList
  have hlt : p < s.heap.objs.size := by obtain ⟨_, e, _⟩ := hl; exact Heap.lt_size e
  refine call_all_walk (wpAny_pyIter_list hl ?_)
  refine ⟨s.heap.objs.size, [s.heap.objs.size, p], [s.heap.objs.size], its.toArray.size, _, _, fun i => (bs[i]?).getD true, rfl, Walks.list (A := X.A.in1) (I.ok.hd hc) _ p (Nat.ne_of_lt hlt) its.toArray,
    ⟨⟨_, Heap.get?_push_size _ rfl, rfl, rfl⟩, hl.push _⟩, fun i v s' Q' E' hP hQ => ?_, fun h' tk hk => ?_⟩
  · obtain ⟨b, e, rfl⟩ := hb.get i v (by simpa using hP)
    simp only [e, Option.getD_some] at hQ
    exact wpAny_truthy_bool hQ
  · have e : ((List.range its.toArray.size).all fun i => (bs[i]?).getD true) = bs.all id := by
      rw [List.size_toArray, hb.length]; exact LSm.range_all bs
    rw [e]
    exact ⟨.bl _, H, I.kept (t' := tk) (LSm.kept_iter hk), rfl, q⟩
/-- sep.join(a list of texts) -/
def rJoin (K : PySem.W.Frag) : V → List V → Hp → VK → Prop := fun x vs H Q => ∃ (z : Str) (p : Addr) (ys : List Str), x = .str z ∧ vs = [.ref p] ∧ SqL K H p (ys.map V.str) ∧ (ys.map (·.length)).sum + ys.length * z.length ≤ 16777216 ∧ Q (.str (Txt.join z ys)) H
/-! ### isinstance(e, a built-in type), isinstance(e, an own class) -/
def clsV : V → Option Value
  | .ty n => some (.type n)
  | .ref a => some (.ref a)
  | _ => none
theorem call_isinst : CallR X (.builtin "isinstance") (fun xs H Q => ∃ x c cv t b, xs = [x, c] ∧ clsV c = some cv ∧ TyOf X.K H x t ∧ PySem.W.kitOne X.K t cv = some b ∧ Q (.bl b) H) := by
  intro pins s σ H xs us Q I r h
  obtain ⟨x, c, cv, t, b, rfl, ec, ty, e, q⟩ := h
  obtain ⟨u, w', rfl, ru, rw'⟩ := vals2 r
  have ew : w' = cv := by
    cases c with
    | ty n => cases (show w' = Value.type n from rw'); simpa [clsV] using ec
    | ref a => cases (show w' = Value.ref a from rw'); simpa [clsV] using ec
    | _ => simp [clsV] at ec
  subst ew
  exact isinst_ok I ru ty e fun tk => ⟨.bl b, H, I.tok tk, rfl, q⟩

/-! ### == of two lists, != of two lists: flat items -/
def eqVs (xs ys : List V) : Bool := xs.length == ys.length && (List.range xs.length).all fun j => match xs[j]?, ys[j]? with | some x, some y => eqV x y | _, _ => false
end
end L2
namespace L2
open PySem PySem.Spec PyProof.Rows
/-! ### zip of two sequences -/
/-- an iterator within a zip: at k, in the heap h, the next is what get tells -/
structure Sub (P : Program) (w : World) (i : Addr) (St : Nat → Heap → Prop) (Ready : Heap → (Nat → Option Value) → Prop) : Prop where
  obj : ∀ k h, St k h → ∃ o, h.get? i = some o ∧ ∀ v, o.data ≠ .cell v
  keep : ∀ k h h', St k h → (∀ o, h.get? i = some o → h'.get? i = some o) → St k h'
  item : ∀ (A : Around) (k : Nat) (s : Shared) (get : Nat → Option Value) (x : Value) (Q : Value → Shared → Prop) (E : Value → Shared → Prop), St k s.heap → Ready s.heap get → get k = some x →
    (∀ h' tk, St (k + 1) h' → Heap.SameBut i s.heap h' → Q x { s with heap := h', toks := tk }) → wpAny (model P w) A (Builtin.SmallTypes.nextOf (.ref i)) Q E s
  fin : ∀ (A : Around) (k : Nat) (s : Shared) (get : Nat → Option Value) (Q : Value → Shared → Prop) (E : Value → Shared → Prop), A.handled = none → St k s.heap → Ready s.heap get → get k = none →
    (∀ h' e, Heap.ExtBut i s.heap h' → (∃ o, h'.get? e = some o ∧ o.cls = .type "StopIteration") → E (.ref e) { s with heap := h' }) → wpAny (model P w) A (Builtin.SmallTypes.nextOf (.ref i)) Q E s
section
variable {prog : Program} {w : World} {A : Around} {E : Value → Shared → Prop} {s : Shared}
theorem nextOf_tuple_item {it t : Addr} {i : Nat} {items : Array Value} {x : Value} {Q : Value → Shared → Prop} (hit : s.heap.IsTupleIter it t i) (ht : s.heap.IsTuple t items) (hx : items[i]? = some x)
    (hQ : ∀ h', h'.IsTupleIter it t (i + 1) → Heap.SameBut it s.heap h' → Q x { s with heap := h' }) : wpAny (model prog w) A (Builtin.SmallTypes.nextOf (.ref it)) Q E s := by
  obtain ⟨o, ho, hc, hd⟩ := id hit
  obtain ⟨ol, hol, _, nl, hdl⟩ := ht
  unfold Builtin.SmallTypes.nextOf
  refine wpAny_bind (wpAny_callSpecial?_slot (name := Str.ofString "__next__") hit.typeIs F.slot_tuple_iterator_next (wpAny_call_entry F.slot_tuple_iterator_next hit.typeIs F.entry_tuple_iterator_next ?_ (F.args_tuple_iterator_next_1 _)))
  show wpAny _ _ (field (.ref it) 0 >>= _) _ _ s
  refine wpAny_bind (wpAny_field ho hd (x := .ref t) rfl ?_)
  show wpAny _ _ (if (Value.ref t == Value.none) = true then _ else _) _ _ s
  rw [if_neg (show ¬ ((Value.ref t == Value.none) = true) from Bool.false_ne_true)]
  show wpAny _ _ (field (.ref it) 1 >>= _) _ _ s
  refine wpAny_bind (wpAny_field ho hd (x := .int i 0) rfl ?_)
  show wpAny _ _ (seqItems? (.ref t) >>= _) _ _ s
  refine wpAny_bind (wpAny_seqItems hol hdl ?_)
  simp only [Int.toNat_natCast, hx]
  refine wpAny_bind (wpAny_setField ho hd (by simp) (wpAny_pure ⟨x, rfl, wpAny_pure (hQ _ ?_ (Heap.SameBut.update ..))⟩))
  exact ⟨_, Heap.get?_update_self _ ho (Obj.isFreed_of_fields (Obj.data_mapFields hd _)), (Obj.cls_mapFields ..).trans hc, by rw [Obj.data_mapFields hd]; simp [rawInt]⟩
theorem nextOf_tuple_end {it t : Addr} {i : Nat} {items : Array Value} {Q : Value → Shared → Prop} (hh : A.handled = none) (hit : s.heap.IsTupleIter it t i) (ht : s.heap.IsTuple t items) (hx : items[i]? = none)
    (hE : ∀ h' e, Heap.ExtBut it s.heap h' → (∃ o, h'.get? e = some o ∧ o.cls = .type "StopIteration") → E (.ref e) { s with heap := h' }) : wpAny (model prog w) A (Builtin.SmallTypes.nextOf (.ref it)) Q E s := by
  obtain ⟨o, ho, hc, hd⟩ := id hit
  obtain ⟨ol, hol, _, nl, hdl⟩ := ht
  unfold Builtin.SmallTypes.nextOf
  refine wpAny_bind (wpAny_callSpecial?_slot (name := Str.ofString "__next__") hit.typeIs F.slot_tuple_iterator_next (wpAny_call_entry F.slot_tuple_iterator_next hit.typeIs F.entry_tuple_iterator_next ?_ (F.args_tuple_iterator_next_1 _)))
  show wpAny _ _ (field (.ref it) 0 >>= _) _ _ s
  refine wpAny_bind (wpAny_field ho hd (x := .ref t) rfl ?_)
  show wpAny _ _ (if (Value.ref t == Value.none) = true then _ else _) _ _ s
  rw [if_neg (show ¬ ((Value.ref t == Value.none) = true) from Bool.false_ne_true)]
  show wpAny _ _ (field (.ref it) 1 >>= _) _ _ s
  refine wpAny_bind (wpAny_field ho hd (x := .int i 0) rfl ?_)
  show wpAny _ _ (seqItems? (.ref t) >>= _) _ _ s
  refine wpAny_bind (wpAny_seqItems hol hdl ?_)
  simp only [Int.toNat_natCast, hx]
  refine wpAny_bind (wpAny_rule (wpAny_bind (wpAny_setField ho hd (by simp) ?_)))
  show wpAny _ _ (newExc (.type "StopIteration") [] >>= _) _ _ _
  refine wpAny_bind ?_
  simp only [newExc, newTuple]
  refine wpAny_bind (wpAny_newObj_type ?_ (by size_fits))
  refine wpAny_bind (m := firstArgMember _ _) (wpAny_of_eq (a := Value.none) (by first | rfl | (simp only [firstArgMember]; rfl)) ?_)
  refine wpAny_newObj_type ?_ (by size_fits)
  simp only [raiseNew]
  refine wpAny_bind (wpAny_handled ?_)
  first | rw [show A.in1.handled = none from hh] | rw [hh]
  refine wpAny_bind (wpAny_pure (wpAny_throw ?_))
  exact hE _ _ (((Heap.SameBut.update ..).extBut.push _).push _) ⟨_, Heap.get?_push_size _ rfl, rfl⟩
end
theorem sub_tuple {P : Program} {w : World} (i t : Addr) : Sub P w i (fun k h => h.IsTupleIter i t k) (fun h get => ∃ items : Array Value, h.IsTuple t items ∧ ∀ k, get k = items[k]?) where
  obj := fun k h ⟨o, e, c, d⟩ => ⟨o, e, fun v z => by rw [d] at z; cases z⟩
  keep := fun k h h' st q => st.at q
  item := fun A k s get x Q E st ⟨items, ht, hg⟩ hx hQ => nextOf_tuple_item st ht ((hg k).symm.trans hx) fun h' st' sb => hQ h' s.toks st' sb
  fin := fun A k s get Q E hh st ⟨items, ht, hg⟩ hx hE => nextOf_tuple_end hh st ht ((hg k).symm.trans hx) hE
structure ZApart (z TI TO i1 i2 : Addr) : Prop where
  a : TI ≠ z
  b : TO ≠ z
  c : i1 ≠ z
  d : i2 ≠ z
  e : TI ≠ TO
  f : TI ≠ i1
  g : TI ≠ i2
  h : TO ≠ i1
  i : TO ≠ i2
  j : i1 ≠ i2
section
variable {prog : Program} {w : World} {A : Around} {E : Value → Shared → Prop} {s : Shared} {z TI TO i1 i2 : Addr} {S1 S2 : Nat → Heap → Prop} {R1 R2 : Heap → (Nat → Option Value) → Prop} {g1 g2 : Nat → Option Value} {k : Nat} {a b : Value}
theorem zip_item {x y : Value} {Q : Option Value → Shared → Prop} (D : ZApart z TI TO i1 i2) (U1 : Sub prog w i1 S1 R1) (U2 : Sub prog w i2 S2 R2)
    (k1 : ∀ h h' g, R1 h g → (∀ c o, c ≠ z → c ≠ TO → c ≠ i1 → c ≠ i2 → h.get? c = some o → h'.get? c = some o) → R1 h' g) (k2 : ∀ h h' g, R2 h g → (∀ c o, c ≠ z → c ≠ TO → c ≠ i1 → c ≠ i2 → h.get? c = some o → h'.get? c = some o) → R2 h' g)
    (hz : IsZip s.heap z TI TO .none) (hTI : IsPair s.heap TI (.ref i1) (.ref i2)) (hTO : IsPair s.heap TO a b) (h1 : S1 k s.heap) (h2 : S2 k s.heap) (r1 : R1 s.heap g1) (r2 : R2 s.heap g2) (hx : g1 k = some x) (hy : g2 k = some y)
    (hQ : ∀ h' tk, IsZip h' z TI TO (rawInt s.heap.objs.size) → IsPair h' TO x y → S1 (k + 1) h' → S2 (k + 1) h' → IsPair h' s.heap.objs.size x y → h'.objs.size = s.heap.objs.size + 1 →
      (∀ c o, c ≠ z → c ≠ TO → c ≠ i1 → c ≠ i2 → s.heap.get? c = some o → h'.get? c = some o) → Q (some (.ref s.heap.objs.size)) { s with heap := h', toks := tk }) :
    wpAny (model prog w) A (pyNext (.ref z)) Q E s := by
  have hT : s.TypeIs (.ref z) "zip" := ⟨_, hz, rfl⟩
  unfold pyNext
  refine wpAny_bind (wpAny_attempt (wpAny_callSpecial?_slot (name := Str.ofString "__next__") hT F.slot_zip_next (wpAny_call_entry F.slot_zip_next hT F.entry_zip_next ?_ (F.args_zip_next_1 _))))
  show wpAny _ _ (field (.ref z) 2 >>= _) _ _ _
  refine wpAny_bind (wpAny_field hz rfl (x := .bool false) rfl ?_)
  show wpAny _ _ (field (.ref z) 3 >>= _) _ _ _
  refine wpAny_bind (wpAny_field hz rfl (x := .ref TI) rfl ?_)
  refine wpAny_bind (wpAny_seqItems hTI rfl ?_)
  show wpAny _ _ (Builtin.SmallTypes.ownedTupleIsFree (.ref z) >>= _) _ _ _
  refine wpAny_bind ?_
  unfold Builtin.SmallTypes.ownedTupleIsFree
  refine wpAny_bind (wpAny_field hz rfl (x := .none) rfl (wpAny_pure ?_))
  simp only [if_true]
  refine wpAny_bind (wpAny_rule ?_)
  refine wpAny_bind (wpAny_field hz rfl (x := .ref TO) rfl ?_)
  refine wpAny_bind (wpAny_setField_rec hz (by simp) fun h₁ hz₁ hs₁ => ?_)
  replace hz₁ : IsZip h₁ z TI TO .ellipsis := hz₁
  refine wpAny_bind ?_
  simp only [List.zipIdx_cons, List.zipIdx_nil, List.forIn_cons, List.forIn_nil]
  refine wpAny_bind (wpAny_bind (wpAny_onRaise ?_))
  show wpAny _ _ (Builtin.SmallTypes.nextOf (.ref i1) >>= _) _ _ _
  have S1₁ : S1 k h₁ := U1.keep _ _ _ h1 fun o e => hs₁.extBut _ _ D.c e
  have R1₁ : R1 h₁ g1 := k1 _ _ _ r1 fun c o c1 _ _ _ e => hs₁.extBut _ _ c1 e
  refine wpAny_bind (U1.item _ k { s with heap := h₁ } g1 x _ _ S1₁ R1₁ hx fun h₂ tk₂ S1₂ hs₂ => wpAny_pure ?_)
  have hTO₂ : IsPair h₂ TO a b := hs₂.extBut _ _ D.h (hs₁.extBut _ _ D.b hTO)
  refine wpAny_bind (wpAny_seqItems hTO₂ rfl ?_)
  refine wpAny_bind (wpAny_updateSeq_pair hTO₂ fun h₃ hTO₃ hs₃ => ?_)
  replace hTO₃ : IsPair h₃ TO x b := hTO₃
  refine wpAny_bind (wpAny_letGo (wpAny_pure ?_))
  refine wpAny_bind (wpAny_bind (wpAny_onRaise ?_))
  show wpAny _ _ (Builtin.SmallTypes.nextOf (.ref i2) >>= _) _ _ _
  have kk₃ : ∀ c o, c ≠ z → c ≠ TO → c ≠ i1 → c ≠ i2 → s.heap.get? c = some o → h₃.get? c = some o := fun c o c1 c2 c3 c4 e => hs₃.extBut _ _ c2 (hs₂.extBut _ _ c3 (hs₁.extBut _ _ c1 e))
  have S2₃ : S2 k h₃ := U2.keep _ _ _ h2 fun o e => hs₃.extBut _ _ D.i.symm (hs₂.extBut _ _ D.j.symm (hs₁.extBut _ _ D.d e))
  refine wpAny_bind (U2.item _ k { s with heap := h₃, toks := tk₂ } g2 y _ _ S2₃ (k2 _ _ _ r2 kk₃) hy fun h₄ tk₄ S2₄ hs₄ => wpAny_pure ?_)
  have hTO₄ : IsPair h₄ TO x b := hs₄.extBut _ _ D.i hTO₃
  refine wpAny_bind (wpAny_seqItems hTO₄ rfl ?_)
  refine wpAny_bind (wpAny_updateSeq_pair hTO₄ fun h₅ hTO₅ hs₅ => ?_)
  replace hTO₅ : IsPair h₅ TO x y := hTO₅
  refine wpAny_bind (wpAny_letGo (wpAny_pure (wpAny_pure ?_)))
  refine wpAny_bind (wpAny_seqItems hTO₅ rfl ?_)
  refine wpAny_bind (wpAny_newTuple ?_)
  have hsz : h₅.objs.size = s.heap.objs.size := by rw [hs₅.1, hs₄.1, hs₃.1, hs₂.1, hs₁.1]
  have hz₅ : IsZip h₅ z TI TO .ellipsis := hs₅.extBut _ _ D.b.symm (hs₄.extBut _ _ D.d.symm (hs₃.extBut _ _ D.b.symm (hs₂.extBut _ _ D.c.symm hz₁)))
  have hk₅ : ∀ c o, c ≠ z → c ≠ TO → c ≠ i1 → c ≠ i2 → s.heap.get? c = some o → h₅.get? c = some o := fun c o c1 c2 c3 c4 e => hs₅.extBut _ _ c2 (hs₄.extBut _ _ c4 (kk₃ c o c1 c2 c3 c4 e))
  have S1₅ : S1 (k + 1) h₅ := U1.keep _ _ _ S1₂ fun o e => hs₅.extBut _ _ D.h.symm (hs₄.extBut _ _ D.j (hs₃.extBut _ _ D.h.symm e))
  have S2₅ : S2 (k + 1) h₅ := U2.keep _ _ _ S2₄ fun o e => hs₅.extBut _ _ D.i.symm e
  have hzlt : z < h₅.objs.size := Heap.lt_size hz₅
  show wpAny _ _ (Builtin.SmallTypes.ownedTupleHandOut (.ref z) (.ref h₅.objs.size) >>= _) _ _ _
  refine wpAny_bind ?_
  unfold Builtin.SmallTypes.ownedTupleHandOut
  have hz₆ : IsZip (h₅.push { cls := .type "tuple", data := .seq #[x, y] }) z TI TO .ellipsis := Heap.get?_push_of_some _ hz₅
  refine wpAny_bind (wpAny_setField_rec hz₆ (by simp) fun h₇ hz₇ hs₇ => ?_)
  replace hz₇ : IsZip h₇ z TI TO (rawInt h₅.objs.size) := hz₇
  refine wpAny_setField_rec hz₇ (by simp) fun h₈ hz₈ hs₈ => ?_
  replace hz₈ : IsZip h₈ z TI TO (rawInt h₅.objs.size) := hz₈
  have up : ∀ c o, c ≠ z → h₅.get? c = some o → h₈.get? c = some o := fun c o c1 e => hs₈.extBut _ _ c1 (hs₇.extBut _ _ c1 (Heap.get?_push_of_some _ e))
  have hT₈ : IsPair h₈ h₅.objs.size x y := hs₈.extBut _ _ (Nat.ne_of_gt hzlt) (hs₇.extBut _ _ (Nat.ne_of_gt hzlt) (Heap.get?_push_size _ rfl))
  have hz8 : h₈.objs.size = h₅.objs.size + 1 := by rw [hs₈.1, hs₇.1, Heap.size_push]
  rw [hsz] at hz₈ hT₈ hz8
  refine wpAny_pure ⟨_, rfl, wpAny_pure ?_⟩
  show Q (some (.ref h₅.objs.size)) _
  rw [hsz]
  exact hQ h₈ tk₄ hz₈ (up _ _ D.b hTO₅) (U1.keep _ _ _ S1₅ fun o e => up _ o D.c e) (U2.keep _ _ _ S2₅ fun o e => up _ o D.d e) hT₈ hz8 fun c o c1 c2 c3 c4 e => up c o c1 (hk₅ c o c1 c2 c3 c4 e)
theorem zip_end {Q : Option Value → Shared → Prop} (hh : A.handled = none) (D : ZApart z TI TO i1 i2) (U1 : Sub prog w i1 S1 R1) (U2 : Sub prog w i2 S2 R2)
    (k1 : ∀ h h' g, R1 h g → (∀ c o, c ≠ z → c ≠ TO → c ≠ i1 → c ≠ i2 → h.get? c = some o → h'.get? c = some o) → R1 h' g) (k2 : ∀ h h' g, R2 h g → (∀ c o, c ≠ z → c ≠ TO → c ≠ i1 → c ≠ i2 → h.get? c = some o → h'.get? c = some o) → R2 h' g)
    (hz : IsZip s.heap z TI TO .none) (hTI : IsPair s.heap TI (.ref i1) (.ref i2)) (hTO : IsPair s.heap TO a b) (h1 : S1 k s.heap) (h2 : S2 k s.heap) (r1 : R1 s.heap g1) (r2 : R2 s.heap g2) (hend : g1 k = none ∨ g2 k = none)
    (hQ : ∀ h' tk, (∀ c o, c ≠ z → c ≠ TO → c ≠ i1 → c ≠ i2 → s.heap.get? c = some o → h'.get? c = some o) → Q none { s with heap := h', toks := tk }) : wpAny (model prog w) A (pyNext (.ref z)) Q E s := by
  have hT : s.TypeIs (.ref z) "zip" := ⟨_, hz, rfl⟩
  unfold pyNext
  refine wpAny_bind (wpAny_attempt (wpAny_callSpecial?_slot (name := Str.ofString "__next__") hT F.slot_zip_next (wpAny_call_entry F.slot_zip_next hT F.entry_zip_next ?_ (F.args_zip_next_1 _))))
  show wpAny _ _ (field (.ref z) 2 >>= _) _ _ _
  refine wpAny_bind (wpAny_field hz rfl (x := .bool false) rfl ?_)
  show wpAny _ _ (field (.ref z) 3 >>= _) _ _ _
  refine wpAny_bind (wpAny_field hz rfl (x := .ref TI) rfl ?_)
  refine wpAny_bind (wpAny_seqItems hTI rfl ?_)
  show wpAny _ _ (Builtin.SmallTypes.ownedTupleIsFree (.ref z) >>= _) _ _ _
  refine wpAny_bind ?_
  unfold Builtin.SmallTypes.ownedTupleIsFree
  refine wpAny_bind (wpAny_field hz rfl (x := .none) rfl (wpAny_pure ?_))
  simp only [if_true]
  refine wpAny_bind (wpAny_rule ?_)
  refine wpAny_bind (wpAny_field hz rfl (x := .ref TO) rfl ?_)
  refine wpAny_bind (wpAny_setField_rec hz (by simp) fun h₁ hz₁ hs₁ => ?_)
  replace hz₁ : IsZip h₁ z TI TO .ellipsis := hz₁
  refine wpAny_bind ?_
  simp only [List.zipIdx_cons, List.zipIdx_nil, List.forIn_cons, List.forIn_nil]
  refine wpAny_bind (wpAny_bind (wpAny_onRaise ?_))
  show wpAny _ _ (Builtin.SmallTypes.nextOf (.ref i1) >>= _) _ _ _
  have S1₁ : S1 k h₁ := U1.keep _ _ _ h1 fun o e => hs₁.extBut _ _ D.c e
  have R1₁ : R1 h₁ g1 := k1 _ _ _ r1 fun c o c1 _ _ _ e => hs₁.extBut _ _ c1 e
  cases hx : g1 k with
  | none =>
    refine wpAny_bind (U1.fin _ k { s with heap := h₁ } g1 _ _ hh S1₁ R1₁ hx fun h₂ e hs₂ he => ?_)
    obtain ⟨oe, hoe, hce⟩ := he
    have hz₂ : IsZip h₂ z TI TO .ellipsis := hs₂ _ _ D.c.symm hz₁
    have hez : e ≠ z := fun x => by subst x; rw [hz₂] at hoe; cases hoe; simp at hce
    refine wpAny_setField_rec hz₂ (by simp) fun h₃ _ hs₃ => ?_
    refine wpAny_bind (wpAny_isInstance (T := "StopIteration") (b := true) ⟨oe, hs₃.extBut _ _ hez hoe, hce⟩ isSubtype_stop ?_)
    exact wpAny_pure (hQ h₃ s.toks fun c o c1 _ c3 _ x => hs₃.extBut _ _ c1 (hs₂ _ _ c3 (hs₁.extBut _ _ c1 x)))
  | some x =>
    have hy : g2 k = none := by rcases hend with h | h; rw [hx] at h; cases h; exact h
    refine wpAny_bind (U1.item _ k { s with heap := h₁ } g1 x _ _ S1₁ R1₁ hx fun h₂ tk₂ S1₂ hs₂ => wpAny_pure ?_)
    have hTO₂ : IsPair h₂ TO a b := hs₂.extBut _ _ D.h (hs₁.extBut _ _ D.b hTO)
    refine wpAny_bind (wpAny_seqItems hTO₂ rfl ?_)
    refine wpAny_bind (wpAny_updateSeq_pair hTO₂ fun h₃ hTO₃ hs₃ => ?_)
    refine wpAny_bind (wpAny_letGo (wpAny_pure ?_))
    refine wpAny_bind (wpAny_bind (wpAny_onRaise ?_))
    show wpAny _ _ (Builtin.SmallTypes.nextOf (.ref i2) >>= _) _ _ _
    have kk₃ : ∀ c o, c ≠ z → c ≠ TO → c ≠ i1 → c ≠ i2 → s.heap.get? c = some o → h₃.get? c = some o := fun c o c1 c2 c3 c4 e => hs₃.extBut _ _ c2 (hs₂.extBut _ _ c3 (hs₁.extBut _ _ c1 e))
    have S2₃ : S2 k h₃ := U2.keep _ _ _ h2 fun o e => hs₃.extBut _ _ D.i.symm (hs₂.extBut _ _ D.j.symm (hs₁.extBut _ _ D.d e))
    refine wpAny_bind (U2.fin _ k { s with heap := h₃, toks := tk₂ } g2 _ _ hh S2₃ (k2 _ _ _ r2 kk₃) hy fun h₄ e hs₄ he => ?_)
    obtain ⟨oe, hoe, hce⟩ := he
    have hz₄ : IsZip h₄ z TI TO .ellipsis := hs₄ _ _ D.d.symm (hs₃.extBut _ _ D.b.symm (hs₂.extBut _ _ D.c.symm hz₁))
    have hez : e ≠ z := fun x => by subst x; rw [hz₄] at hoe; cases hoe; simp at hce
    refine wpAny_setField_rec hz₄ (by simp) fun h₅ _ hs₅ => ?_
    refine wpAny_bind (wpAny_isInstance (T := "StopIteration") (b := true) ⟨oe, hs₅.extBut _ _ hez hoe, hce⟩ isSubtype_stop ?_)
    exact wpAny_pure (hQ h₅ tk₂ fun c o c1 c2 c3 c4 x => hs₅.extBut _ _ c1 (hs₄ _ _ c4 (kk₃ c o c1 c2 c3 c4 x)))
end
end L2
namespace L2
open PySem PySem.Spec PyProof.Rows
/-! ### zip(a, b): the object -/
abbrev zpH (h : Heap) (o1 o2 : Obj) : Heap := ((h.push o1).push o2)
abbrev zpT (h : Heap) (o1 o2 : Obj) : Heap := (zpH h o1 o2).push { cls := .type "tuple", data := .seq #[.ref h.objs.size, .ref (h.push o1).objs.size] }
abbrev zpO (h : Heap) (o1 o2 : Obj) : Heap := (zpT h o1 o2).push { cls := .type "tuple", data := .seq #[.none, .none] }
abbrev zpZ (h : Heap) (o1 o2 : Obj) : Heap := (zpO h o1 o2).push { cls := .type "zip", data := .fields #[.none, .bool false, .bool false, .ref (zpH h o1 o2).objs.size, .ref (zpT h o1 o2).objs.size] }
/-- iter(v) is a new object o, whatever stands beside -/
def ItersTo (h : Heap) (v : Value) (o : Obj) : Prop := ∀ (prog : Program) (w : World) (A : Around) (E : Value → Shared → Prop) (s : Shared) (Q : Value → Shared → Prop), (∀ b ob, h.get? b = some ob → s.heap.get? b = some ob) →
  Q (.ref s.heap.objs.size) { s with heap := s.heap.push o } → wpAny (model prog w) A (pyIter v) Q E s
theorem itersTo_tuple {h : Heap} {t : Addr} {items : Array Value} (ht : h.IsTuple t items) : ItersTo h (.ref t) { cls := .type "tuple_iterator", data := .fields #[.ref t, .int 0 0] } := fun prog w A E s Q k q => by
  obtain ⟨o, e, r⟩ := ht
  exact wpAny_pyIter_tuple (items := items) ⟨o, k _ _ e, r⟩ q
theorem meets_zip2 (v1 v2 : Value) (o1 o2 : Obj) :
    Meets (Builtin.«zip.__new__» ⟨[.type "zip", v1, v2], []⟩) (fun _ R s => ItersTo s.heap v1 o1 ∧ ItersTo s.heap v2 o2 ∧ R (.ok (.ret (.ref (zpO s.heap o1 o2).objs.size))) { s with heap := zpZ s.heap o1 o2 }) :=
  .of_wp fun prog w A R s h => by
    obtain ⟨hp, g, d, tk, os⟩ := s
    obtain ⟨h1, h2, h⟩ := h
    have hsub := sub_zip
    have p1 : ∀ {A' : Around} {E : Value → Shared → Prop} {Q : Value → Shared → Prop}, Q (.ref hp.objs.size) ⟨hp.push o1, g, d, tk, os⟩ → wpAny (model prog w) A' (pyIter v1) Q E ⟨hp, g, d, tk, os⟩ := fun q => h1 prog w _ _ ⟨hp, g, d, tk, os⟩ _ (fun _ _ e => e) q
    have p2 : ∀ {A' : Around} {E : Value → Shared → Prop} {Q : Value → Shared → Prop}, Q (.ref (hp.push o1).objs.size) ⟨(hp.push o1).push o2, g, d, tk, os⟩ → wpAny (model prog w) A' (pyIter v2) Q E ⟨hp.push o1, g, d, tk, os⟩ := fun q => h2 prog w _ _ ⟨hp.push o1, g, d, tk, os⟩ _ (fun _ _ e => Heap.get?_push_of_some _ e) q
    wp_walk using p1, p2
    exact ⟨_, rfl, h⟩
section
variable {prog : Program} {w : World} {A : Around} {E : Value → Shared → Prop} {s : Shared}
theorem call_zip2 {v1 v2 : Value} {o1 o2 : Obj} {Q : Value → Shared → Prop} (p1 : ItersTo s.heap v1 o1) (p2 : ItersTo s.heap v2 o2) (f1 : o1.isFreed = false) (f2 : o2.isFreed = false)
    (h : ∀ h', IsZip h' (s.heap.objs.size + 4) (s.heap.objs.size + 2) (s.heap.objs.size + 3) .none → IsPair h' (s.heap.objs.size + 2) (.ref s.heap.objs.size) (.ref (s.heap.objs.size + 1)) → IsPair h' (s.heap.objs.size + 3) .none .none →
      h'.get? s.heap.objs.size = some o1 → h'.get? (s.heap.objs.size + 1) = some o2 → h'.objs.size = s.heap.objs.size + 5 → (∀ c o, s.heap.get? c = some o → h'.get? c = some o) → Q (.ref (s.heap.objs.size + 4)) { s with heap := h' }) :
    wpAny (model prog w) A (call (.type "zip") [v1, v2]) Q E s := by
  refine callType_new F.called_zip (by decide) (F.typeCall_zip_2 _ _) (F.newCall_zip_2 _ _) (fun obj => F.args_object_init_3 obj _ _) F.entry_zip_new (meets_zip2 v1 v2 o1 o2) ⟨p1, p2, ?_⟩
  have z1 : (s.heap.push o1).objs.size = s.heap.objs.size + 1 := Heap.size_push ..
  have z2 : (zpH s.heap o1 o2).objs.size = s.heap.objs.size + 2 := by rw [Heap.size_push, z1]
  have z3 : (zpT s.heap o1 o2).objs.size = s.heap.objs.size + 3 := by rw [Heap.size_push, z2]
  have z4 : (zpO s.heap o1 o2).objs.size = s.heap.objs.size + 4 := by rw [Heap.size_push, z3]
  have z5 : (zpZ s.heap o1 o2).objs.size = s.heap.objs.size + 5 := by rw [Heap.size_push, z4]
  have g5 : (zpZ s.heap o1 o2).get? (zpO s.heap o1 o2).objs.size = some _ := Heap.get?_push_size _ rfl
  have g4 : (zpZ s.heap o1 o2).get? (zpT s.heap o1 o2).objs.size = some _ := Heap.get?_push_of_some _ (Heap.get?_push_size _ rfl)
  have g3 : (zpZ s.heap o1 o2).get? (zpH s.heap o1 o2).objs.size = some _ := Heap.get?_push_of_some _ (Heap.get?_push_of_some _ (Heap.get?_push_size _ rfl))
  have g2 : (zpZ s.heap o1 o2).get? (s.heap.push o1).objs.size = some o2 := Heap.get?_push_of_some _ (Heap.get?_push_of_some _ (Heap.get?_push_of_some _ (Heap.get?_push_size _ f2)))
  have g1 : (zpZ s.heap o1 o2).get? s.heap.objs.size = some o1 := Heap.get?_push_of_some _ (Heap.get?_push_of_some _ (Heap.get?_push_of_some _ (Heap.get?_push_of_some _ (Heap.get?_push_size _ f1))))
  show _ ∧ _
  rw [z2, z3, z4] at g5
  rw [z1, z2] at g3
  rw [z3] at g4
  rw [z1] at g2
  rw [z4]
  exact ⟨⟨_, g5, rfl⟩, h _ g5 g3 g4 g1 g2 z5 fun c o x => Heap.get?_push_of_some _ (Heap.get?_push_of_some _ (Heap.get?_push_of_some _ (Heap.get?_push_of_some _ (Heap.get?_push_of_some _ x))))⟩
end

section
variable {X : Cx} {pins : List (Addr × Obj)} {σ : St} {H : Hp} {s : Shared} {h' : Heap}
/-- several untracked records of ours have turned, and a new tuple is tracked -/
theorem Inv.turnedL {t' : Nat} {ch : List Addr} (I : Inv X pins σ H s) (k : ∀ b o, b ∉ ch → s.heap.get? b = some o → h'.get? b = some o) (hf : ∀ b ∈ ch, FpOk X pins H b) : Inv X pins σ H { s with heap := h', toks := t' } := by
  have nit : ∀ b u, H b = some u → b ∉ ch := fun b u e z => by rw [(hf b z).1] at e; cases e
  refine I.step (g' := s.gens) (d' := s.drawn) (ch := ch) (fun b hb => ?_) (fun b o _ _ hc e _ => k b o hc e) (fun b o _ _ hc e _ => ⟨o.slots, k b o hc e⟩) (fun _ _ _ _ n => n)
    (fun b o hc e => ⟨o, k b o hc e⟩) (fun _ _ e => e) (fun _ _ _ e => e) (fun b ps e => ⟨#[], by rw [e]; simp⟩) (fun m hm => ?_) (fun b u e => ?_) I.bare
  · obtain ⟨f0, f1, f2, f3, f4, f5⟩ := hf b hb
    exact ⟨f3, f1, f4, f5⟩
  · obtain ⟨o, es, ep, ho, r⟩ := hm
    exact ⟨o, es, ep, k _ o (fun z => (hf _ z).2.1 rfl) ho, r⟩
  · refine (I.hok b u e).stay (fun c v hc q => k c v ?_ q) (fun _ q => q) fun _ _ q => q
    rcases hc with z | z
    · rw [z]; exact nit b u e
    · exact nit c _ z
theorem Inv.turnedT {t' : Nat} {ch : List Addr} {T : Addr} {vs : List V} (I : Inv X pins σ H s) (k : ∀ b o, b ∉ ch → s.heap.get? b = some o → h'.get? b = some o) (hf : ∀ b ∈ ch, FpOk X pins H b) (hT : s.heap.objs.size ≤ T)
    (new : ObjOk X.prog X.w (upd H T (.tup vs)) h' T (.tup vs)) : Inv X pins σ (upd H T (.tup vs)) { s with heap := h', toks := t' } := by
  have hn : H T = none := I.hok.fresh hT
  have nit : ∀ b u, H b = some u → b ∉ ch := fun b u e z => by rw [(hf b z).1] at e; cases e
  have nT : ∀ b o, s.heap.get? b = some o → b ≠ T := fun b o e z => absurd (Heap.lt_size e) (by rw [z]; exact Nat.not_lt.mpr hT)
  have up : ∀ b u, H b = some u → upd H T (.tup vs) b = some u := fun b u e => by rw [upd_ne (ne_of_none e hn)]; exact e
  refine I.step (g' := s.gens) (d' := s.drawn) (ch := ch) (fun b hb => ?_) (fun b o _ _ hc e _ => k b o hc e) (fun b o _ _ hc e _ => ⟨o.slots, k b o hc e⟩) (fun b o _ e n => by rw [upd_ne (nT b o e)]; exact n)
    (fun b o hc e => ⟨o, k b o hc e⟩) (fun b xs e => up b _ e) (fun b o u e => up b _ e) (fun b ps e => ⟨#[], by rw [up b _ e]; simp⟩) (fun m hm => ?_) (fun b u e => ?_) I.bare
  · obtain ⟨f0, f1, f2, f3, f4, f5⟩ := hf b hb
    exact ⟨f3, f1, f4, f5⟩
  · obtain ⟨o, es, ep, ho, r⟩ := hm
    exact ⟨o, es, ep, k _ o (fun z => (hf _ z).2.1 rfl) ho, r⟩
  · by_cases hb : b = T
    · subst hb; rw [upd_same] at e; cases e; exact new
    · rw [upd_ne hb] at e
      refine (I.hok b u e).stay (fun c v hc q => k c v ?_ q) (fun c q => up c _ q) fun c xs q => up c _ q
      rcases hc with z | z
      · rw [z]; exact nit b u e
      · exact nit c _ z
end

/-- what zip(a, b) yields: pairs, each a new tuple -/
def Itz (G1 G2 : Hp → List V → Prop) : It :=
  ⟨fun i H => ∃ xs ys x y, G1 H xs ∧ G2 H ys ∧ xs[i]? = some x ∧ ys[i]? = some y, fun i H v H' => ∃ T, v = .ref T ∧ H T = none ∧ ∀ xs ys x y, G1 H xs → G2 H ys → xs[i]? = some x → ys[i]? = some y → H' = upd H T (.tup [x, y]),
    fun i H => ∃ xs ys, G1 H xs ∧ G2 H ys ∧ (xs.length ≤ i ∨ ys.length ≤ i)⟩
/-- a sequence as a zip's part: what of the abstract heap tells its items -/
structure Part (K : PySem.W.Frag) (G : Hp → List V → Prop) (Si : Addr → Nat → Heap → Prop) (R : Heap → (Nat → Option Value) → Prop) (own : Addr) : Prop where
  sub : ∀ (P : Program) (w : World) (i : Addr), Sub P w i (Si i) R
  ready : ∀ (X : Cx), X.K = K → ∀ (pins : List (Addr × Obj)) (σ : St) (H : Hp) (s : Shared) (xs : List V), Inv X pins σ H s → G H xs → ∃ us : List Value, Vals xs us ∧ R s.heap (fun k => us[k]?)
  inj : ∀ (X : Cx), X.K = K → ∀ (pins : List (Addr × Obj)) (σ : St) (H : Hp) (s : Shared) (xs ys : List V), Inv X pins σ H s → G H xs → G H ys → xs = ys
  keep : ∀ h h' g, R h g → (∀ o, h.get? own = some o → h'.get? own = some o) → R h' g
end L2
namespace L2
open PySem PySem.Spec PyProof.Rows
section
variable {X : Cx} {elts : List Expr} {kk : Nat} {tpos : Pos}
theorem zapart_new (n : Nat) : ZApart (n + 4) (n + 2) (n + 3) n (n + 1) := by
  constructor <;> (intro e; have e' : @Eq Nat _ _ := e; omega)
/-- zip(a, b) of two tuples, of two lists -/
def iZipT (K : PySem.W.Frag) (ta : TA) : TI := fun σ H R => ta σ H fun vs H1 => ∃ a b xs ys, vs = [.ref a, .ref b] ∧ SqT K H1 a xs ∧ SqT K H1 b ys ∧ R (Itz (fun H xs => SqT K H a xs) (fun H ys => SqT K H b ys)) H1
def iZipL (K : PySem.W.Frag) (ta : TA) : TI := fun σ H R => ta σ H fun vs H1 => ∃ a b xs ys, vs = [.ref a, .ref b] ∧ SqL K H1 a xs ∧ SqL K H1 b ys ∧ R (Itz (fun H xs => SqL K H a xs) (fun H ys => SqL K H b ys)) H1
/-- .. without a test -/
theorem lc_on {J : It} {P : Hp → Prop} {xs : List V} (hJ : ItSeq J P xs) {src : List (Option Nat)} {g : TG} {te : TE} {σ : St} {H1 : Hp} {Q : VK} {D : Addr} (Pv : Nat → List V → St → Hp → Prop)
    (h0 : Pv 0 [] (capSt src σ) (upd H1 D (.lst []))) (hP : ∀ i ys σ' H', Pv i ys σ' H' → P H' ∧ H' D = some (.lst ys))
    (mono : ∀ x σ H Q Q', (∀ σ' H', Q σ' H' → Q' σ' H') → g x σ H Q → g x σ H Q')
    (step : ∀ i ys σ' H' x, xs[i]? = some x → Pv i ys σ' H' → g x σ' H' fun σ2 H4 => te σ2 H4 fun y H6 => H6 D = some (.lst ys) ∧ ys.length < sizeLine ∧ Pv (i + 1) (ys ++ [y]) σ2 (upd H6 D (.lst (ys ++ [y]))))
    (fin : ∀ ys σ' H', Pv xs.length ys σ' H' → Q (.ref D) H') : LC src J g tYes te σ H1 Q D :=
  lc_by hJ Pv h0 hP (fun i ys σ' H' x hx p => by
    refine mono _ _ _ _ _ ?_ (step i ys σ' H' x hx p)
    intro σ2 H4 q
    unfold tYes
    dsimp only
    rw [if_pos rfl]
    exact q) fin
theorem gName_mono (i : Nat) : ∀ x σ H Q Q', (∀ σ' H', Q σ' H' → Q' σ' H') → gName i x σ H Q → gName i x σ H Q' := fun _ _ _ _ _ h q => h _ _ q
/-! ### for over a text, over anything of n turns -/
end
end L2
namespace L2
open PySem PySem.Spec PyProof.Rows
/-! ### short words: the surroundings of a law as one thing, its defs by their promises -/
structure Gx where
  P : Program
  w : World
  K : PySem.W.Frag
  mg : Str → Option Value
  base : Heap
def Cx.gx (X : Cx) : Gx := ⟨X.prog, X.w, X.K, X.mg, X.base⟩
/-- a def of the top as it stands there -/
def Gx.Raw (g : Gx) (x qual : Str) (st : Stmt) (ps : List Str) : Prop := ∃ f fd, Fun g.K x qual st f fd ∧ Binds g.K fd ps [] ∧ g.mg x = some (.ref f)
/-- .. with its promise, k calls deep -/
def Gx.Fn (g : Gx) (k : Nat) (x : Str) (ps : List Str) (sp : Sp) : Prop := ∃ f fd, FnOk g.P g.w g.K g.mg g.base CX0 k f fd ps sp ∧ Binds g.K fd ps [] ∧ PySem.W.keepIn g.K (.ref f) = true ∧ g.mg x = some (.ref f)
/-- a method of the class at C -/
def Gx.RawM (g : Gx) (C : Addr) (m qual : Str) (st : Stmt) (ps : List Str) : Prop := ∃ f fd, Fun g.K m qual st f fd ∧ Binds g.K fd ps [] ∧ Meth g.K C m f
def Gx.Me (g : Gx) (k : Nat) (C : Addr) (m : Str) (ps : List Str) (sp : Sp) : Prop := ∃ f fd, FnOk g.P g.w g.K g.mg g.base CX0 k f fd ps sp ∧ Binds g.K fd ps [] ∧ Meth g.K C m f
/-- the class's own making -/
def Gx.RawI (g : Gx) (x : Str) (C : Addr) (qual : Str) (st : Stmt) (ps : List Str) : Prop := ∃ f fd, Fun g.K "__init__" qual st f fd ∧ Binds g.K fd ps [] ∧ Mk g.K C f ∧ g.mg x = some (.ref C)
def Gx.Ma (g : Gx) (k : Nat) (x : Str) (C : Addr) (ps : List Str) (sp : Sp) : Prop := ∃ f fd, FnOk g.P g.w g.K g.mg g.base CX0 k f fd ps sp ∧ Binds g.K fd ps [] ∧ Mk g.K C f ∧ g.mg x = some (.ref C)
def Gx.Con (g : Gx) (x : Str) (v : V) : Prop := ∃ u, g.mg x = some u ∧ RelV v u
/-- the body's context -/
abbrev Gx.cx (g : Gx) (N : List Str) (qual : Str) (st : Stmt) (f : Addr) (cdv : Value) (A : Around) (outer : List Env) (s : Shared) (H : Hp) (E : XK) : Cx := (cxOf CX0 g.P g.w g.K g.mg g.base N qual (defScope st) f cdv A outer s H E).nox
def Body (g : Gx) (k : Nat) (N : List Str) (qual : Str) (st : Stmt) (sp : Sp) : Prop := ∀ (f : Addr) (cdv : Value) (A : Around) (outer : List Env) (s : Shared) (H : Hp) (vs : List V) (Q : VK) (E : XK), Room k (g.cx N qual st f cdv A outer s H E).A → sp vs H Q E →
  ∃ t, PSs (g.cx N qual st f cdv A outer s H E) (defBody st) t ∧ t { nx := fun _ H' => Q .non H', rt := Q } (start N vs) H
section
variable {g : Gx} {k : Nat} {x qual m : Str} {st : Stmt} {N ps : List Str} {sp : Sp} {C : Addr}
theorem Gx.Raw.fn (R : g.Raw x qual st ps) (S : FnScope N ps (defScope st)) (len : ∀ vs H Q E, sp vs H Q E → vs.length = ps.length) (b : Body g k N qual st sp) : g.Fn (k + 1) x ps sp := by
  obtain ⟨f, fd, F, bd, hm⟩ := R
  exact ⟨f, fd, F.ok S len fun cdv A outer s H vs Q E hr h => b f cdv A outer s H vs Q E hr h, bd, F.kp, hm⟩
theorem Gx.Fn.mono {j : Nat} (F : g.Fn j x ps sp) (h : j ≤ k) : g.Fn k x ps sp := by
  obtain ⟨f, fd, F, r⟩ := F
  exact ⟨f, fd, F.mono h, r⟩
theorem Gx.Me.mono {j : Nat} (F : g.Me j C m ps sp) (h : j ≤ k) : g.Me k C m ps sp := by
  obtain ⟨f, fd, F, r⟩ := F
  exact ⟨f, fd, F.mono h, r⟩
theorem Gx.Ma.mono {j : Nat} (F : g.Ma j x C ps sp) (h : j ≤ k) : g.Ma k x C ps sp := by
  obtain ⟨f, fd, F, r⟩ := F
  exact ⟨f, fd, F.mono h, r⟩
/-- nothing can be asked: no call is left -/
theorem Gx.Raw.none (R : g.Raw x qual st ps) (no : ∀ vs H Q E, ¬ sp vs H Q E) : g.Fn k x ps sp := by
  obtain ⟨f, fd, F, bd, hm⟩ := R
  exact ⟨f, fd, ⟨fun vs H Q E h => absurd h (no vs H Q E), fun A outer s H args us vs Q E _ _ _ _ h => absurd h (no vs H Q E)⟩, bd, F.kp, hm⟩
theorem Gx.RawM.none (R : g.RawM C m qual st ps) (no : ∀ vs H Q E, ¬ sp vs H Q E) : g.Me k C m ps sp := by
  obtain ⟨f, fd, F, bd, hm⟩ := R
  exact ⟨f, fd, ⟨fun vs H Q E h => absurd h (no vs H Q E), fun A outer s H args us vs Q E _ _ _ _ h => absurd h (no vs H Q E)⟩, bd, hm⟩
end
section
variable {g : Gx} {X : Cx} {k j : Nat} {x m : Str} {ps : List Str} {sp : Sp} {C : Addr} {e o : Expr} {es : List Expr} {t : TA} {ta : TE} {p pos apos : Pos}
/-- f(e, ..) -/
theorem pe_fn (F : g.Fn j x ps sp) (hr : Room k X.A) (ha : PA X (e :: es) t) (hj : j ≤ k := by omega) (hX : X.gx = g := by rfl) (hg : Gl X x := by rfl) (hdb : (x == ("__debug__" : Str)) = false := by decide)
    (he : starEach (e :: es) X.env = (false, eval e X.env) :: starEach es X.env := by rfl) (hpl : (backTo pos (starEach es X.env)).any (·.1) = false := by rfl) : PE X (.Call (.Name x p) (e :: es) [] pos) (tCall sp [] E0 t) := by
  subst hX
  obtain ⟨f, fd, F, b, kp, hm⟩ := F
  exact pe_call F (hr.mono hj) hg hm kp b .nil pass0 ha hdb he hpl
/-- a built-in function, type -/
theorem pe_bf {id : String} {r : List V → Hp → VK → Prop} (hm : g.mg x = none) (hc : CallR X (.builtin id) r) (ha : PA X (e :: es) t) (hv : bootBuiltins x = some (.builtin id) := by decide +kernel) (hX : X.gx = g := by rfl) (hg : Gl X x := by rfl) (hn : x ≠ "__name__" := by decide) (hdb : (x == ("__debug__" : Str)) = false := by decide)
    (he : starEach (e :: es) X.env = (false, eval e X.env) :: starEach es X.env := by rfl) (hpl : (backTo pos (starEach es X.env)).any (·.1) = false := by rfl) : PE X (.Call (.Name x p) (e :: es) [] pos) (tCB r t) := by
  subst hX
  exact pe_callB hc hg hm hv ha hn hdb he hpl
theorem pe_bt {T : String} {r : List V → Hp → VK → Prop} (hm : g.mg x = none) (hc : CallR X (.type T) r) (ha : PA X (e :: es) t) (hv : bootBuiltins x = some (.type T) := by decide +kernel) (hX : X.gx = g := by rfl) (hg : Gl X x := by rfl) (hn : x ≠ "__name__" := by decide) (hdb : (x == ("__debug__" : Str)) = false := by decide)
    (he : starEach (e :: es) X.env = (false, eval e X.env) :: starEach es X.env := by rfl) (hpl : (backTo pos (starEach es X.env)).any (·.1) = false := by rfl) : PE X (.Call (.Name x p) (e :: es) [] pos) (tCB r t) := by
  subst hX
  exact pe_callTy hc hg hm hv ha hn hdb he hpl
/-- a built-in type's name -/
theorem pe_bn {T : String} (hm : g.mg x = none) (hv : bootBuiltins x = some (.type T) := by decide +kernel) (hX : X.gx = g := by rfl) (hg : Gl X x := by rfl) (hn : x ≠ "__name__" := by decide) (hdb : (x == ("__debug__" : Str)) = false := by decide) : PE X (.Name x pos) (tC (.ty T)) := by
  subst hX
  exact pe_bltn hg hm hv rfl hn hdb
end
/-! ### code lists as texts -/
def S (l : List Nat) : Str := ⟨l.toArray⟩
theorem S_list (l : List Nat) : (S l).cps.toList = l := by simp [S]
theorem S_len (l : List Nat) : (S l).length = l.length := by simp [S, Str.length]
theorem S_app (a b : List Nat) : S a ++ S b = S (a ++ b) := by
  show Str.append (S a) (S b) = S (a ++ b)
  simp [Str.append, S]
theorem S_inj {a b : List Nat} (h : S a = S b) : a = b := by
  have := congrArg (fun x : Str => x.cps.toList) h
  simpa [S_list] using this
theorem S_one (c : Nat) : (⟨#[c]⟩ : Str) = S [c] := rfl
def joinL (s : List Nat) : List (List Nat) → List Nat
  | [] => []
  | [x] => x
  | x :: y :: r => x ++ s ++ joinL s (y :: r)
end L2
namespace L2
open PySem PySem.Spec PyProof.Rows
/-! ### what the top has written -/
section
variable {K : PySem.W.Frag} {h : Heap} {mg : Str → Option Value} {P : Program} {w : World} {base : Heap} {f C : Addr} {x qual m : Str} {st : Stmt} {ps : List Str} {oc kV dc pm cd ct : Value} {od an : Option Addr} {sl : Array (Option Value)}
theorem raw_mk (X : K.In h) (G : h.Ns mainGlobals mg) (ps : List Str)
    (a : PySem.W.nsIn K mainGlobals x = some (some (.ref f))) (l : K.lookup f = some ⟨oc, od, .func (PySem.W.fnOf x x (defArgs st) (defBody st) (defScope st) .none kV dc pm an cd ct), sl⟩) (c : PySem.W.codeIn K cd x = true) (k : PySem.W.keepIn K (.ref f) = true)
    (b : ∀ (kV doc pm : Value) (an : Option Addr) (cdv ct : Value) (us : List Value), us.length = ps.length → bindArgs (PySem.W.fnOf x x (defArgs st) (defBody st) (defScope st) .none kV doc pm an cdv ct) ⟨us, []⟩ = pure (ps.zip us)) :
    ∀ P w base, (Gx.mk P w K mg base).Raw x x st ps := fun P w base =>
  have F := fun_mk (st := st) l c k
  ⟨f, _, F, F.binds b, PySem.W.mg_of X G a⟩
end
/-- the law's own promise -/
def spTrue (K : PySem.W.Frag) : Sp := fun vs H Q _ => ∃ (a : Addr) (ns : List Int), vs = [.ref a] ∧ SqL K H a (ns.map V.int) ∧ ns.length ≤ 63 ∧ ∀ H', Q (.bl true) H'
/-- the law's def as it stands at the top -/
def LawRaw (K : PySem.W.Frag) (mg : Str → Option Value) (st : Stmt) (x n : Str) : Prop := ∃ f fd, Fun K n n st f fd ∧ (∀ (s : Shared) (u : Value), BindsTo s fd ⟨[u], []⟩ [(x, u)]) ∧ mg n = some (.ref f)
theorem lawRaw_mk {K : PySem.W.Frag} {h : Heap} {mg : Str → Option Value} {f : Addr} {x n : Str} {st : Stmt} {oc kV dc pm cd ct : Value} {od an : Option Addr} {sl : Array (Option Value)} (X : K.In h) (G : h.Ns mainGlobals mg)
    (a : PySem.W.nsIn K mainGlobals n = some (some (.ref f))) (l : K.lookup f = some ⟨oc, od, .func (PySem.W.fnOf n n (defArgs st) (defBody st) (defScope st) .none kV dc pm an cd ct), sl⟩) (c : PySem.W.codeIn K cd n = true) (k : PySem.W.keepIn K (.ref f) = true)
    (b : ∀ (kV doc pm : Value) (an : Option Addr) (cdv ct : Value) (s : Shared) (u : Value), BindsTo s (PySem.W.fnOf n n (defArgs st) (defBody st) (defScope st) .none kV doc pm an cdv ct) ⟨[u], []⟩ [(x, u)]) : LawRaw K mg st x n :=
  ⟨f, _, fun_mk (st := st) l c k, b kV dc pm an cd ct, PySem.W.mg_of X G a⟩
/-- from the law's body to the claim -/
theorem walk_gx {l : PySem.W.OpenLaw} {q : Program} {loose : List Str} {XP : (Str → Option Value) → Heap → Prop} {YP : World → Heap → Prop} {d : DefRec} {K : Params → PySem.W.Frag} (k : Nat) (x : Str) (st : Stmt) (N : List Str) (hn : l.most = some 63) (hdf : d.params.defaults = []) (hk : Room (k + 1) callerA) (S : FnScope N [x] (defScope st))
    (hY : ∀ (w : World) (h : Heap), YP w h → (K w.params).In h)
    (F : ∀ (w : World) (mg : Str → Option Value) (h : Heap), (K w.params).In h → h.Ns mainGlobals mg → LawRaw (K w.params) mg st x d.name ∧ ∀ base, Body (Gx.mk l.prog w (K w.params) mg base) k N d.name st (spTrue (K w.params))) :
    PySem.W.WalkO q loose XP YP l.row.toRowW d [] (fun f vs => PySem.call f vs) := by
  refine L2.walk_of (n := 63) (k := k + 1) (x := x) (CX := fun _ => CX0) (sp := fun w => spTrue (K w.params)) hn (by decide) hdf hk hY (fun w mg fa h KX G hmg => ?_) (fun _ _ a ns hl _ hS => ⟨a, ns, rfl, hS, hl, fun _ => rfl⟩) fun _ _ _ _ _ z => z
  obtain ⟨⟨f, fd, Fu, hb, hm⟩, B⟩ := F w mg h KX G
  have e := hmg.symm.trans hm
  cases e
  exact ⟨fd, hb, fun base _ _ => Fu.ok S (fun vs H Q E h => by obtain ⟨a, ns, rfl, _⟩ := h; rfl) fun cdv A outer s H vs Q E hr h => B base fa cdv A outer s H vs Q E hr h⟩
end L2
namespace L2
open PySem PySem.Spec PyProof.Rows
section
variable {X : Cx}
/-- a number's bits, by a power above it -/
theorem bits_lt {a : Int} {m : Nat} (h : a.natAbs < 2 ^ m) : Builtin.Int.intBits a ≤ m := by
  unfold Builtin.Int.intBits
  split
  · omega
  · rename_i h0
    have h0 : a.natAbs ≠ 0 := by simpa using h0
    have := (Nat.log2_lt h0).mpr h
    omega
/-- a product whose bits are told -/
def CMulB (i j : Int) : Prop := ∃ m n : Nat, i.natAbs < 2 ^ m ∧ j.natAbs < 2 ^ n ∧ m + n ≤ 100000000
theorem CMulB.ok {i j : Int} (h : CMulB i j) : IntMulOk i j := by
  obtain ⟨m, n, h1, h2, h3⟩ := h
  exact IntMulOk.of_le (bits_lt h1) (bits_lt h2) (by omega)
def CDivL (i j : Int) : Prop := 0 < j ∧ j.natAbs < 2 ^ 9000
theorem op_fdivL : OpR X (binaryOp .FloorDiv) (rI CDivL fun i j => .int (i / j)) := opI fun i j _ _ _ _ _ hc q => by
  have h1 : (0 : Int) < j := hc.1
  have h2 := hc.2
  have h3 : j.natAbs ≠ 0 := by omega
  exact floordiv_int (by omega) (by rw [Int.fdiv_eq_ediv_of_nonneg i (by omega)]; exact q) (.inl (PyProof.noPylong_of_log2 ((Nat.log2_lt h3).mpr h2)))
theorem small_div {j : Int} (h : 0 < j) (h2 : j < 1073741824) {i : Int} : CDivL i j := ⟨h, Nat.lt_of_lt_of_le (show j.natAbs < 2 ^ 30 by omega) (Nat.pow_le_pow_right (by decide) (by decide))⟩
end
end L2
namespace L2
open PySem PySem.Spec PyProof.Rows
theorem cxOf_K {CX : CXT} {P : Program} {w : World} {K : PySem.W.Frag} {mg : Str → Option Value} {base : Heap} {N : List Str} {qual : Str} {scope : Scope} {f : Addr} {cd : Value} {A : Around} {outer : List Env} {s : Shared} {H : Hp} {E : XK} :
    (cxOf CX P w K mg base N qual scope f cd A outer s H E).K = K := rfl
theorem nox_K {X : Cx} : X.nox.K = X.K := rfl
/-! loops, said of the reading itself -/
section
variable {g : TG} {tb : TS} {D : Ends} {σ : St} {H : Hp}
theorem tFor_range1 {ta : TA} {n : Nat} (Pv : Nat → St → Hp → Prop) (ha : ∀ R : List V → Hp → Prop, R [.int n] H → ta σ H R) (hn : n < 2 ^ 62) (h0 : Pv 0 σ H)
    (hs : ∀ i σ H, i < n → Pv i σ H → g (.int i) σ H fun σ2 H2 => tb { D with nx := Pv (i + 1), ct := Pv (i + 1), bk := D.nx } σ2 H2) (hd : ∀ σ H, Pv n σ H → D.nx σ H) : tFor (iRng1 ta) g tb D σ H := by
  refine ha _ ⟨n, rfl, by omega, by omega, ?_⟩
  refine for_range (lo := 0) (n := n) Pv h0 (fun i σ H hi p => ?_) hd
  have e : (0 : Int) + i = i := by omega
  rw [e]; exact hs i σ H hi p
theorem tFor_list {K : PySem.W.Frag} {tl : TE} {a : Addr} {xs : List V} (Pv : Nat → St → Hp → Prop) (ha : ∀ R : V → Hp → Prop, R (.ref a) H → tl σ H R) (h0 : Pv 0 σ H) (hl : ∀ i σ H, i ≤ xs.length → Pv i σ H → SqL K H a xs)
    (hs : ∀ i x σ H, xs[i]? = some x → Pv i σ H → g x σ H fun σ2 H2 => tb { D with nx := Pv (i + 1), ct := Pv (i + 1), bk := D.nx } σ2 H2) (hd : ∀ σ H, Pv xs.length σ H → D.nx σ H) : tFor (iList K tl) g tb D σ H := by
  refine ha _ ⟨a, rfl, ⟨xs, hl 0 σ H (Nat.zero_le _) h0⟩, ?_⟩
  exact for_list Pv h0 hl hs hd
end
end L2
namespace L2
open PySem PySem.Spec PyProof.Rows
section
variable {X : Cx}
/-- the sum of a list of ints -/
theorem call_sum_ints (hc : X.calm = true := by rfl) : CallR X (.builtin "sum") (fun xs H Q => ∃ (p : Addr) (ns : List Int), xs = [.ref p] ∧ SqL X.K H p (ns.map V.int) ∧ Q (.int ns.sum) H) := by
  intro pins s σ H xs us Q I r h
  obtain ⟨p, ns, rfl, hq, q⟩ := h
  obtain ⟨u, rfl, rx⟩ := vals1 r
  cases rx
  obtain ⟨its, r', pl, hz⟩ := I.list hq
  have hi := intsAre_of r'
  have hl := pl.isList
  obtain ⟨xs, ex⟩ := hi.allInts.items
  rw [ex] at hl
  have e : preSum (numAt xs) xs.size = ns.sum := by
    have h1 := nums_intItems (xs := xs)
    rw [← ex] at h1
    have h2 := hi.numsOf
    rw [preSum_eq, List.take_of_length_le (by simp)]
    rw [← h1]
    exact congrArg List.sum h2
  refine sum_intListG (I.ok.hd hc) hl fun h' tk t' hk => ?_
  rw [e]
  exact ⟨.int _, H, I.kept (t' := tk) hk, ⟨t', rfl⟩, q⟩
end
/-! ### enumerate over a list -/
/-- what enumerate yields: pairs of a place and a thing, each a new tuple -/
def Ite (G : Hp → List V → Prop) : It :=
  ⟨fun i H => ∃ xs x, G H xs ∧ xs[i]? = some x, fun i H v H' => ∃ T, v = .ref T ∧ H T = none ∧ ∀ xs x, G H xs → xs[i]? = some x → H' = upd H T (.tup [.int i, x]), fun i H => ∃ xs, G H xs ∧ xs.length ≤ i⟩
section
variable {X : Cx} {elts : List Expr} {kk : Nat} {tpos : Pos}
def iEnumL (K : PySem.W.Frag) (ta : TA) : TI := fun σ H R => ta σ H fun vs H1 => ∃ a xs, vs = [.ref a] ∧ SqL K H1 a xs ∧ R (Ite fun H xs => SqL K H a xs) H1
end
end L2
namespace L2
open PySem PySem.Spec PyProof.Rows
/-! ### == and != of data of any depth -/
mutual
/-- the data that a value of the heap stands for -/
inductive Den (K : PySem.W.Frag) (H : Hp) : V → PyData → Prop
  | non : Den K H .non .none
  | bl (b : Bool) : Den K H (.bl b) (.bool b)
  | int (i : Int) : Den K H (.int i) (.int i)
  | str (x : Str) (h : PyData.strOk x = true) : Den K H (.str x) (.str x)
  | lst {a : Addr} {vs : List V} {ds : List PyData} : SqL K H a vs → Dens K H vs ds → Den K H (.ref a) (.list ds)
  | tup {a : Addr} {vs : List V} {ds : List PyData} : SqT K H a vs → Dens K H vs ds → Den K H (.ref a) (.tuple ds)
inductive Dens (K : PySem.W.Frag) (H : Hp) : List V → List PyData → Prop
  | nil : Dens K H [] []
  | cons {v : V} {d : PyData} {vs : List V} {ds : List PyData} : Den K H v d → Dens K H vs ds → Dens K H (v :: vs) (d :: ds)
end
mutual
theorem Den.keep {K : PySem.W.Frag} {H H' : Hp} (e : Same H H') : ∀ {v : V} {d : PyData}, Den K H v d → Den K H' v d
  | _, _, .non => .non
  | _, _, .bl b => .bl b
  | _, _, .int i => .int i
  | _, _, .str x h => .str x h
  | _, _, .lst h hs => .lst (e.seq h) (hs.keep e)
  | _, _, .tup h hs => .tup (e.tup h) (hs.keep e)
theorem Dens.keep {K : PySem.W.Frag} {H H' : Hp} (e : Same H H') : ∀ {vs : List V} {ds : List PyData}, Dens K H vs ds → Dens K H' vs ds
  | _, _, .nil => .nil
  | _, _, .cons h hs => .cons (h.keep e) (hs.keep e)
end
mutual
theorem Den.lay {K : PySem.W.Frag} {H : Hp} : ∀ {v : V} {d : PyData}, Den K H v d → d.canLay0 = true
  | _, _, .non => rfl
  | _, _, .bl b => rfl
  | _, _, .int i => rfl
  | _, _, .str x h => by simpa [PyData.canLay0] using h
  | _, _, .lst _ hs => by rw [PyData.canLay0]; exact hs.lay
  | _, _, .tup _ hs => by rw [PyData.canLay0]; exact hs.lay
theorem Dens.lay {K : PySem.W.Frag} {H : Hp} : ∀ {vs : List V} {ds : List PyData}, Dens K H vs ds → PyData.canLayAll0 ds = true
  | _, _, .nil => rfl
  | _, _, .cons h hs => by rw [PyData.canLayAll0, h.lay, hs.lay]; rfl
end
theorem Dens.length {K : PySem.W.Frag} {H : Hp} : ∀ {vs : List V} {ds : List PyData}, Dens K H vs ds → vs.length = ds.length
  | _, _, .nil => rfl
  | _, _, .cons _ hs => congrArg (· + 1) hs.length
theorem Dens.ints {K : PySem.W.Frag} {H : Hp} : ∀ ns : List Int, Dens K H (ns.map V.int) (ns.map PyData.int)
  | [] => .nil
  | n :: ns => .cons (.int n) (.ints ns)
theorem Dens.append {K : PySem.W.Frag} {H : Hp} {vs' : List V} {ds' : List PyData} : ∀ {vs : List V} {ds : List PyData}, Dens K H vs ds → Dens K H vs' ds' → Dens K H (vs ++ vs') (ds ++ ds')
  | _, _, .nil, h => h
  | _, _, .cons a b, h => .cons a (b.append h)
theorem Dens.get {K : PySem.W.Frag} {H : Hp} : ∀ {vs : List V} {ds : List PyData} {i : Nat} {v : V}, Dens K H vs ds → vs[i]? = some v → ∃ d, ds[i]? = some d ∧ Den K H v d
  | _, _, 0, v, .cons a _, h => by
    have : _ = v := Option.some.inj h
    subst this
    exact ⟨_, rfl, a⟩
  | _, _, i + 1, v, .cons _ b, h => b.get (i := i) h
theorem Dens.at {K : PySem.W.Frag} {H : Hp} : ∀ {vs : List V} {ds : List PyData} {i : Nat} {d : PyData}, Dens K H vs ds → ds[i]? = some d → ∃ v, vs[i]? = some v ∧ Den K H v d
  | _, _, 0, d, .cons a _, h => by
    have : _ = d := Option.some.inj h
    subst this
    exact ⟨_, rfl, a⟩
  | _, _, i + 1, d, .cons _ b, h => b.at (i := i) h
section
variable {X : Cx}
mutual
theorem Den.reads {pins : List (Addr × Obj)} {σ : St} {H : Hp} {s : Shared} (I : Inv X pins σ H s) : ∀ {v : V} {d : PyData} {u : Value}, Den X.K H v d → RelV v u → ∃ as, Reads s.heap u d as
  | _, _, u, .non, r => by cases (show u = .none from r); exact ⟨_, .none⟩
  | _, _, u, .bl b, r => by cases (show u = .bool b from r); exact ⟨_, .bool b⟩
  | _, _, u, .int i, r => by obtain ⟨t, rfl⟩ := r; exact ⟨_, .int i t⟩
  | _, _, u, .str x h, r => by obtain ⟨t, rfl⟩ := r; exact ⟨_, .str x t⟩
  | _, _, u, .lst (a := a) h hs, r => by
    cases (show u = .ref a from r)
    obtain ⟨its, rv, pl, hz⟩ := I.list h
    obtain ⟨as, ra⟩ := hs.reads I rv
    obtain ⟨o, e1, e2, n, e3⟩ := pl.isList
    exact ⟨_, .list e1 e2 e3 (by simpa using ra)⟩
  | _, _, u, .tup (a := a) h hs, r => by
    cases (show u = .ref a from r)
    obtain ⟨its, rv, pl, hz⟩ := I.tuple h
    obtain ⟨as, ra⟩ := hs.reads I rv
    obtain ⟨o, e1, e2, n, e3⟩ := (show s.heap.IsTuple a its.toArray from pl)
    exact ⟨_, .tuple e1 e2 e3 (by simpa using ra)⟩
theorem Dens.reads {pins : List (Addr × Obj)} {σ : St} {H : Hp} {s : Shared} (I : Inv X pins σ H s) : ∀ {vs : List V} {ds : List PyData} {us : List Value}, Dens X.K H vs ds → Vals vs us → ∃ as, ReadsAll s.heap us ds as
  | _, _, us, .nil, r => by cases r; exact ⟨_, .nil⟩
  | _, _, us, .cons h hs, r => by
    cases r with
    | cons r rr =>
      obtain ⟨as, ra⟩ := h.reads I r
      obtain ⟨bs, rb⟩ := hs.reads I rr
      exact ⟨_, .cons ra rb⟩
end
theorem op_eqD (hu : X.A.units + 64 < cLine) : OpR X (compareOp .Eq) (fun x y H Q => ∃ d e, Den X.K H x d ∧ Den X.K H y e ∧ d.depth ≤ 64 ∧ Q (.bl (PyData.eqv d e)) H) := by
  intro pins s σ H x y v u Q I rx ry h
  obtain ⟨d, e, hd, he, dp, q⟩ := h
  obtain ⟨as, ra⟩ := hd.reads I rx
  obtain ⟨bs, rb⟩ := he.reads I ry
  exact SeqAt.rcAt_reads ra rb hd.lay he.lay (by omega) _ _ _ _ ⟨.bl _, H, I, rfl, q⟩
theorem op_neD (hu : X.A.units + 64 < cLine) : OpR X (compareOp .NotEq) (fun x y H Q => ∃ d e, Den X.K H x d ∧ Den X.K H y e ∧ d.depth ≤ 64 ∧ Q (.bl (!PyData.eqv d e)) H) := by
  intro pins s σ H x y v u Q I rx ry h
  obtain ⟨d, e, hd, he, dp, q⟩ := h
  obtain ⟨as, ra⟩ := hd.reads I rx
  obtain ⟨bs, rb⟩ := he.reads I ry
  exact SeqAt.compareNe_reads ra rb hd.lay he.lay (by omega) ⟨.bl _, H, I, rfl, q⟩
end
/-! ### comprehensions -/
theorem take_snoc {α : Type} {l : List α} {i : Nat} {x : α} (h : l[i]? = some x) : l.take (i + 1) = l.take i ++ [x] := by
  obtain ⟨hi, hc⟩ := List.getElem?_eq_some_iff.mp h
  rw [List.take_succ_eq_append_getElem hi, hc]
theorem lc_map {J : It} {P : Hp → Prop} {xs : List V} (hJ : ItSeq J P xs) {src : List (Option Nat)} {te : TE} {σ : St} {H1 : Hp} {Q : VK} {D : Addr} (ys : List V) (hP : ∀ H', Same H1 H' → P H') (hD : H1 D = none) (hl : ys.length = xs.length) (hlen : xs.length ≤ 100000)
    (step : ∀ (i : Nat) x y H', xs[i]? = some x → ys[i]? = some y → Same H1 H' → ∀ R : VK, (∀ H'', Same H' H'' → R y H'') → te (some x :: capSt src σ) H' R)
    (fin : ∀ H', Same H1 H' → H' D = some (.lst ys) → Q (.ref D) H') : LC (none :: src) J (gName 0) tYes te σ H1 Q D := by
  have h6 : 100000 < sizeLine := by decide
  refine lc_on hJ (fun i zs σ' H' => zs = ys.take i ∧ (∃ o, σ' = o :: capSt src σ) ∧ Same H1 H' ∧ H' D = some (.lst zs)) ⟨by simp, ⟨none, rfl⟩, .upd_new hD _, upd_same⟩ (fun i zs σ' H' p => ⟨hP _ p.2.2.1, p.2.2.2⟩) (gName_mono 0) ?_ ?_
  · rintro i zs σ' H' x hx ⟨rfl, ⟨o, rfl⟩, sm, hd⟩
    have hi := (List.getElem?_eq_some_iff.mp hx).1
    have hy : ys[i]? = some (ys[i]'(by omega)) := List.getElem?_eq_getElem _
    show te (some x :: capSt src σ) H' _
    refine step i x _ H' hx hy sm _ fun H'' s2 => ⟨s2 _ _ hd, ?_, (take_snoc hy).symm, ⟨_, rfl⟩, .upd_over hD (sm.trans s2) _, upd_same⟩
    rw [List.length_take]; omega
  · rintro zs σ' H' ⟨rfl, _, sm, hd⟩
    rw [← hl, List.take_length] at hd
    exact fin H' sm hd
end L2
namespace L2
open PySem PySem.Spec PyProof.Rows
/-! a block cut behind its first statements -/
section
variable {a b c d e r : TS} {D : Ends} {σ : St} {H : Hp} (M : St → Hp → Prop) (h1 : ∀ σ H, M σ H → r D σ H)
include h1
theorem cut1 (h2 : ∀ N : St → Hp → Prop, (∀ σ H, M σ H → N σ H) → a { D with nx := N } σ H) : tSeq a r D σ H := h2 (r D) h1
theorem cut2 (h2 : ∀ N : St → Hp → Prop, (∀ σ H, M σ H → N σ H) → tSeq a b { D with nx := N } σ H) : tSeq a (tSeq b r) D σ H := h2 (r D) h1
theorem cut3 (h2 : ∀ N : St → Hp → Prop, (∀ σ H, M σ H → N σ H) → tSeq a (tSeq b c) { D with nx := N } σ H) : tSeq a (tSeq b (tSeq c r)) D σ H := h2 (r D) h1
theorem cut4 (h2 : ∀ N : St → Hp → Prop, (∀ σ H, M σ H → N σ H) → tSeq a (tSeq b (tSeq c d)) { D with nx := N } σ H) : tSeq a (tSeq b (tSeq c (tSeq d r))) D σ H := h2 (r D) h1
end
theorem scal_ii (i j : Int) : scal (.int i) (.int j) = true := rfl
theorem scal_ss (i j : Str) : scal (.str i) (.str j) = true := rfl
theorem cut_list {α : Type} (xs : List α) (i j : Nat) : (xs.drop (min i xs.length)).take (min j xs.length - min i xs.length) = (xs.drop i).take (j - i) := by
  by_cases hi : i ≤ xs.length
  · rw [Nat.min_eq_left hi]
    by_cases hj : j ≤ xs.length
    · rw [Nat.min_eq_left hj]
    · rw [Nat.min_eq_right (by omega), List.take_of_length_le (by rw [List.length_drop]; omega), List.take_of_length_le (by rw [List.length_drop]; omega)]
  · rw [List.drop_of_length_le (by omega), List.drop_of_length_le (show xs.length ≤ i by omega)]
    simp
theorem cutV_nn (xs : List V) (i j : Nat) : cutV xs (some (i : Int)) (some (j : Int)) = (xs.drop i).take (j - i) := by
  unfold cutV
  rw [HT.sIx_nat, HT.sIx_nat]
  exact cut_list xs i j
theorem cutV_hi (xs : List V) (j : Nat) : cutV xs none (some (j : Int)) = xs.take j := by
  unfold cutV
  rw [HT.sIx_nat, HT.sIx_none, List.drop_zero, Nat.sub_zero]
  have := cut_list xs 0 j
  simpa using this
theorem cutV_lo (xs : List V) (i : Nat) : cutV xs (some (i : Int)) none = xs.drop i := by
  unfold cutV
  rw [HT.sIx_nat, HT.sIx_none]
  by_cases hi : i ≤ xs.length
  · rw [Nat.min_eq_left hi, List.take_of_length_le (by rw [List.length_drop]; omega)]
  · rw [List.drop_of_length_le (by omega), List.drop_of_length_le (show xs.length ≤ i by omega)]
    simp
end L2
namespace L2
open PySem PySem.Spec PyProof.Rows
section
variable {X : Cx} {tg : Expr}
def CPowB (i j : Int) : Prop := 0 ≤ j ∧ ∃ m : Nat, i.natAbs < 2 ^ m ∧ (m : Int) * j ≤ 2 ^ 27
/-- hi, hi - 1, .. (n of them) -/
def Itd (hi : Int) (n : Nat) : It := ⟨fun i _ => i < n, fun i H x H' => H' = H ∧ x = .int (hi - i), fun i _ => n ≤ i⟩
def iRngD (ta : TA) : TI := fun σ H R => ta σ H fun vs H1 => ∃ i j : Int, vs = [.int i, .int j, .int (-1)] ∧ (-(2 ^ 62) ≤ i ∧ i < 2 ^ 62 ∧ -(2 ^ 62) ≤ j ∧ j < 2 ^ 62) ∧ R (Itd i (i - j).toNat) H1
end
end L2
namespace L2
open PySem PySem.Spec PyProof.Rows
theorem getI {ns : List Int} {i : Nat} {x : V} (h : (ns.map V.int)[i]? = some x) : ∃ z : Int, ns[i]? = some z ∧ x = .int z := by
  rw [List.getElem?_map] at h
  cases e : ns[i]? with
  | none => rw [e] at h; cases h
  | some z => rw [e] at h; exact ⟨z, rfl, (Option.some.inj h).symm⟩
end L2
namespace L2
open PySem PySem.Spec PyProof.Rows
section
variable {src : List (Option Nat)} {te : TE} {σ : St} {H : Hp} {Q : VK}
theorem tLC_range1 {ta : TA} {n : Nat} (ys : List V) (ha : ∀ R : List V → Hp → Prop, R [.int n] H → ta σ H R) (hl : ys.length = n) (hlen : n ≤ 100000)
    (step : ∀ (i : Nat) y H', i < n → ys[i]? = some y → Same H H' → ∀ R : VK, (∀ H'', Same H' H'' → R y H'') → te (some (.int i) :: capSt src σ) H' R)
    (fin : ∀ D H', H D = none → Same H H' → H' D = some (.lst ys) → Q (.ref D) H') : tLC (none :: src) (iRng1 ta) (gName 0) tYes te σ H Q := by
  refine ha _ ⟨n, rfl, by omega, by omega, fun D hD => ?_⟩
  refine lc_map (itseq_range (lo := 0) (n := n) (P := fun _ => True)) ys (fun _ _ => trivial) hD (by simpa using hl) (by simpa using hlen) (fun i x y H' hx hy sm R r => ?_) fun H' => fin D H' hD
  have hi : i < n := by have := (List.getElem?_eq_some_iff.mp hx).1; simpa using this
  rw [List.getElem?_map, List.getElem?_range hi] at hx
  have e : V.int (0 + (i : Int)) = x := Option.some.inj hx
  rw [Int.zero_add] at e
  subst e
  exact step i y H' hi hy sm R r
/-- a comprehension over a list that is made on the spot -/
theorem tLC_listN {K : PySem.W.Frag} {tl : TE} {xs : List V} (ys : List V) (ha : ∀ R : V → Hp → Prop, (∀ a H1, Same H H1 → SqL K H1 a xs → R (.ref a) H1) → tl σ H R) (hl : ys.length = xs.length) (hlen : xs.length ≤ 100000)
    (step : ∀ (i : Nat) x y H', xs[i]? = some x → ys[i]? = some y → Same H H' → ∀ R : VK, (∀ H'', Same H' H'' → R y H'') → te (some x :: capSt src σ) H' R)
    (fin : ∀ D H', H D = none → Same H H' → H' D = some (.lst ys) → Q (.ref D) H') : tLC (none :: src) (iList K tl) (gName 0) tYes te σ H Q :=
  ha _ fun a H1 s1 hS => ⟨a, rfl, ⟨xs, hS⟩, fun D hD => lc_map (itseq_list.imp fun H' (e : Same H1 H') => e.seq hS) ys (fun _ e => e) hD hl hlen (fun i x y H' hx hy sm R r => step i x y H' hx hy (s1.trans sm) R r) fun H' sm => fin D H' (s1.free hD) (s1.trans sm)⟩
end
end L2
namespace L2
open PySem PySem.Spec PyProof.Rows
section
variable {src : List (Option Nat)} {te : TE} {σ : St} {H : Hp} {Q : VK}
end
/-! the same within a comprehension, whose own block says the text's objects in its own words -/
section
variable {X : Cx} {K : PySem.W.Frag}
theorem ix_tupK (h : X.K = K := by rfl) : IxR X (rIxT K) := by subst h; exact ix_tup
end
end L2
namespace L2
open PySem PySem.Spec PyProof.Rows
section
variable {tb : TS} {D : Ends} {σ : St} {H : Hp}
end
end L2
namespace L2
open PySem PySem.Spec PyProof.Rows
section
variable {X : Cx} {e st : Expr} {te ts : TE} {pos p2 : Pos}
/-- xs[::-1] of a list: a new list -/
def tRev (K : PySem.W.Frag) (te ts : TE) : TE := fun σ H Q => te σ H fun x H1 => ts σ H1 fun y H2 => y = .int (-1) ∧ ∃ a xs, x = .ref a ∧ SqL K H2 a xs ∧ ∀ p, H2 p = none → Q (.ref p) (upd H2 p (.lst xs.reverse))
end
end L2
namespace L2
open PySem PySem.Spec PyProof.Rows
section
variable {X : Cx} {pos : Pos}
def rBits : V → List V → Hp → VK → Prop := fun x vs H Q => ∃ i, x = .int i ∧ vs = [] ∧ Q (.int (Builtin.Int.intBits i : Nat)) H
theorem mt_bits : MtR X "int.bit_length" rBits := by
  intro pins s σ H x vs v us Q I rx r h
  obtain ⟨i, rfl, rfl, q⟩ := h
  obtain ⟨t, rfl⟩ := rx
  cases r
  exact call_gives F.slot_int_bit_length (typeIs_int s i t) F.entry_int_bit_length (F.args_int_bit_length_1 _) (AutoIntG2.int_bit_length_int_0 i t) ⟨.int _, H, I.tok _, ⟨_, rfl⟩, q⟩
def rFind : V → List V → Hp → VK → Prop := fun x vs H Q => ∃ (z y : Str), x = .str z ∧ vs = [.str y] ∧ Q (.int (Txt.find z y)) H
theorem mt_find : MtR X "str.find" rFind := by
  intro pins s σ H x vs v us Q I rx r h
  obtain ⟨z, y, rfl, rfl, q⟩ := h
  obtain ⟨t, rfl⟩ := rx
  obtain ⟨u, rfl, ru⟩ := vals1 r
  obtain ⟨t', rfl⟩ := ru
  exact call_gives F.slot_str_find (typeIs_str s z t) F.entry_str_find (F.args_str_find_2 _ _) (gives_str_find z y t t') ⟨.int _, H, I.tok _, ⟨_, rfl⟩, q⟩
def tDict0 : TE := fun _ H Q => ∀ p, H p = none → Q (.ref p) (upd H p (.dK []))
end
/-- a tuple of texts of the module's top -/
def Gx.ConT (g : Gx) (x : Str) (xs : List V) : Prop := ∃ c, g.mg x = some (.ref c) ∧ ∀ H, SqT g.K H c xs
theorem conT_mk {K : PySem.W.Frag} {h : Heap} {mg : Str → Option Value} {x : Str} {i : Addr} {dc : Option Addr} {its : Array Value} {n : Nat} {sl : Array (Option Value)} {xs : List V} (X : K.In h) (G : h.Ns mainGlobals mg)
    (a : PySem.W.nsIn K mainGlobals x = some (some (.ref i))) (l : K.lookup i = some ⟨.type "tuple", dc, .seq its n, sl⟩) (hz : its.size ≤ sizeLine) (r : Vals xs its.toList) : ∀ P w base, (Gx.mk P w K mg base).ConT x xs :=
  fun P w base => ⟨i, PySem.W.mg_of X G a, fun H => .inr ⟨_, its, n, l, rfl, rfl, hz, r⟩⟩
section
variable {X : Cx} {g : Gx} {x : Str} {pos : Pos}
def tConT (K : PySem.W.Frag) (xs : List V) : TE := fun _ H Q => ∀ c, SqT K H c xs → Q (.ref c) H
theorem pe_gt {xs : List V} (F : g.ConT x xs) (hX : X.gx = g := by rfl) (hg : Gl X x := by rfl) (hd : (x == ("__debug__" : Str)) = false := by decide) : PE X (.Name x pos) (tConT g.K xs) := by
  subst hX
  obtain ⟨c, e, hc⟩ := F
  exact fun pins s σ H Q I h => pe_glob hg e (show RelV (.ref c) (.ref c) from rfl) hd pins s σ H Q I (h c (hc H))
end
end L2
namespace L2
open PySem PySem.Spec PyProof.Rows
theorem iteN {c A B : Prop} [Decidable c] (h : ¬ c) (hb : B) : if c then A else B := by rw [if_neg h]; exact hb
theorem iteY {c A B : Prop} [Decidable c] (h : c) (ha : A) : if c then A else B := by rw [if_pos h]; exact ha
section
variable {src : List (Option Nat)} {te : TE} {σ : St} {H : Hp} {Q : VK}
theorem tLC_str {tl : TE} {l : List Nat} (ys : List V) (ha : ∀ R : V → Hp → Prop, R (.str (S l)) H → tl σ H R) (hl : ys.length = l.length) (hlen : l.length ≤ 100000)
    (step : ∀ (i c : Nat) y H', l[i]? = some c → ys[i]? = some y → Same H H' → ∀ R : VK, (∀ H'', Same H' H'' → R y H'') → te (some (.str (S [c])) :: capSt src σ) H' R)
    (fin : ∀ D H', H D = none → Same H H' → H' D = some (.lst ys) → Q (.ref D) H') : tLC (none :: src) (iStr tl) (gName 0) tYes te σ H Q :=
  ha _ ⟨S l, rfl, fun D hD => lc_map (itseq_str (S l) (fun _ => True)) ys (fun _ _ => trivial) hD (by rw [S_list]; simpa using hl) (by rw [S_list]; simpa using hlen) (fun i x y H' hx hy sm R r => by
    rw [S_list, List.getElem?_map] at hx
    cases e : l[i]? with
    | none => rw [e] at hx; cases hx
    | some c =>
      rw [e] at hx
      have : V.str ⟨#[c]⟩ = x := Option.some.inj hx
      subst this
      exact step i c y H' e hy sm R r) fun H' => fin D H' hD⟩
end
section
variable {X : Cx} {K : PySem.W.Frag} {o e : Expr} {es : List Expr} {to : TE} {t : TA} {name : Str} {apos cpos : Pos} {T id : String} {r : V → List V → Hp → VK → Prop}
theorem pe_bmK (pa : PlainAttrs T) (slot : Slot T name id) (hty : typeOf (.builtin id) = pure (.type "method_descriptor")) (hm : MtR X id r) (ho : PE X o to) (ha : PA X (e :: es) t)
    (hbase : attributeBase o name X.env (eval o X.env) = eval o X.env := by rfl)
    (hfew : ((backTo cpos (starEach (e :: es) X.env)).all (fun x => !x.1) && (backToKw cpos (keywordEach [] X.env)).all (fun x => x.1.isSome)
      && decide ((e :: es).length + ([] : List Keyword).length + (if ([] : List Keyword).isEmpty then 0 else 1) < 30)) = true := by rfl)
    (hline : (apos.endLine == cpos.line) = true := by rfl) (hs : starEach (e :: es) X.env = (false, eval e X.env) :: starEach es X.env := by rfl) (hplain : (backTo cpos (starEach es X.env)).any (·.1) = false := by rfl) (hK : X.K = K := by rfl) :
    PE X (.Call (.Attribute o name apos) (e :: es) [] cpos) (tBM K T r to t) := by
  subst hK
  exact pe_bm pa slot hty hm ho ha hbase hfew hline hs hplain
end
section
variable {X : Cx}
def CMulC (i j : Int) : Prop := CMulB i j ∨ CMul i j
theorem op_mulC : OpR X (binaryOp .Mult) (rI CMulC fun i j => .int (i * j)) := opI fun _ _ _ _ _ _ _ hc q => mul_int q (hc.elim (fun h => h.ok) fun h => h.ok)
end
theorem in_sign (l : List Nat) (c : Nat) : (!(Builtin.Str.occurrences (S l) (S [c]) 0 (S l).length 1).isEmpty) = decide (c ∈ l) := by
  have := PySem.StrLaws.found_one (S l) c
  rw [S_list] at this
  exact this
end L2
namespace L2
open PySem PySem.Spec PyProof.Rows
abbrev IsZipF (h : Heap) (z TI TO : Addr) (f0 : Value) (f1 : Bool) : Prop :=
  h.get? z = some { cls := .type "zip", dict := none, data := .fields #[f0, .bool f1, .bool false, .ref TI, .ref TO], slots := #[] }
section
variable {prog : Program} {w : World} {A : Around} {E : Value → Shared → Prop} {s : Shared} {z TI TO i1 i2 T : Addr} {S1 S2 : Nat → Heap → Prop} {R1 R2 : Heap → (Nat → Option Value) → Prop} {g1 g2 : Nat → Option Value} {k : Nat} {a b : Value} {f : Bool} {oT : Obj}
/-- a zip whose first pair is kept by somebody: each next one is a new pair -/
theorem zip_item_out {x y : Value} {Q : Option Value → Shared → Prop} (D : ZApart z TI TO i1 i2) (U1 : Sub prog w i1 S1 R1) (U2 : Sub prog w i2 S2 R2)
    (k1 : ∀ h h' g, R1 h g → (∀ c o, c ≠ z → c ≠ TO → c ≠ i1 → c ≠ i2 → h.get? c = some o → h'.get? c = some o) → R1 h' g) (k2 : ∀ h h' g, R2 h g → (∀ c o, c ≠ z → c ≠ TO → c ≠ i1 → c ≠ i2 → h.get? c = some o → h'.get? c = some o) → R2 h' g)
    (hz : IsZipF s.heap z TI TO (rawInt T) f) (hTI : IsPair s.heap TI (.ref i1) (.ref i2)) (hT : s.heap.get? T = some oT) (h1 : S1 k s.heap) (h2 : S2 k s.heap) (r1 : R1 s.heap g1) (r2 : R2 s.heap g2) (hx : g1 k = some x) (hy : g2 k = some y)
    (hQ : ∀ h' tk, IsZipF h' z TI TO (rawInt T) true → S1 (k + 1) h' → S2 (k + 1) h' → IsPair h' s.heap.objs.size x y → h'.objs.size = s.heap.objs.size + 1 →
      (∀ c o, c ≠ z → c ≠ i1 → c ≠ i2 → s.heap.get? c = some o → h'.get? c = some o) → Q (some (.ref s.heap.objs.size)) { s with heap := h', toks := tk }) :
    wpAny (model prog w) A (pyNext (.ref z)) Q E s := by
  have hTy : s.TypeIs (.ref z) "zip" := ⟨_, hz, rfl⟩
  unfold pyNext
  refine wpAny_bind (wpAny_attempt (wpAny_callSpecial?_slot (name := Str.ofString "__next__") hTy F.slot_zip_next (wpAny_call_entry F.slot_zip_next hTy F.entry_zip_next ?_ (F.args_zip_next_1 _))))
  show wpAny _ _ (field (.ref z) 2 >>= _) _ _ _
  refine wpAny_bind (wpAny_field hz rfl (x := .bool false) rfl ?_)
  show wpAny _ _ (field (.ref z) 3 >>= _) _ _ _
  refine wpAny_bind (wpAny_field hz rfl (x := .ref TI) rfl ?_)
  refine wpAny_bind (wpAny_seqItems hTI rfl ?_)
  show wpAny _ _ (Builtin.SmallTypes.ownedTupleIsFree (.ref z) >>= _) _ _ _
  refine wpAny_bind ?_
  unfold Builtin.SmallTypes.ownedTupleIsFree
  refine wpAny_bind (wpAny_field hz rfl (x := rawInt T) rfl ?_)
  show wpAny _ _ (loadIfAlive ((T : Int).toNat) >>= _) _ _ _
  rw [Int.toNat_natCast]
  refine wpAny_bind (PySem.W.kdx_alive hT ?_)
  simp only [Option.isNone_some, Bool.false_eq_true, if_false]
  refine wpAny_bind (wpAny_field hz rfl (x := .bool f) rfl ?_)
  have step : ∀ (P : Bool → Shared → Prop) (E' : Value → Shared → Prop), (∀ h₀ : Heap, IsZipF h₀ z TI TO (rawInt T) true → Heap.SameBut z s.heap h₀ → P false { s with heap := h₀ }) →
      wpAny (model prog w) A.in1 (if (Value.bool f != Value.bool true) = true then do setField (Value.ref z) 1 (Value.bool true); pure false else pure false) P E' s := by
    intro P E' h
    cases f with
    | true =>
      rw [if_neg (show ¬ ((Value.bool true != Value.bool true) = true) from Bool.false_ne_true)]
      exact wpAny_pure (h s.heap hz (Heap.SameBut.refl _ _))
    | false =>
      rw [if_pos (show (Value.bool false != Value.bool true) = true from rfl)]
      exact wpAny_bind (wpAny_setField_rec hz (by simp) fun h₃ he₃ hs₃ => wpAny_pure (h h₃ he₃ hs₃))
  refine step _ _ fun h₀ hz₀ hs₀ => ?_
  simp only [Bool.false_eq_true, if_false]
  have S1₀ : S1 k h₀ := U1.keep _ _ _ h1 fun o e => hs₀.extBut _ _ D.c e
  have R1₀ : R1 h₀ g1 := k1 _ _ _ r1 fun c o c1 _ _ _ e => hs₀.extBut _ _ c1 e
  rw [← Array.forIn_toList]
  simp only [List.forIn_cons, List.forIn_nil]
  refine wpAny_bind (wpAny_bind (wpAny_bind (wpAny_holding ?_)))
  show wpAny _ _ (Builtin.SmallTypes.nextOf (.ref i1) >>= _) _ _ _
  refine wpAny_bind (U1.item _ k { s with heap := h₀ } g1 x _ _ S1₀ R1₀ hx fun h₂ tk₂ S1₂ hs₂ => wpAny_pure ?_)
  have kk₂ : ∀ c o, c ≠ z → c ≠ i1 → s.heap.get? c = some o → h₂.get? c = some o := fun c o c1 c3 e => hs₂.extBut _ _ c3 (hs₀.extBut _ _ c1 e)
  refine wpAny_pure ?_
  dsimp only
  have S2₂ : S2 k h₂ := U2.keep _ _ _ h2 fun o e => hs₂.extBut _ _ D.j.symm (hs₀.extBut _ _ D.d e)
  refine wpAny_bind (wpAny_bind (wpAny_holding ?_))
  show wpAny _ _ (Builtin.SmallTypes.nextOf (.ref i2) >>= _) _ _ _
  refine wpAny_bind (U2.item _ k { s with heap := h₂, toks := tk₂ } g2 y _ _ S2₂ (k2 _ _ _ r2 fun c o c1 c2 c3 c4 e => kk₂ c o c1 c3 e) hy fun h₄ tk₄ S2₄ hs₄ => wpAny_pure ?_)
  refine wpAny_pure (wpAny_pure ?_)
  dsimp only
  refine wpAny_bind (wpAny_newTuple ?_ (show (2 : Nat) ≤ sizeLine by decide))
  have hsz : h₄.objs.size = s.heap.objs.size := by rw [hs₄.1, hs₂.1, hs₀.1]
  have hz₄ : IsZipF h₄ z TI TO (rawInt T) true := hs₄.extBut _ _ D.d.symm (hs₂.extBut _ _ D.c.symm hz₀)
  refine wpAny_pure ⟨_, rfl, wpAny_pure ?_⟩
  show Q (some (.ref h₄.objs.size)) _
  have hlast := hQ (h₄.push { cls := .type "tuple", data := .seq #[x, y] }) tk₄ (Heap.get?_push_of_some _ hz₄) (U1.keep _ _ _ S1₂ fun o e => Heap.get?_push_of_some _ (hs₄.extBut _ _ D.j e)) (U2.keep _ _ _ S2₄ fun o e => Heap.get?_push_of_some _ e)
    (by rw [← hsz]; exact Heap.get?_push_size _ rfl) (by rw [Heap.size_push, hsz]) fun c o c1 c3 c4 e => Heap.get?_push_of_some _ (hs₄.extBut _ _ c4 (kk₂ c o c1 c3 e))
  rw [hsz]
  exact hlast
theorem zip_end_out {Q : Option Value → Shared → Prop} (hh : A.handled = none) (D : ZApart z TI TO i1 i2) (U1 : Sub prog w i1 S1 R1) (U2 : Sub prog w i2 S2 R2)
    (k1 : ∀ h h' g, R1 h g → (∀ c o, c ≠ z → c ≠ TO → c ≠ i1 → c ≠ i2 → h.get? c = some o → h'.get? c = some o) → R1 h' g)
    (hz : IsZipF s.heap z TI TO (rawInt T) f) (hTI : IsPair s.heap TI (.ref i1) (.ref i2)) (hT : s.heap.get? T = some oT) (h1 : S1 k s.heap) (r1 : R1 s.heap g1) (hend : g1 k = none)
    (hQ : ∀ h' tk, (∀ c o, c ≠ z → c ≠ i1 → c ≠ i2 → s.heap.get? c = some o → h'.get? c = some o) → Q none { s with heap := h', toks := tk }) : wpAny (model prog w) A (pyNext (.ref z)) Q E s := by
  have hTy : s.TypeIs (.ref z) "zip" := ⟨_, hz, rfl⟩
  unfold pyNext
  refine wpAny_bind (wpAny_attempt (wpAny_callSpecial?_slot (name := Str.ofString "__next__") hTy F.slot_zip_next (wpAny_call_entry F.slot_zip_next hTy F.entry_zip_next ?_ (F.args_zip_next_1 _))))
  show wpAny _ _ (field (.ref z) 2 >>= _) _ _ _
  refine wpAny_bind (wpAny_field hz rfl (x := .bool false) rfl ?_)
  show wpAny _ _ (field (.ref z) 3 >>= _) _ _ _
  refine wpAny_bind (wpAny_field hz rfl (x := .ref TI) rfl ?_)
  refine wpAny_bind (wpAny_seqItems hTI rfl ?_)
  show wpAny _ _ (Builtin.SmallTypes.ownedTupleIsFree (.ref z) >>= _) _ _ _
  refine wpAny_bind ?_
  unfold Builtin.SmallTypes.ownedTupleIsFree
  refine wpAny_bind (wpAny_field hz rfl (x := rawInt T) rfl ?_)
  show wpAny _ _ (loadIfAlive ((T : Int).toNat) >>= _) _ _ _
  rw [Int.toNat_natCast]
  refine wpAny_bind (PySem.W.kdx_alive hT ?_)
  simp only [Option.isNone_some, Bool.false_eq_true, if_false]
  refine wpAny_bind (wpAny_field hz rfl (x := .bool f) rfl ?_)
  have step : ∀ (P : Bool → Shared → Prop) (E' : Value → Shared → Prop), (∀ h₀ : Heap, IsZipF h₀ z TI TO (rawInt T) true → Heap.SameBut z s.heap h₀ → P false { s with heap := h₀ }) →
      wpAny (model prog w) A.in1 (if (Value.bool f != Value.bool true) = true then do setField (Value.ref z) 1 (Value.bool true); pure false else pure false) P E' s := by
    intro P E' h
    cases f with
    | true =>
      rw [if_neg (show ¬ ((Value.bool true != Value.bool true) = true) from Bool.false_ne_true)]
      exact wpAny_pure (h s.heap hz (Heap.SameBut.refl _ _))
    | false =>
      rw [if_pos (show (Value.bool false != Value.bool true) = true from rfl)]
      exact wpAny_bind (wpAny_setField_rec hz (by simp) fun h₃ he₃ hs₃ => wpAny_pure (h h₃ he₃ hs₃))
  refine step _ _ fun h₀ hz₀ hs₀ => ?_
  simp only [Bool.false_eq_true, if_false]
  have S1₀ : S1 k h₀ := U1.keep _ _ _ h1 fun o e => hs₀.extBut _ _ D.c e
  have R1₀ : R1 h₀ g1 := k1 _ _ _ r1 fun c o c1 _ _ _ e => hs₀.extBut _ _ c1 e
  rw [← Array.forIn_toList]
  simp only [List.forIn_cons, List.forIn_nil]
  refine wpAny_bind (wpAny_bind (wpAny_bind (wpAny_holding ?_)))
  show wpAny _ _ (Builtin.SmallTypes.nextOf (.ref i1) >>= _) _ _ _
  refine wpAny_bind (U1.fin _ k { s with heap := h₀ } g1 _ _ hh S1₀ R1₀ hend fun h₂ e hs₂ he => ?_)
  obtain ⟨oe, hoe, hce⟩ := he
  refine wpAny_bind (wpAny_isInstance (T := "StopIteration") (b := true) ⟨oe, hoe, hce⟩ isSubtype_stop ?_)
  exact wpAny_pure (hQ h₂ s.toks fun c o c1 c3 c4 x => hs₂ _ _ c3 (hs₀.extBut _ _ c1 x))
end
/-! list(zip(a, b)) of two tuples of one length -/
section
variable {prog : Program} {w : World} {A : Around} {s : Shared} {R : Result → Shared → Prop} {z TI TO i1 i2 S p1 p2 : Addr} {xs ys : List Value}
/-- the zip as it stands at turn i -/
def ZSt (h : Heap) (z TI TO i1 i2 p1 p2 : Addr) (i : Nat) (as : List Addr) : Prop :=
  IsPair h TI (.ref i1) (.ref i2) ∧ h.IsTupleIter i1 p1 i ∧ h.IsTupleIter i2 p2 i ∧ ((i = 0 ∧ IsZip h z TI TO .none ∧ ∃ a b, IsPair h TO a b) ∨ ∃ T f, T ∈ as ∧ IsZipF h z TI TO (rawInt T) f)
theorem zip_loop (hh : A.handled = none) (D : ZApart z TI TO i1 i2) (lo : Nat) (hlo : z < lo ∧ TI < lo ∧ TO < lo ∧ i1 < lo ∧ i2 < lo ∧ S < lo ∧ p1 < lo ∧ p2 < lo) (nS : S ∉ [z, TI, TO, i1, i2, p1, p2]) (n1 : p1 ∉ [z, TO, i1, i2]) (n2 : p2 ∉ [z, TO, i1, i2]) (hl : xs.length = ys.length) (hn : xs.length ≤ sizeLine) (res : Value) {h₁ : Heap}
    (hR : ∀ (h' : Heap) (tk : Nat) (acc : Array Value) (c : Nat) (as : List Addr), (∀ b o, b ∉ [S, z, TO, i1, i2] → h₁.get? b = some o → h'.get? b = some o) → h'.get? S = some { cls := .type "list", dict := none, data := .seq acc c, slots := #[] } → as.length = xs.length → acc.toList = as.map Value.ref →
      as.Pairwise (· < ·) → (∀ a ∈ as, lo ≤ a) → (∀ (j : Nat) a x y, as[j]? = some a → xs[j]? = some x → ys[j]? = some y → IsPair h' a x y) → R (.ok (.ret res)) { s with heap := h', toks := tk }) :
    ∀ (k i : Nat) (h : Heap) (tk c : Nat) (acc : Array Value) (as : List Addr), xs.length - i = k → i ≤ xs.length → ZSt h z TI TO i1 i2 p1 p2 i as → h.IsTuple p1 xs.toArray → h.IsTuple p2 ys.toArray → (∀ b o, b ∉ [S, z, TO, i1, i2] → h₁.get? b = some o → h.get? b = some o) →
      h.get? S = some { cls := .type "list", dict := none, data := .seq acc c, slots := #[] } → acc.toList = as.map Value.ref → as.length = i → as.Pairwise (· < ·) → (∀ a ∈ as, lo ≤ a ∧ a < h.objs.size) → (∀ (j : Nat) a x y, as[j]? = some a → xs[j]? = some x → ys[j]? = some y → IsPair h a x y) → lo ≤ h.objs.size →
      codeAny (model prog w) A (.builtin "list.extend.loop" ⟨[.ref S, .ref z, res], []⟩) R { s with heap := h, toks := tk } := by
  intro k
  have nz : S ≠ z := fun e => nS (by simp [e])
  have nTI : S ≠ TI := fun e => nS (by simp [e])
  have nTO : S ≠ TO := fun e => nS (by simp [e])
  have ni1 : S ≠ i1 := fun e => nS (by simp [e])
  have ni2 : S ≠ i2 := fun e => nS (by simp [e])
  have np1 : S ≠ p1 := fun e => nS (by simp [e])
  have np2 : S ≠ p2 := fun e => nS (by simp [e])
  have q1 : p1 ≠ z ∧ p1 ≠ TO ∧ p1 ≠ i1 ∧ p1 ≠ i2 := ⟨fun e => n1 (by simp [e]), fun e => n1 (by simp [e]), fun e => n1 (by simp [e]), fun e => n1 (by simp [e])⟩
  have q2 : p2 ≠ z ∧ p2 ≠ TO ∧ p2 ≠ i1 ∧ p2 ≠ i2 := ⟨fun e => n2 (by simp [e]), fun e => n2 (by simp [e]), fun e => n2 (by simp [e]), fun e => n2 (by simp [e])⟩
  have big : ∀ {a : Addr}, lo ≤ a → a ≠ z ∧ a ≠ TO ∧ a ≠ i1 ∧ a ≠ i2 ∧ a ≠ S := fun {a} ha => by
    obtain ⟨l1, l2, l3, l4, l5, l6, _⟩ := hlo
    refine ⟨?_, ?_, ?_, ?_, ?_⟩ <;> (intro e; subst e; exact absurd ha (Nat.not_le.mpr (by assumption)))
  have rdy1 : ∀ h : Heap, h.IsTuple p1 xs.toArray → ∃ items : Array Value, h.IsTuple p1 items ∧ ∀ k : Nat, (fun k : Nat => xs[k]?) k = items[k]? := fun h e => ⟨_, e, fun (k : Nat) => by simp⟩
  have rdy2 : ∀ h : Heap, h.IsTuple p2 ys.toArray → ∃ items : Array Value, h.IsTuple p2 items ∧ ∀ k : Nat, (fun k : Nat => ys[k]?) k = items[k]? := fun h e => ⟨_, e, fun (k : Nat) => by simp⟩
  have kp1 : ∀ (h h' : Heap) (g : Nat → Option Value), (∃ items : Array Value, h.IsTuple p1 items ∧ ∀ k, g k = items[k]?) → (∀ c o, c ≠ z → c ≠ TO → c ≠ i1 → c ≠ i2 → h.get? c = some o → h'.get? c = some o) → ∃ items : Array Value, h'.IsTuple p1 items ∧ ∀ k, g k = items[k]? :=
    fun h h' g ⟨items, ⟨o, e, r⟩, q⟩ k => ⟨items, ⟨o, k _ o q1.1 q1.2.1 q1.2.2.1 q1.2.2.2 e, r⟩, q⟩
  have kp2 : ∀ (h h' : Heap) (g : Nat → Option Value), (∃ items : Array Value, h.IsTuple p2 items ∧ ∀ k, g k = items[k]?) → (∀ c o, c ≠ z → c ≠ TO → c ≠ i1 → c ≠ i2 → h.get? c = some o → h'.get? c = some o) → ∃ items : Array Value, h'.IsTuple p2 items ∧ ∀ k, g k = items[k]? :=
    fun h h' g ⟨items, ⟨o, e, r⟩, q⟩ k => ⟨items, ⟨o, k _ o q2.1 q2.2.1 q2.2.2.1 q2.2.2.2 e, r⟩, q⟩
  induction k with
  | zero =>
    intro i h tk c acc as hk hi hst ht1 ht2 hkeep hS hacc hal hpw hab hpr hlo'
    have hin : i = xs.length := by omega
    refine codeAny_builtin PySem.F.entry_extend_loop ?_
    rw [Around.under_plainId PySem.F.plain_extend_loop _]
    show wpAny _ A.in1 (pyNext (.ref z) >>= _) _ _ _
    obtain ⟨hTI, hi1, hi2, hzs⟩ := hst
    have fin : ∀ h' tk', (∀ b o, b ≠ z → b ≠ TO → b ≠ i1 → b ≠ i2 → h.get? b = some o → h'.get? b = some o) → R (.ok (.ret res)) { s with heap := h', toks := tk' } := fun h' tk' kp => by
      refine hR h' tk' acc c as (fun b o hb e => ?_) (kp S _ nz nTO ni1 ni2 hS) (by omega) hacc hpw (fun a ha => (hab a ha).1) (fun j a x y h1 h2 h3 => ?_)
      · simp only [List.mem_cons, List.not_mem_nil, or_false, not_or] at hb
        exact kp b o hb.2.1 hb.2.2.1 hb.2.2.2.1 hb.2.2.2.2 (hkeep b o (by simp [hb]) e)
      · have hb := big (hab a (List.mem_of_getElem? h1)).1
        exact kp a _ hb.1 hb.2.1 hb.2.2.1 hb.2.2.2.1 (hpr j a x y h1 h2 h3)
    rcases hzs with ⟨e0, hz, a, b, hTO⟩ | ⟨T, f, hT, hz⟩
    · refine wpAny_bind (zip_end (s := { s with heap := h, toks := tk }) (A := A.in1) (k := i) hh D (sub_tuple i1 p1) (sub_tuple i2 p2) kp1 kp2 hz hTI hTO hi1 hi2 (rdy1 h ht1) (rdy2 h ht2) (.inl (List.getElem?_eq_none (by omega))) fun h' tk' kp => wpAny_pure (fin h' tk' kp))
    · obtain ⟨j, hj⟩ := List.mem_iff_getElem?.mp hT
      have hjl := (List.getElem?_eq_some_iff.mp hj).1
      have := hpr j T _ _ hj (List.getElem?_eq_getElem (show j < xs.length by omega)) (List.getElem?_eq_getElem (show j < ys.length by omega))
      refine wpAny_bind (zip_end_out (s := { s with heap := h, toks := tk }) (A := A.in1) (k := i) hh D (sub_tuple i1 p1) (sub_tuple i2 p2) kp1 hz hTI this hi1 (rdy1 h ht1) (List.getElem?_eq_none (by omega)) fun h' tk' kp => wpAny_pure (fin h' tk' fun b o b1 _ b3 b4 e => kp b o b1 b3 b4 e))
  | succ k ih =>
    intro i h tk c acc as hk hi hst ht1 ht2 hkeep hS hacc hal hpw hab hpr hlo'
    have hlt : i < xs.length := by omega
    have hlt2 : i < ys.length := by omega
    have hx : xs[i]? = some xs[i] := List.getElem?_eq_getElem hlt
    have hy : ys[i]? = some ys[i] := List.getElem?_eq_getElem hlt2
    have hsz : acc.size = i := by rw [← Array.length_toList, hacc, List.length_map, hal]
    refine codeAny_builtin PySem.F.entry_extend_loop ?_
    rw [Around.under_plainId PySem.F.plain_extend_loop _]
    show wpAny _ A.in1 (pyNext (.ref z) >>= _) _ _ _
    obtain ⟨hTI, hi1, hi2, hzs⟩ := hst
    have step : ∀ (Q : Option Value → Shared → Prop) (E : Value → Shared → Prop), (∀ (h' : Heap) (tk' : Nat) (T : Addr) (f : Bool), T ∈ as ++ [h.objs.size] → IsZipF h' z TI TO (rawInt T) f → h'.IsTupleIter i1 p1 (i + 1) → h'.IsTupleIter i2 p2 (i + 1) → IsPair h' h.objs.size xs[i] ys[i] → h'.objs.size = h.objs.size + 1 →
        (∀ c o, c ≠ z → c ≠ TO → c ≠ i1 → c ≠ i2 → h.get? c = some o → h'.get? c = some o) → Q (some (.ref h.objs.size)) { s with heap := h', toks := tk' }) → wpAny (model prog w) A.in1 (pyNext (.ref z)) Q E { s with heap := h, toks := tk } := by
      intro Q E hq
      rcases hzs with ⟨e0, hz, a, b, hTO⟩ | ⟨T, f, hT, hz⟩
      · exact zip_item (s := { s with heap := h, toks := tk }) (A := A.in1) (k := i) D (sub_tuple i1 p1) (sub_tuple i2 p2) kp1 kp2 hz hTI hTO hi1 hi2 (rdy1 h ht1) (rdy2 h ht2) hx hy fun h' tk' hz' _ s1 s2 hp hs kp => hq h' tk' h.objs.size _ (by simp) hz' s1 s2 hp hs kp
      · obtain ⟨j, hj⟩ := List.mem_iff_getElem?.mp hT
        have hjl := (List.getElem?_eq_some_iff.mp hj).1
        have := hpr j T _ _ hj (List.getElem?_eq_getElem (show j < xs.length by omega)) (List.getElem?_eq_getElem (show j < ys.length by omega))
        exact zip_item_out (s := { s with heap := h, toks := tk }) (A := A.in1) (k := i) D (sub_tuple i1 p1) (sub_tuple i2 p2) kp1 kp2 hz hTI this hi1 hi2 (rdy1 h ht1) (rdy2 h ht2) hx hy fun h' tk' hz' s1 s2 hp hs kp => hq h' tk' T _ (by simp [hT]) hz' s1 s2 hp hs fun c o c1 _ c3 c4 e => kp c o c1 c3 c4 e
    refine wpAny_bind (step _ _ fun h' tk' T f hT hz' s1 s2 hp hs hkp => ?_)
    have hS' := hkp S _ nz nTO ni1 ni2 hS
    have up : ∀ b o, b ≠ S → h'.get? b = some o → (h'.update S (Obj.mapSeq (·.push (Value.ref h.objs.size)))).get? b = some o := fun b o hb e => (Heap.get?_update_other _ _ (Ne.symm hb)).trans e
    have hSl : S < h.objs.size := Heap.lt_size hS
    have np : h.objs.size ≠ S := Nat.ne_of_gt hSl
    show wpAny _ A.in1 (updateSeq S (·.push (Value.ref h.objs.size)) >>= _) _ _ _
    refine wpAny_bind ?_
    refine wpAny_updateSeq hS' rfl (wpAny_pure ⟨plainId_quiet PySem.F.plain_extend_loop _, ih (i + 1) _ tk' _ (acc.push (Value.ref h.objs.size)) (as ++ [h.objs.size]) (by omega) hlt ⟨?_, ?_, ?_, .inr ⟨T, f, hT, up _ _ nz.symm hz'⟩⟩ ?_ ?_
      (fun b o hb e => ?_) (Heap.get?_update_self _ hS' rfl) (by rw [Array.toList_push, hacc, List.map_append]; rfl) (by rw [List.length_append, hal]; rfl) ?_ ?_ ?_ ?_⟩) (by rw [hsz]; omega) (by show (acc.push (Value.ref h.objs.size)).size ≤ sizeLine + 1; rw [Array.size_push, hsz]; omega)
    · exact up _ _ nTI.symm (hkp TI _ D.a D.e D.f D.g hTI)
    · obtain ⟨o, e, r⟩ := s1
      exact ⟨o, up _ _ ni1.symm e, r⟩
    · obtain ⟨o, e, r⟩ := s2
      exact ⟨o, up _ _ ni2.symm e, r⟩
    · obtain ⟨o, e, r⟩ := ht1
      exact ⟨o, up _ _ np1.symm (hkp _ _ q1.1 q1.2.1 q1.2.2.1 q1.2.2.2 e), r⟩
    · obtain ⟨o, e, r⟩ := ht2
      exact ⟨o, up _ _ np2.symm (hkp _ _ q2.1 q2.2.1 q2.2.2.1 q2.2.2.2 e), r⟩
    · have hb' := hb
      simp only [List.mem_cons, List.not_mem_nil, or_false, not_or] at hb'
      exact up b o hb'.1 (hkp b o hb'.2.1 hb'.2.2.1 hb'.2.2.2.1 hb'.2.2.2.2 (hkeep b o hb e))
    · refine List.pairwise_append.mpr ⟨hpw, List.pairwise_singleton _ _, fun a ha b hb => ?_⟩
      rw [List.mem_singleton.mp hb]
      exact (hab a ha).2
    · have hsz' : (h'.update S (Obj.mapSeq (·.push (Value.ref h.objs.size)))).objs.size = h.objs.size + 1 := by rw [← hs]; exact Heap.size_update _ _ _
      intro a ha
      rw [hsz']
      rcases List.mem_append.mp ha with ha | ha
      · exact ⟨(hab a ha).1, Nat.lt_succ_of_lt (hab a ha).2⟩
      · rw [List.mem_singleton.mp ha]; exact ⟨hlo', Nat.lt_succ_self _⟩
    · intro j b x y hj ex ey
      rcases Nat.lt_trichotomy j as.length with h1 | h1 | h1
      · rw [List.getElem?_append_left h1] at hj
        have hb := big (hab b (List.mem_of_getElem? hj)).1
        exact up b _ hb.2.2.2.2 (hkp b _ hb.1 hb.2.1 hb.2.2.1 hb.2.2.2.1 (hpr j b x y hj ex ey))
      · subst h1
        have hb : h.objs.size = b := by simpa using hj
        subst hb
        rw [hal] at ex ey
        rw [hx] at ex
        rw [hy] at ey
        cases ex
        cases ey
        exact up _ _ np hp
      · have hnone : (as ++ [h.objs.size])[j]? = none := List.getElem?_eq_none (by rw [List.length_append, List.length_singleton]; omega)
        rw [hnone] at hj; cases hj
    · have hsz' : (h'.update S (Obj.mapSeq (·.push (Value.ref h.objs.size)))).objs.size = h.objs.size + 1 := by rw [← hs]; exact Heap.size_update _ _ _
      rw [hsz']; exact Nat.le_succ_of_le hlo'
end
end L2
namespace L2
open PySem PySem.Calls PySem.Spec PyProof.Rows PyProof.V
theorem zip_no_len : typeLookup (.type "zip") "__len__" = pure none := by rw [typeLookup_type, builtinLookup_eq_fast]; kernel_rfl
theorem zip_no_hint : typeLookup (.type "zip") "__length_hint__" = pure none := by rw [typeLookup_type, builtinLookup_eq_fast]; kernel_rfl
section
variable {prog : Program} {w : World} {A : Around} {E : Value → Shared → Prop} {s : Shared} {z TI TO i1 i2 p1 p2 : Addr} {xs ys : List Value}
theorem zip_hint (hT : s.TypeIs (.ref z) "zip") {Q : Bool → Shared → Prop} (h : Q true s) : wpAny (model prog w) A (Builtin.List.listLengthHint (.ref z)) Q E s := by
  unfold Builtin.List.listLengthHint
  refine wpAny_bind (wpAny_specialOf hT zip_no_len ?_)
  show wpAny _ _ (specialOf (.ref z) "__length_hint__" >>= _) _ _ _
  refine wpAny_bind (wpAny_specialOf hT zip_no_hint ?_)
  exact wpAny_pure h
/-- what the list has at the end -/
structure ZGot (xs ys : List Value) (lo : Nat) (h : Heap) (as : List Addr) : Prop where
  len : as.length = xs.length
  rise : as.Pairwise (· < ·)
  above : ∀ a ∈ as, lo ≤ a
  pairs : ∀ (j : Nat) a x y, as[j]? = some a → xs[j]? = some x → ys[j]? = some y → IsPair h a x y
theorem zip_extend {R : Result → Shared → Prop} {S : Addr} {oa ob : Value} (hh : A.handled = none) (D : ZApart z TI TO i1 i2) (hlt : z < S ∧ TI < S ∧ TO < S ∧ i1 < S ∧ i2 < S ∧ p1 < S ∧ p2 < S) (n1 : p1 ∉ [z, TO, i1, i2]) (n2 : p2 ∉ [z, TO, i1, i2]) (hl : xs.length = ys.length) (hn : xs.length ≤ sizeLine) (res : Value) (c₀ : Nat)
    (hz : IsZip s.heap z TI TO .none) (hTI : IsPair s.heap TI (.ref i1) (.ref i2)) (hTO : IsPair s.heap TO oa ob) (h1 : s.heap.IsTupleIter i1 p1 0) (h2 : s.heap.IsTupleIter i2 p2 0) (t1 : s.heap.IsTuple p1 xs.toArray) (t2 : s.heap.IsTuple p2 ys.toArray) (hS : s.heap.get? S = some { cls := .type "list", data := .seq #[] c₀ })
    (hR : ∀ (h' : Heap) (tk : Nat) (acc : Array Value) (c : Nat) (as : List Addr), (∀ b o, b ∉ [S, z, TO, i1, i2] → s.heap.get? b = some o → h'.get? b = some o) → h'.get? S = some { cls := .type "list", dict := none, data := .seq acc c, slots := #[] } → acc.toList = as.map Value.ref → ZGot xs ys (S + 1) h' as → R (.ok (.ret res)) { s with heap := h', toks := tk }) :
    wpAny (model prog w) A.in1 (Builtin.List.listExtendWith (.ref S) (.ref z) res)
      (fun fin s' => match fin with | .done f => R (.ok f) s' | .again c' => c'.quiet = true ∧ codeAny (model prog w) A c' R s') (fun e s' => R (.error e) s') s := by
  obtain ⟨l1, l2, l3, l4, l5, l6, l7⟩ := hlt
  have nS : S ∉ [z, TI, TO, i1, i2, p1, p2] := by
    intro hm
    simp only [List.mem_cons, List.not_mem_nil, or_false] at hm
    rcases hm with e | e | e | e | e | e | e <;> (subst e; first | exact absurd l1 (Nat.lt_irrefl _) | exact absurd l2 (Nat.lt_irrefl _) | exact absurd l3 (Nat.lt_irrefl _) | exact absurd l4 (Nat.lt_irrefl _) | exact absurd l5 (Nat.lt_irrefl _) | exact absurd l6 (Nat.lt_irrefl _) | exact absurd l7 (Nat.lt_irrefl _))
  have key : ∀ (h : Heap) (c₁ tk : Nat), (∀ b o, b ≠ S → s.heap.get? b = some o → h.get? b = some o) → h.get? S = some { cls := .type "list", data := .seq #[] c₁ } → codeAny (model prog w) A (.builtin "list.extend.loop" ⟨[.ref S, .ref z, res], []⟩) R { s with heap := h, toks := tk } := by
    intro h c₁ tk hk hS₁
    have m : ∀ {b : Addr}, b < S → ∀ o, s.heap.get? b = some o → h.get? b = some o := fun {b} hb o e => hk b o (Nat.ne_of_lt hb) e
    refine zip_loop (s := s) (h₁ := s.heap) hh D (S + 1) ⟨Nat.lt_succ_of_lt l1, Nat.lt_succ_of_lt l2, Nat.lt_succ_of_lt l3, Nat.lt_succ_of_lt l4, Nat.lt_succ_of_lt l5, Nat.lt_succ_self _, Nat.lt_succ_of_lt l6, Nat.lt_succ_of_lt l7⟩ nS n1 n2 hl hn res (fun h' tk' acc c as kp eS ln ac pw ab pr => hR h' tk' acc c as kp eS ac ⟨ln, pw, ab, pr⟩)
      xs.length 0 h tk c₁ #[] [] (Nat.sub_zero _) (Nat.zero_le _) ⟨m l2 _ hTI, ?_, ?_, .inl ⟨rfl, m l1 _ hz, _, _, m l3 _ hTO⟩⟩ ?_ ?_ (fun b o hb e => hk b o (fun q => hb (by simp [q])) e) hS₁ rfl rfl List.Pairwise.nil (fun _ ha => nomatch ha) (fun j a x y hj => by simp at hj) (Heap.lt_size hS₁)
    · obtain ⟨o, e, r⟩ := h1; exact ⟨o, m l4 _ e, r⟩
    · obtain ⟨o, e, r⟩ := h2; exact ⟨o, m l5 _ e, r⟩
    · obtain ⟨o, e, r⟩ := t1; exact ⟨o, m l6 _ e, r⟩
    · obtain ⟨o, e, r⟩ := t2; exact ⟨o, m l7 _ e, r⟩
  have hT : s.TypeIs (.ref z) "zip" := ⟨_, hz, rfl⟩
  unfold Builtin.List.listExtendWith
  refine wpAny_bind (wpAny_typeOf (T := "zip") hT ?_)
  have h1 : Builtin.List.listSameRef (.ref S) (.ref z) = false := by simp [Builtin.List.listSameRef, Nat.ne_of_gt l1]
  have h2 : (Value.type "zip" == Value.type "list") = false := by decide
  have h3 : (Value.type "zip" == Value.type "tuple") = false := by decide
  simp only [h1, h2, h3, Bool.or_false, Bool.false_eq_true, if_false]
  refine wpAny_bind (wpAny_pyIter_zip hz ?_)
  refine wpAny_bind (wpAny_holding (zip_hint hT ?_))
  refine wpAny_ite_split (fun _ => ?_) (fun _ => wpAny_pure ⟨plainId_quiet PySem.F.plain_extend_loop _, key _ c₀ _ (fun b o _ e => e) hS⟩)
  refine wpAny_bind (wpAny_rule ?_)
  refine wpAny_bind ?_
  show wpAny _ _ (updateSeq S (·.push .none) >>= fun _ => updateSeq S (·.pop)) _ _ _
  refine wpAny_bind (wpAny_updateSeq hS rfl ?_)
  have hS₂ := Heap.get?_update_self (Obj.mapSeq (·.push Value.none)) hS rfl
  refine wpAny_updateSeq (hz := by seq_fits) hS₂ rfl ?_
  have hS₃ := Heap.get?_update_self (Obj.mapSeq (·.pop)) hS₂ rfl
  refine wpAny_pure ⟨plainId_quiet PySem.F.plain_extend_loop _, key _ _ _ (fun b o hb e => ?_) hS₃⟩
  exact (Heap.get?_update_other _ _ (Ne.symm hb)).trans ((Heap.get?_update_other _ _ (Ne.symm hb)).trans e)
theorem zip_init {R : Result → Shared → Prop} {S : Addr} {oa ob : Value} (hh : A.handled = none) (D : ZApart z TI TO i1 i2) (hlt : z < S ∧ TI < S ∧ TO < S ∧ i1 < S ∧ i2 < S ∧ p1 < S ∧ p2 < S) (n1 : p1 ∉ [z, TO, i1, i2]) (n2 : p2 ∉ [z, TO, i1, i2]) (hl : xs.length = ys.length) (hn : xs.length ≤ sizeLine)
    (hz : IsZip s.heap z TI TO .none) (hTI : IsPair s.heap TI (.ref i1) (.ref i2)) (hTO : IsPair s.heap TO oa ob) (h1 : s.heap.IsTupleIter i1 p1 0) (h2 : s.heap.IsTupleIter i2 p2 0) (t1 : s.heap.IsTuple p1 xs.toArray) (t2 : s.heap.IsTuple p2 ys.toArray) (hS : s.heap.get? S = some { cls := .type "list", data := .seq #[] })
    (hR : ∀ (h' : Heap) (tk : Nat) (acc : Array Value) (c : Nat) (as : List Addr), (∀ b o, b ∉ [S, z, TO, i1, i2] → s.heap.get? b = some o → h'.get? b = some o) → h'.get? S = some { cls := .type "list", dict := none, data := .seq acc c, slots := #[] } → acc.toList = as.map Value.ref → ZGot xs ys (S + 1) h' as → R (.ok (.ret .none)) { s with heap := h', toks := tk }) :
    wpAny (model prog w) A.in1 (Builtin.«list.__init__» ⟨[.ref S, .ref z], []⟩)
      (fun fin s' => match fin with | .done f => R (.ok f) s' | .again c' => c'.quiet = true ∧ codeAny (model prog w) A c' R s') (fun e s' => R (.error e) s') s := by
  show wpAny _ _ (do let old ← Builtin.List.listItems (.ref S); Builtin.List.listUpdate (.ref S) (fun _ => #[]); letGo old.toList.reverse; Builtin.List.listExtendWith (.ref S) (.ref z) .none) _ _ s
  refine wpAny_bind ?_
  unfold Builtin.List.listItems
  refine wpAny_bind (wpAny_seqItems hS rfl (wpAny_pure ?_))
  show wpAny _ _ (updateSeq S (fun _ => #[]) >>= fun _ => letGo (#[] : Array Value).toList.reverse >>= fun _ => Builtin.List.listExtendWith (.ref S) (.ref z) .none) _ _ s
  refine wpAny_bind (wpAny_updateSeq hS rfl ?_)
  have hS₂ := Heap.get?_update_self (Obj.mapSeq (fun _ => (#[] : Array Value))) hS rfl
  have oth : ∀ b o, b ≠ S → s.heap.get? b = some o → (s.heap.update S (Obj.mapSeq (fun _ => (#[] : Array Value)))).get? b = some o :=
    fun b o hb e => (Heap.get?_update_other _ _ (Ne.symm hb)).trans e
  have m : ∀ {b : Addr}, b < S → ∀ o, s.heap.get? b = some o → (s.heap.update S (Obj.mapSeq (fun _ => (#[] : Array Value)))).get? b = some o := fun {b} hb o e => oth b o (Nat.ne_of_lt hb) e
  refine wpAny_bind (wpAny_letGo ?_)
  refine zip_extend (oa := oa) (ob := ob) (xs := xs) (ys := ys) hh D hlt n1 n2 hl hn .none _ (m hlt.1 _ hz) (m hlt.2.1 _ hTI) (m hlt.2.2.1 _ hTO) ?_ ?_ ?_ ?_ hS₂ (fun h' tk acc c as hk hS' hacc hG => ?_)
  · obtain ⟨o, e, r⟩ := h1; exact ⟨o, m hlt.2.2.2.1 _ e, r⟩
  · obtain ⟨o, e, r⟩ := h2; exact ⟨o, m hlt.2.2.2.2.1 _ e, r⟩
  · obtain ⟨o, e, r⟩ := t1; exact ⟨o, m hlt.2.2.2.2.2.1 _ e, r⟩
  · obtain ⟨o, e, r⟩ := t2; exact ⟨o, m hlt.2.2.2.2.2.2 _ e, r⟩
  · exact hR h' tk acc c as (fun b o hb e => hk b o hb (oth b o (fun q => hb (by simp [q])) e)) hS' hacc hG
theorem call_list_zip {Q : Value → Shared → Prop} {oa ob : Value} (hh : A.handled = none) (D : ZApart z TI TO i1 i2) (n1 : p1 ∉ [z, TO, i1, i2]) (n2 : p2 ∉ [z, TO, i1, i2]) (hl : xs.length = ys.length) (hn : xs.length ≤ sizeLine)
    (hz : IsZip s.heap z TI TO .none) (hTI : IsPair s.heap TI (.ref i1) (.ref i2)) (hTO : IsPair s.heap TO oa ob) (h1 : s.heap.IsTupleIter i1 p1 0) (h2 : s.heap.IsTupleIter i2 p2 0) (t1 : s.heap.IsTuple p1 xs.toArray) (t2 : s.heap.IsTuple p2 ys.toArray)
    (hQ : ∀ (h' : Heap) (tk : Nat) (acc : Array Value) (c : Nat) (as : List Addr), (∀ b o, b ∉ [z, TO, i1, i2] → s.heap.get? b = some o → h'.get? b = some o) → h'.get? s.heap.objs.size = some { cls := .type "list", dict := none, data := .seq acc c, slots := #[] } → acc.toList = as.map Value.ref → ZGot xs ys (s.heap.objs.size + 1) h' as → Q (.ref s.heap.objs.size) { s with heap := h', toks := tk }) :
    wpAny (model prog w) A (call (.type "list") [.ref z]) Q E s := by
  refine callType_codes (Q₁ := fun obj s₁ => obj = .ref s.heap.objs.size ∧ s₁ = { s with heap := s.heap.push { cls := .type "list", data := .seq #[] } }) PySem.F.called_list (PySem.F.typeCall_list_1 _) PySem.F.entry_list_init
    (code_list_new _ ⟨rfl, rfl⟩) fun obj s₁ h₁ => ?_
  obtain ⟨rfl, rfl⟩ := h₁
  have hS : (s.heap.push { cls := .type "list", data := .seq #[] }).get? s.heap.objs.size = some { cls := .type "list", data := .seq #[] } := Heap.get?_push_size _ rfl
  obtain ⟨o1, e1, r1⟩ := h1
  obtain ⟨o2, e2, r2⟩ := h2
  obtain ⟨o3, e3, r3⟩ := t1
  obtain ⟨o4, e4, r4⟩ := t2
  refine ⟨⟨_, hS, rfl⟩, PySem.F.args_list_init_2 _ _, zip_init (oa := oa) (ob := ob) (xs := xs) (ys := ys) (A := A.in1) hh D ⟨Heap.lt_size hz, Heap.lt_size hTI, Heap.lt_size hTO, Heap.lt_size e1, Heap.lt_size e2, Heap.lt_size e3, Heap.lt_size e4⟩ n1 n2 hl hn
    (Heap.get?_push_of_some _ hz) (Heap.get?_push_of_some _ hTI) (Heap.get?_push_of_some _ hTO) ⟨_, Heap.get?_push_of_some _ e1, r1⟩ ⟨_, Heap.get?_push_of_some _ e2, r2⟩ ⟨_, Heap.get?_push_of_some _ e3, r3⟩ ⟨_, Heap.get?_push_of_some _ e4, r4⟩ hS (fun h' tk acc c as hk hS' hacc hG => ?_)⟩
  exact ⟨rfl, hQ h' tk acc c as (fun b o hb e => hk b o (fun q => hb (by
    rcases List.mem_cons.mp q with q | q
    · exact absurd (Heap.lt_size e) (by rw [q]; exact Nat.lt_irrefl _)
    · exact q)) (Heap.get?_push_of_some _ e)) hS' hacc hG⟩
end
end L2
namespace L2
open PySem PySem.Spec PyProof.Rows
section
variable {X : Cx} {pins : List (Addr × Obj)} {σ : St} {H H' : Hp} {s : Shared} {h' : Heap}
/-- several untracked records of ours have turned, and new objects are tracked -/
theorem Inv.turnedM {t' : Nat} {ch : List Addr} (I : Inv X pins σ H s) (k : ∀ b o, b ∉ ch → s.heap.get? b = some o → h'.get? b = some o) (hf : ∀ b ∈ ch, FpOk X pins H b) (up : ∀ b u, H b = some u → H' b = some u)
    (nw : ∀ b u, H' b = some u → H b = none → s.heap.objs.size ≤ b ∧ ObjOk X.prog X.w H' h' b u) : Inv X pins σ H' { s with heap := h', toks := t' } := by
  have nit : ∀ b u, H b = some u → b ∉ ch := fun b u e z => by rw [(hf b z).1] at e; cases e
  refine I.step (g' := s.gens) (d' := s.drawn) (ch := ch) (fun b hb => ?_) (fun b o _ _ hc e _ => k b o hc e) (fun b o _ _ hc e _ => ⟨o.slots, k b o hc e⟩) (fun b o _ e n => ?_)
    (fun b o hc e => ⟨o, k b o hc e⟩) (fun b xs e => up b _ e) (fun b o u e => up b _ e) (fun b ps e => ⟨#[], by rw [up b _ e]; simp⟩) (fun m hm => ?_) (fun b u e => ?_) I.bare
  · obtain ⟨f0, f1, f2, f3, f4, f5⟩ := hf b hb
    exact ⟨f3, f1, f4, f5⟩
  · cases q : H' b with
    | none => rfl
    | some u => exact absurd (Heap.lt_size e) (Nat.not_lt.mpr (nw b u q n).1)
  · obtain ⟨o, es, ep, ho, r⟩ := hm
    exact ⟨o, es, ep, k _ o (fun z => (hf _ z).2.1 rfl) ho, r⟩
  · cases q : H b with
    | none => exact (nw b u e q).2
    | some v =>
      have q' := up b v q
      rw [e] at q'
      cases q'
      refine (I.hok b u q).stay (fun c v hc q3 => k c v ?_ q3) (fun c q => up c _ q) fun c xs q => up c _ q
      rcases hc with z | z
      · rw [z]; exact nit b u q
      · exact nit c _ z
end
theorem lookup_zip_at {β : Type} : ∀ (as : List Addr) (ps : List β) (j : Nat) (a : Addr) (p : β), as.Pairwise (· < ·) → as[j]? = some a → ps[j]? = some p → (as.zip ps).lookup a = some p
  | [], _, j, a, p, _, h, _ => by simp at h
  | _ :: _, [], j, a, p, _, _, h => by simp at h
  | b :: as, q :: ps, 0, a, p, _, h1, h2 => by
    simp only [List.getElem?_cons_zero, Option.some.injEq] at h1 h2
    subst h1; subst h2
    simp [List.lookup]
  | b :: as, q :: ps, j + 1, a, p, hp, h1, h2 => by
    simp only [List.getElem?_cons_succ] at h1 h2
    obtain ⟨g1, g2⟩ := List.pairwise_cons.mp hp
    have hlt : b < a := g1 a (List.mem_of_getElem? h1)
    have hne : (a == b) = false := by simpa using Nat.ne_of_gt hlt
    simp only [List.zip_cons_cons, List.lookup, hne]
    exact lookup_zip_at as ps j a p g2 h1 h2
theorem lookup_zip_of {β : Type} : ∀ (as : List Addr) (ps : List β) (a : Addr) (p : β), (as.zip ps).lookup a = some p → ∃ j : Nat, as[j]? = some a ∧ ps[j]? = some p
  | [], _, a, p, h => by simp at h
  | _ :: _, [], a, p, h => by simp at h
  | b :: as, q :: ps, a, p, h => by
    simp only [List.zip_cons_cons, List.lookup] at h
    by_cases e : a = b
    · subst e
      simp only [beq_self_eq_true, Option.some.injEq] at h
      exact ⟨0, by simp, by simp [h]⟩
    · have hne : (a == b) = false := by simpa using e
      simp only [hne] at h
      obtain ⟨j, h1, h2⟩ := lookup_zip_of as ps a p h
      exact ⟨j + 1, by simpa using h1, by simpa using h2⟩
section
variable {X : Cx}
/-- list(zip(a, b)) of two tuples of one length -/
def tLZ (K : PySem.W.Frag) (ta : TA) : TE := fun σ H Q => ta σ H fun vs H1 => ∃ a b xs ys, vs = [.ref a, .ref b] ∧ SqT K H1 a xs ∧ SqT K H1 b ys ∧ xs.length = ys.length ∧
  ∀ (l : Addr) (as : List Addr) (H2 : Hp), H1 l = none → Same H1 H2 → H2 l = some (.lst (as.map V.ref)) → as.length = xs.length →
    (∀ (j : Nat) a x y, as[j]? = some a → xs[j]? = some x → ys[j]? = some y → H1 a = none ∧ H2 a = some (.tup [x, y])) → Q (.ref l) H2
theorem vals_refs : ∀ as : List Addr, Vals (as.map V.ref) (as.map Value.ref)
  | [] => .nil
  | _ :: as => .cons rfl (vals_refs as)
theorem vals_get : ∀ {xs : List V} {us : List Value}, Vals xs us → ∀ {j : Nat} {x : V}, xs[j]? = some x → ∃ u, us[j]? = some u ∧ RelV x u := by
  intro xs us h
  induction h with
  | nil => intro j x e; simp at e
  | cons r _ ih =>
    intro j x e
    cases j with
    | zero => simp only [List.getElem?_cons_zero, Option.some.injEq] at e; subst e; exact ⟨_, rfl, r⟩
    | succ j => simpa using ih (by simpa using e)
theorem pe_list_zip {a b : Expr} {ta : TA} {p q pos pos' : Pos} (hgl : Gl X "list") (hml : X.mg "list" = none) (hg : Gl X "zip") (hm : X.mg "zip" = none) (ha : PA X [a, b] ta) (hc : X.calm = true := by rfl)
    (hs : starEach [a, b] X.env = [(false, eval a X.env), (false, eval b X.env)] := by rfl) (hs2 : starEach [b] X.env = [(false, eval b X.env)] := by rfl) :
    PE X (.Call (.Name "list" p) [.Call (.Name "zip" q) [a, b] [] pos'] [] pos) (tLZ X.K ta) := by
  intro pins s σ H Q I h
  refine wpAny_Call_Name_kw (ld_blt I hgl hml boot_list ?_)
  refine PyProof.Rows.callWith_type1 ?_
  show wpAny _ _ (spliced ((false, eval (.Call (.Name "zip" q) [a, b] [] pos') X.env) :: [])) _ _ s
  refine Calls.spliced_cons ?_
  refine wpAny_Call_Name_kw (ld_blt I hg hm boot_zip (PyProof.Rows.callWith_type1 (thn (ha pos' pins s σ H _ I h) fun us s1 ⟨vs, H1, I1, r1, q1⟩ => ?_) (by rw [hs, hs2]) (by rw [hs2]; rfl)))
  obtain ⟨x, y, xs, ys, e, hx, hy, hl, q⟩ := q1
  subst e
  obtain ⟨u, v, rfl, ru, rv⟩ := r1.two
  cases ru
  cases rv
  obtain ⟨i1, w1, ht1, z1⟩ := I1.tuple hx
  obtain ⟨i2, w2, ht2, z2⟩ := I1.tuple hy
  have l1 : x < s1.heap.objs.size := by obtain ⟨_, e, _⟩ := ht1; exact Heap.lt_size e
  have l2 : y < s1.heap.objs.size := by obtain ⟨_, e, _⟩ := ht2; exact Heap.lt_size e
  refine call_zip2 (itersTo_tuple ht1) (itersTo_tuple ht2) rfl rfl fun h1 hz hTI hTO g1 g2 hsz keep => ?_
  refine Calls.spliced_nil ?_
  have I2 : Inv X pins σ H1 { s1 with heap := h1 } := I1.kept (t' := s1.toks) keep
  have n1 : x ∉ [s1.heap.objs.size + 4, s1.heap.objs.size + 3, s1.heap.objs.size, s1.heap.objs.size + 1] := by
    intro hm
    simp only [List.mem_cons, List.not_mem_nil, or_false] at hm
    rcases hm with e | e | e | e <;> (have e' : @Eq Nat _ _ := e; have la' : @LT.lt Nat _ x s1.heap.objs.size := l1; omega)
  have n2 : y ∉ [s1.heap.objs.size + 4, s1.heap.objs.size + 3, s1.heap.objs.size, s1.heap.objs.size + 1] := by
    intro hm
    simp only [List.mem_cons, List.not_mem_nil, or_false] at hm
    rcases hm with e | e | e | e <;> (have e' : @Eq Nat _ _ := e; have la' : @LT.lt Nat _ y s1.heap.objs.size := l2; omega)
  have t1 : h1.IsTuple x i1.toArray := by obtain ⟨o, e, r⟩ := ht1; exact ⟨o, keep _ _ e, r⟩
  have t2 : h1.IsTuple y i2.toArray := by obtain ⟨o, e, r⟩ := ht2; exact ⟨o, keep _ _ e, r⟩
  have e1 := w1.length
  have e2 := w2.length
  refine call_list_zip (s := { s1 with heap := h1 }) (xs := i1) (ys := i2) (I2.ok.hd hc) (zapart_new s1.heap.objs.size) n1 n2 (by omega) (by omega) hz hTI hTO ⟨_, g1, rfl, rfl⟩ ⟨_, g2, rfl, rfl⟩ t1 t2 fun h' tk acc c as kp hS hacc hG => ?_
  let H2 : Hp := fun b => if b = h1.objs.size then some (.lst (as.map V.ref)) else match (as.zip (xs.zip ys)).lookup b with | some p => some (.tup [p.1, p.2]) | none => H1 b
  have fr : ∀ b, h1.objs.size ≤ b → H1 b = none := fun b hb => I2.hok.fresh hb
  have old : ∀ b u, H1 b = some u → b < h1.objs.size := fun b u e => Nat.lt_of_not_le fun hb => by rw [fr b hb] at e; cases e
  have lk : ∀ b p, (as.zip (xs.zip ys)).lookup b = some p → h1.objs.size + 1 ≤ b := fun b p e => by
    obtain ⟨j, h1, _⟩ := lookup_zip_of _ _ _ _ e
    exact hG.above b (List.mem_of_getElem? h1)
  have up : ∀ b u, H1 b = some u → H2 b = some u := fun b u e => by
    have hb := old b u e
    show (if b = h1.objs.size then _ else _) = _
    rw [if_neg (Nat.ne_of_lt hb)]
    cases e' : (as.zip (xs.zip ys)).lookup b with
    | none => exact e
    | some p => exact absurd (Nat.lt_of_succ_le (lk b p e')) (Nat.not_lt.mpr (Nat.le_of_lt hb))
  have atj : ∀ (j : Nat) a x y, as[j]? = some a → xs[j]? = some x → ys[j]? = some y → H2 a = some (.tup [x, y]) := fun j a x y h1' h2 h3 => by
    have ha : h1.objs.size + 1 ≤ a := hG.above a (List.mem_of_getElem? h1')
    show (if a = h1.objs.size then _ else _) = _
    have hzz : (xs.zip ys)[j]? = some (x, y) := List.getElem?_zip_eq_some.mpr ⟨h2, h3⟩
    rw [if_neg (Nat.ne_of_gt (Nat.lt_of_succ_le ha)), lookup_zip_at as (xs.zip ys) j a (x, y) hG.rise h1' hzz]
  have hS2 : H2 h1.objs.size = some (.lst (as.map V.ref)) := if_pos rfl
  have hlen : as.length = xs.length := by rw [hG.len]; omega
  have I3 : Inv X pins σ H2 { s1 with heap := h', toks := tk } := by
    refine I2.turnedM (s := { s1 with heap := h1 }) (ch := [s1.heap.objs.size + 4, s1.heap.objs.size + 3, s1.heap.objs.size, s1.heap.objs.size + 1]) kp (fun b hb => ?_) up (fun b u e hn => ?_)
    · have hle : s1.heap.objs.size ≤ b := by
        simp only [List.mem_cons, List.not_mem_nil, or_false] at hb
        rcases hb with e | e | e | e <;> (have e' : @Eq Nat _ _ := e; show @LE.le Nat _ s1.heap.objs.size b; omega)
      exact I1.fpOk hle (I1.hok.fresh hle)
    · by_cases hb : b = h1.objs.size
      · subst hb
        rw [hS2] at e
        cases e
        refine ⟨Nat.le_refl _, (by rw [List.length_map]; omega), as.map Value.ref, c, vals_refs as, ?_⟩
        rw [← hacc]; exact hS
      · have e0 : (match (as.zip (xs.zip ys)).lookup b with | some p => some (HO.tup [p.1, p.2]) | none => H1 b) = some u := by
          have : H2 b = _ := if_neg hb
          rw [← this]; exact e
        cases e' : (as.zip (xs.zip ys)).lookup b with
        | none => rw [e'] at e0; rw [hn] at e0; cases e0
        | some p =>
          rw [e'] at e0
          cases e0
          refine ⟨Nat.le_of_succ_le (lk b p e'), (show (2 : Nat) ≤ sizeLine by decide), ?_⟩
          obtain ⟨j, j1, j2⟩ := lookup_zip_of _ _ _ _ e'
          obtain ⟨k1, k2⟩ := List.getElem?_zip_eq_some.mp j2
          obtain ⟨u1, f1, r1⟩ := vals_get w1 k1
          obtain ⟨u2, f2, r2⟩ := vals_get w2 k2
          exact ⟨[u1, u2], .cons r1 (.cons r2 .nil), ⟨_, hG.pairs j b u1 u2 j1 f1 f2, rfl, _, rfl⟩⟩
  exact ⟨.ref h1.objs.size, H2, I3, rfl, q _ as H2 (fr _ (Nat.le_refl _)) up hS2 hlen fun j a x y k1 k2 k3 => ⟨fr a (Nat.le_of_succ_le (hG.above a (List.mem_of_getElem? k1))), atj j a x y k1 k2 k3⟩⟩
end
end L2
namespace L2
open PySem PySem.Spec PyProof.Rows
section
variable {src : List (Option Nat)} {te : TE} {σ : St} {H : Hp} {Q : VK}
/-- a comprehension that makes a tuple at each turn -/
theorem lc_tups {J : It} {P : Hp → Prop} {xs : List V} (hJ : ItSeq J P xs) {H1 : Hp} {D : Addr} (ts : List (List V)) (hP : ∀ H', Same H1 H' → P H') (hD : H1 D = none) (hl : ts.length = xs.length) (hlen : xs.length ≤ 100000)
    (step : ∀ (i : Nat) x t H', xs[i]? = some x → ts[i]? = some t → Same H1 H' → ∀ R : VK, (∀ a H'', Same H' H'' → H'' a = some (.tup t) → R (.ref a) H'') → te (some x :: capSt src σ) H' R)
    (fin : ∀ (as : List Addr) H', Same H1 H' → H' D = some (.lst (as.map V.ref)) → as.length = xs.length → (∀ (j : Nat) a t, as[j]? = some a → ts[j]? = some t → H' a = some (.tup t)) → Q (.ref D) H') : LC (none :: src) J (gName 0) tYes te σ H1 Q D := by
  have h6 : 100000 < sizeLine := by decide
  refine lc_on hJ (fun i zs σ' H' => ∃ as : List Addr, zs = as.map V.ref ∧ as.length = i ∧ (∃ o, σ' = o :: capSt src σ) ∧ Same H1 H' ∧ H' D = some (.lst zs) ∧ ∀ (j : Nat) a t, as[j]? = some a → ts[j]? = some t → H' a = some (.tup t))
    ⟨[], rfl, rfl, ⟨none, rfl⟩, .upd_new hD _, upd_same, fun j a t h => by simp at h⟩ (fun i zs σ' H' ⟨as, _, _, _, p1, p2, _⟩ => ⟨hP _ p1, p2⟩) (gName_mono 0) ?_ ?_
  · rintro i zs σ' H' x hx ⟨as, rfl, hi', ⟨o, rfl⟩, sm, hd, hts⟩
    have hi := (List.getElem?_eq_some_iff.mp hx).1
    have ht : ts[i]? = some (ts[i]'(by omega)) := List.getElem?_eq_getElem _
    show te (some x :: capSt src σ) H' _
    refine step i x _ H' hx ht sm _ fun a H'' s2 ha => ⟨s2 _ _ hd, by rw [List.length_map]; omega, as ++ [a], by simp, by simp [hi'], ⟨_, rfl⟩, .upd_over hD (sm.trans s2) _, upd_same, fun j b t hj hjt => ?_⟩
    have key : H'' b = some (.tup t) := by
      rcases Nat.lt_trichotomy j as.length with h1 | h1 | h1
      · rw [List.getElem?_append_left h1] at hj
        exact s2 _ _ (hts j b t hj hjt)
      · have hb : a = b := by subst h1; simpa using hj
        subst hb
        rw [h1, hi'] at hjt
        rw [ht] at hjt
        cases hjt
        exact ha
      · rw [List.getElem?_eq_none (by rw [List.length_append, List.length_singleton]; omega)] at hj; cases hj
    rw [upd_ne (ne_of key (s2 _ _ hd) (by intro z; cases z))]
    exact key
  · rintro zs σ' H' ⟨as, rfl, hn, _, sm, hd, hts⟩
    exact fin as H' sm hd hn hts
theorem tLC_tups {K : PySem.W.Frag} {tl : TE} {xs : List V} (ts : List (List V)) (ha : ∀ R : V → Hp → Prop, (∀ a H1, Same H H1 → SqL K H1 a xs → R (.ref a) H1) → tl σ H R) (hl : ts.length = xs.length) (hlen : xs.length ≤ 100000)
    (step : ∀ (i : Nat) x t H', xs[i]? = some x → ts[i]? = some t → Same H H' → ∀ R : VK, (∀ a H'', Same H' H'' → H'' a = some (.tup t) → R (.ref a) H'') → te (some x :: capSt src σ) H' R)
    (fin : ∀ D (as : List Addr) H', H D = none → Same H H' → H' D = some (.lst (as.map V.ref)) → as.length = xs.length → (∀ (j : Nat) a t, as[j]? = some a → ts[j]? = some t → H' a = some (.tup t)) → Q (.ref D) H') : tLC (none :: src) (iList K tl) (gName 0) tYes te σ H Q :=
  ha _ fun a H1 s1 hS => ⟨a, rfl, ⟨xs, hS⟩, fun D hD => lc_tups (itseq_list.imp fun H' (e : Same H1 H') => e.seq hS) ts (fun _ e => e) hD hl hlen (fun i x t H' hx ht sm R r => step i x t H' hx ht (s1.trans sm) R r) fun as H' sm => fin D as H' (s1.free hD) (s1.trans sm)⟩
/-- a comprehension whose things keep a promise each -/
theorem lc_rel {J : It} {P : Hp → Prop} {xs : List V} (hJ : ItSeq J P xs) {H1 : Hp} {D : Addr} (Rl : Nat → V → Hp → Prop) (st : ∀ i y H H', Rl i y H → Same H H' → Rl i y H') (su : ∀ i y H p zs zs', Rl i y H → H p = some (.lst zs) → Rl i y (upd H p (.lst zs')))
    (hP : ∀ H', Same H1 H' → P H') (hD : H1 D = none) (hlen : xs.length ≤ 100000)
    (step : ∀ (i : Nat) x H', xs[i]? = some x → Same H1 H' → ∀ R : VK, (∀ y H'', Same H' H'' → Rl i y H'' → R y H'') → te (some x :: capSt src σ) H' R)
    (fin : ∀ (ys : List V) H', Same H1 H' → H' D = some (.lst ys) → ys.length = xs.length → (∀ (j : Nat) y, ys[j]? = some y → Rl j y H') → Q (.ref D) H') : LC (none :: src) J (gName 0) tYes te σ H1 Q D := by
  have h6 : 100000 < sizeLine := by decide
  refine lc_on hJ (fun i zs σ' H' => zs.length = i ∧ (∃ o, σ' = o :: capSt src σ) ∧ Same H1 H' ∧ H' D = some (.lst zs) ∧ ∀ (j : Nat) y, zs[j]? = some y → Rl j y H')
    ⟨rfl, ⟨none, rfl⟩, .upd_new hD _, upd_same, fun j y h => by simp at h⟩ (fun i zs σ' H' ⟨_, _, p1, p2, _⟩ => ⟨hP _ p1, p2⟩) (gName_mono 0) ?_ ?_
  · rintro i zs σ' H' x hx ⟨hi', ⟨o, rfl⟩, sm, hd, hts⟩
    have hi := (List.getElem?_eq_some_iff.mp hx).1
    show te (some x :: capSt src σ) H' _
    refine step i x H' hx sm _ fun y H'' s2 hy => ⟨s2 _ _ hd, by omega, by simp [hi'], ⟨_, rfl⟩, .upd_over hD (sm.trans s2) _, upd_same, fun j z hj => su _ _ _ _ _ _ ?_ (s2 _ _ hd)⟩
    rcases Nat.lt_trichotomy j zs.length with h1 | h1 | h1
    · rw [List.getElem?_append_left h1] at hj
      exact st _ _ _ _ (hts j z hj) s2
    · have hb : y = z := by subst h1; simpa using hj
      subst hb
      rw [h1, hi']
      exact hy
    · rw [List.getElem?_eq_none (by rw [List.length_append, List.length_singleton]; omega)] at hj; cases hj
  · rintro zs σ' H' ⟨hn, _, sm, hd, hts⟩
    exact fin zs H' sm hd hn hts
end
end L2
namespace L2
open PySem PySem.Spec PyProof.Rows
section
variable {X : Cx}
/-- name = [.. for ..]: stored ahead of the letting go of the block's own names -/
theorem ps_setC {i : Nat} {x : Str} {pos' apos : Pos} {elt tg iter : Expr} {ifs : List Expr} {scope : Scope} {pos : Pos} {src : List (Option Nat)} {N' : List Str} {wi : TI} {g : TG} {tt : TT} {te : TE} (hN : X.N.Nodup) (hix : X.N[i]? = some x) (hlx : Loc X.env.scope x) (hcap : Cap X scope src N') (hc : X.calm = true) (hi : PI X tg iter wi)
    (hg : ∀ cl C s₀ H₀ fp pn, PG (cxC X scope N' cl C s₀ H₀ fp pn) tg g) (ht : ∀ cl C s₀ H₀ fp pn, PTs (cxC X scope N' cl C s₀ H₀ fp pn) ifs tt) (he : ∀ cl C s₀ H₀ fp pn, PE (cxC X scope N' cl C s₀ H₀ fp pn) elt te)
    (hfree : ∀ x, (x, NameKind.free) ∈ scope.names → X.env.scope.names.lookup x = some NameKind.cell ∨ X.env.scope.names.lookup x = some NameKind.free)
    (hk : scope.kind = .function := by rfl) (hcell : ∀ y ∈ scope.names, y.2 ≠ .cell := by decide) (hnames : ∀ y ∈ scope.names, y.2 = .local → scope.names.lookup y.1 = some .local := by decide +kernel)
    (hs : ∀ x, foldedSetIterable iter X.env x = pure x := by intro _; rfl) (hsw : swapsWithSole [.Name x pos'] (.ListComp elt [⟨tg, iter, ifs, 0⟩] scope pos) apos.line X.env = pure true := by rfl) (hf : X.fn x = true ∨ X.env.scope.names.lookup x = some .local := by first | exact .inl rfl | exact .inr rfl | assumption) :
    PS X (.Assign [.Name x pos'] (.ListComp elt [⟨tg, iter, ifs, 0⟩] scope pos) apos) (tAsg (tLC src wi g tt te) (gName i)) := by
  intro pins s σ H D0 I h
  have no : ∀ {E : Value → Shared → Prop}, ∀ (e : Value) (s' : Shared), False → E e s' := fun _ _ f => f.elim
  obtain ⟨cl, hcl, a, b⟩ := closure_ok X.env scope fun x hx => I.ok.has x (hfree x hx)
  rw [exec_Assign_arm]
  refine wpAny_bind (wpAny_standAt ?_)
  rw [hsw]
  refine wpAny_bind (wpAny_pure ?_)
  rw [if_pos rfl]
  refine wpAny_bind ?_
  rw [arm_evalThenUse_ListComp]
  refine wpAny_bind ?_
  refine wpAny_comprehension_free (use := some _) rfl hs hcl hk hnames (thn (hi pins s σ H _ I h) fun v s1 h1 => thn h1 fun itv s2 h2 => ?_)
  obtain ⟨it, fp, tn, J, H2, e, I2, T, st2, f2, q⟩ := h2
  subst e
  have hD : H2 s2.heap.objs.size = none := I2.hok.fresh (Nat.le_refl _)
  obtain ⟨W, ⟨m0, w0⟩, turn⟩ := q s2.heap.objs.size hD
  have I3 := I2.lnew (t' := s2.toks) (ys := []) (its := []) .nil (Nat.zero_le _)
  have fl2 : ∀ b ∈ fp, b < s2.heap.objs.size := fun b hb => by
    obtain ⟨o, e, _⟩ := T.obj _ _ st2 b hb
    exact Heap.lt_size e
  refine wpAny_newObj_type ?_
  generalize es3 : ({ s2 with heap := s2.heap.push { cls := .type "list", dict := none, data := .seq ([] : List Value).toArray } } : Shared) = s3
  have I3' : Inv X pins σ (upd H2 s2.heap.objs.size (.lst [])) s3 := es3 ▸ I3
  have keep3 : ∀ b o, s2.heap.get? b = some o → s3.heap.get? b = some o := fun b o e => by rw [← es3]; exact Heap.get?_push_of_some _ e
  have st3 : tn 0 s3.heap := T.keep _ _ _ st2 fun b _ o e => keep3 b o e
  have fl3 : ∀ b ∈ fp, b < s3.heap.objs.size := fun b hb => by
    obtain ⟨o, e, _⟩ := T.obj _ _ st3 b hb
    exact Heap.lt_size e
  have f3 : ∀ b ∈ fp, FpOk X pins (upd H2 s2.heap.objs.size (.lst [])) b := fun b hb => ⟨by rw [upd_ne (Nat.ne_of_lt (fl2 b hb))]; exact (f2 b hb).1, (f2 b hb).2⟩
  generalize eD : s2.heap.objs.size = D at *
  generalize eH3 : upd H2 D (.lst []) = H3 at *
  refine wpAny_newFunctionEnv hcell (by intro y hy; simp at hy) (fun h₁ hns₁ hsb₁ => ?_) hk
  have keep4 : ∀ b o, s3.heap.get? b = some o → h₁.get? b = some o := fun b o e => hsb₁.extBut b o (Nat.ne_of_lt (Heap.lt_size e)) (Heap.get?_push_of_some _ e)
  have I4 := inv_comp (N' := N') (src := src) (tk := s3.toks + ([] : List (Str × Value)).length) hk hcell hcap a b I3' f3 fl3 rfl keep4 hns₁
  -- the iterator's objects, through the block
  have stat : ∀ {H' : Hp}, (∀ b ∈ fp, H' b = none) → ∀ b ∈ fp, FpOk (cxC X scope N' cl s3.heap.objs.size s3 H3 fp (X.pn ++ pins)) [] H' b := fun hn b' hb => by
    obtain ⟨f0, f1, fs, fe, f4, f5⟩ := f3 b' hb
    refine ⟨hn b' hb, Nat.ne_of_lt (fl3 b' hb), fun z => ?_, .inl hb, fun x c h => f4 x c (a x c h), fun p hp => f5 p (by simpa [cxC] using hp)⟩
    rcases List.mem_cons.mp (I3'.stkSub b' z) with e | e
    · exact f1 e
    · exact fs e
  -- behind the block
  have fin : ∀ {H' : Hp} {s' : Shared} {σ' : St} {pins' : List (Addr × Obj)}, Inv (cxC X scope N' cl s3.heap.objs.size s3 H3 fp (X.pn ++ pins)) pins' σ' H' s' → ∀ h', Heap.SameBut s3.heap.objs.size s'.heap h' → Inv X pins σ H' { s' with heap := h' } := fun {H' s' σ' pins'} J' h' sb => by
    have same : ∀ b o, b ≠ s3.heap.objs.size → s'.heap.get? b = some o → h'.get? b = some o := fun b o hb e => sb.extBut b o hb e
    have u : Un (frs X.stack) fp H3 H' s3.heap s'.heap := J'.base
    refine I3'.call' (s' := { s' with heap := h' }) (ch := fp) J'.os ⟨fun b o e n hb hx => ?_, fun b o e n hb hx => ?_, u.free, fun b o e hx => ?_, u.tups, u.frzs, u.tbls⟩ (fun b o e => ?_) J'.bare fun b hb => ?_
    · exact same b o (Nat.ne_of_lt (Heap.lt_size e)) (u.keep b o e n hb hx)
    · obtain ⟨sl, z⟩ := u.slot b o e n hb hx
      exact ⟨sl, same b _ (Nat.ne_of_lt (Heap.lt_size e)) z⟩
    · obtain ⟨o', z⟩ := u.there b o e hx
      exact ⟨o', same b o' (Nat.ne_of_lt (Heap.lt_size e)) z⟩
    · have nC : ∀ c v, H' c = some v → c ≠ s3.heap.objs.size := fun c v z q => by
        have := J'.free
        rw [show (cxC X scope N' cl s3.heap.objs.size s3 H3 fp (X.pn ++ pins)).env.locals = s3.heap.objs.size from rfl, ← q, z] at this
        cases this
      refine (J'.hok b o e).stay (fun c v hc q => same c v ?_ q) (fun _ q => q) fun _ _ q => q
      rcases hc with z | z
      · rw [z]; exact nC b o e
      · exact nC c _ z
    · obtain ⟨f0, f1, fs, fe, f4, f5⟩ := f3 b hb
      exact ⟨fe, f1, f4, f5⟩
  have loop : codeAny (model X.prog X.w) X.A (.compLoop (.ListComp elt [⟨tg, iter, ifs, 0⟩] scope pos) 0 (.ref it) (.ref D) (compEnvC scope cl s3.heap.objs.size X.env))
      (compPost (model X.prog X.w) X.A X.xe (some fun v => assignAll v ((assignEach [.Name x pos'] X.env).map (·.2))) (fun _ s' => wpAny (model X.prog X.w) X.A (pure PUnit.unit) (fun _ s' => wpAny (model X.prog X.w) X.A (pure Flow.next) (SP X pins D0) X.xe s') X.xe s') (.ref D) s3.heap.objs.size) { s3 with heap := h₁, toks := s3.toks + ([] : List (Str × Value)).length } := by
    refine comp_loop (fun n s' => ∃ i ys σ' H', Inv (cxC X scope N' cl s3.heap.objs.size s3 H3 fp (X.pn ++ pins)) [] σ' H' s' ∧ tn i s'.heap ∧ (∀ b ∈ fp, H' b = none) ∧ W i n ys σ' H') ?_ m0 ⟨0, [], capSt src σ, H3, I4, T.keep _ _ _ st3 fun b _ o e => keep4 b o e, fun b hb => (f3 b hb).1, w0⟩
    rintro n s5 ⟨i, ys, σ5, H5, I5, st5, fr5, w5⟩
    obtain ⟨hDs, stop | go⟩ := turn i n ys σ5 H5 w5
    · obtain ⟨stop, qn⟩ := stop
      refine thn (T.done (cxC X scope N' cl s3.heap.objs.size s3 H3 fp (X.pn ++ pins)) rfl rfl rfl hc i [] s5 σ5 H5 _ I5 (stat fr5) st5 stop) fun r s6 ⟨hr, I6⟩ => ?_
      subst hr
      obtain ⟨m, hn, _⟩ := id I6.loc
      have IO : Inv X pins σ H5 s6 := fin I6 s6.heap (Heap.SameBut.refl _ _)
      have hCn : H5 s3.heap.objs.size = none := I6.free
      have hC : ∀ {H' : Hp}, H' s3.heap.objs.size = none → FpOk X pins H' s3.heap.objs.size := fun {H'} z => I3'.fpOk (Nat.le_refl _) z
      obtain ⟨oC, es, ep, hoC, rC⟩ := hn
      have IP := IO.pinned (fp := [s3.heap.objs.size]) (fun b hb => by rw [List.mem_singleton.mp hb]; exact hC hCn) (fun b hb => by rw [List.mem_singleton.mp hb]; exact ⟨oC, hoC, fun v z => by (rw [rC.1] at z; cases z)⟩)
      show wpAny _ _ (assign (.Name x pos') X.env (.ref D)) _ _ _
      refine thn (pg_name hN hix hlx hf _ s6 σ H5 (.ref D) (.ref D) _ IP rfl qn) fun _ s7 ⟨σ7, H7, I7, q7⟩ => ?_
      obtain ⟨g1, g2, _⟩ := I7.pin (s3.heap.objs.size, oC) (List.mem_append_right _ (List.mem_append_right _ (mem_pinsAt (List.mem_singleton.mpr rfl) hoC)))
      refine ⟨m, ⟨oC, es, ep, g1, rC⟩, fun h' sb => wpAny_pure (wpAny_pure ⟨σ7, H7, ?_, q7⟩)⟩
      exact I7.unpinned.turnedL (t' := s7.toks) (ch := [s3.heap.objs.size]) (fun b o hb e => sb.extBut b o (fun z => hb (by rw [z]; exact List.mem_singleton.mpr rfl)) e) (fun b hb => by rw [List.mem_singleton.mp hb]; exact hC g2)
    · obtain ⟨go, N, hN, step⟩ := go
      refine thn (T.item (cxC X scope N' cl s3.heap.objs.size s3 H3 fp (X.pn ++ pins)) rfl rfl rfl hc i [] s5 σ5 H5 _ I5 (stat fr5) st5 go) fun r s6 ⟨u, hr, h6⟩ => ?_
      subst hr
      refine thn h6 fun _ s7 ⟨x, H7, I7, r7, y7, st7, fr7⟩ => ?_
      have I7' := I7.pinned (stat fr7) (T.obj _ _ st7)
      have again : ∀ {s8 : Shared} {σ8 : St} {H8 : Hp} {ys' : List V}, Inv (cxC X scope N' cl s3.heap.objs.size s3 H3 fp (X.pn ++ pins)) ([] ++ pinsAt fp s7.heap) σ8 H8 s8 → (∃ m', m' < n ∧ W (i + 1) m' ys' σ8 H8) →
          ∃ m, m < n ∧ ∃ i ys σ' H', Inv (cxC X scope N' cl s3.heap.objs.size s3 H3 fp (X.pn ++ pins)) [] σ' H' s8 ∧ tn i s8.heap ∧ (∀ b ∈ fp, H' b = none) ∧ W i m ys σ' H' := fun {s8 σ8 H8 ys'} I8 ⟨m', hm, w8⟩ => by
        refine ⟨m', hm, i + 1, ys', σ8, H8, I8.unpinned, T.keep _ _ _ st7 fun b hb o e => (I8.pin (b, o) (List.mem_append_right _ (List.mem_append_right _ (mem_pinsAt hb e)))).1, fun b hb => ?_, w8⟩
        obtain ⟨o, e, d⟩ := T.obj _ _ st7 b hb
        exact (I8.pin (b, o) (List.mem_append_right _ (List.mem_append_right _ (mem_pinsAt hb e)))).2.1
      refine thn (hg cl _ s3 H3 fp _ _ s7 σ5 H7 x u _ I7' r7 (step x H7 y7)) fun _ s8 ⟨σ8, H8, I8, q8⟩ => ?_
      refine thn (ht cl _ s3 H3 fp _ _ s8 σ8 H8 _ I8 q8) fun ok s9 ⟨H9, I9, q9⟩ => ?_
      cases ok with
      | false => exact again I9 (hN _ _ _ q9)
      | true =>
        rw [if_pos rfl]
        refine thn (he cl _ s3 H3 fp _ _ s9 σ8 H9 _ I9 q9) fun y s10 ⟨yv, H10, I10, r10, q10⟩ => ?_
        obtain ⟨hDy, hlen, w10⟩ := q10
        refine thn (mt_append (X := cxC X scope N' cl s3.heap.objs.size s3 H3 fp (X.pn ++ pins)) _ s10 σ8 H10 (.ref D) [yv] (.ref D) [y] (fun _ H' => H' = upd H10 D (.lst (ys ++ [yv]))) I10 rfl (.cons r10 .nil) ⟨D, ys, yv, rfl, rfl, hDy, hlen, rfl⟩) fun _ s11 ⟨_, H11, I11, _, e11⟩ => ?_
        subst e11
        exact again I11 (hN _ _ _ w10)
  exact codeAny_compStart_list loop (T.self _ 0 _ _ _ (T.keep _ _ _ st3 fun b _ o e => keep4 b o e) loop)
end
end L2
namespace L2
open PySem PySem.Spec PyProof.Rows
/-! ### an exception of the program's own: it flies over B, which is all that stays behind it but the frames -/
structure Fly (P : Program) (w : World) (l : List Env) (H : Hp) (h : Heap) (e : Addr) (cls : Value) (H' : Hp) (h' B : Heap) : Prop where
  fl : ∃ a0, Heap.FlyingW B l e cls a0 h'
  hok : HOk P w H' B
  keep : ∀ b o, h.get? b = some o → H b = none → b ∉ frs l → B.get? b = some o
  slot : ∀ b o, h.get? b = some o → H b = none → b ∈ frs l → ∃ sl, h'.get? b = some { o with slots := sl }
  al : ∀ b o, h.get? b = some o → b ∉ frs l → ∃ o', B.get? b = some o'
  free : ∀ b o, h.get? b = some o → H b = none → H' b = none
  tups : ∀ b xs, H b = some (.tup xs) → H' b = some (.tup xs)
  frzs : ∀ b o u, H b = some (.frz o u) → H' b = some (.frz o u)
  tbls : ∀ b ps, H b = some (.tbl ps) → ∃ more, H' b = some (.tbl (ps ++ more))
section
variable {P : Program} {w : World} {l : List Env} {H H' : Hp} {h h' h'' B : Heap} {e : Addr} {cls : Value}
theorem Fly.un (F : Fly P w l H h e cls H' h' B) (hf : ∀ b ∈ frs l, H b = none) : Un (frs l) [] H H' h h' := by
  obtain ⟨a0, fl⟩ := F.fl
  refine ⟨fun b o q n hb _ => fl.1 b o (F.keep b o q n hb), fun b o q n hb _ => F.slot b o q n hb, fun b o q n _ => F.free b o q n, fun b o q _ => ?_, F.tups, F.frzs, F.tbls⟩
  by_cases hb : b ∈ frs l
  · obtain ⟨sl, z⟩ := F.slot b o q (hf b hb) hb
    exact ⟨_, z⟩
  · obtain ⟨o', z⟩ := F.al b o q hb
    exact ⟨o', fl.1 b o' z⟩
theorem Fly.held (F : Fly P w l H h e cls H' h' B) : HOk P w H' h' := by
  obtain ⟨a0, fl⟩ := F.fl
  exact F.hok.kept fl.1
theorem Fly.on (F : Fly P w l H h e cls H' h' B) (fl : ∃ a0, Heap.FlyingW B l e cls a0 h'') (nf : ∀ b ∈ frs l, ∀ o, h.get? b = some o → ∀ vs, o.data ≠ .fields vs) (sm : h'.UpToSlots h'') : Fly P w l H h e cls H' h'' B :=
  ⟨fl, F.hok, F.keep, fun b o q n hb => by
    obtain ⟨sl, z⟩ := F.slot b o q n hb
    obtain ⟨sl', z'⟩ := sm b _ z (nf b hb o q)
    exact ⟨sl', z'⟩, F.al, F.free, F.tups, F.frzs, F.tbls⟩
end
section
variable {X : Cx} {pins : List (Addr × Obj)} {σ : St} {H H' : Hp} {s s' : Shared} {h' B : Heap} {e : Addr} {cls : Value} {M : Model} {A : Around} {Q : Unit → Shared → Prop} {EE : Value → Shared → Prop}
theorem Inv.notL (I : Inv X pins σ H s) {b : Addr} {o : Obj} (q : X.s₀.heap.get? b = some o) : b ≠ X.env.locals := Nat.ne_of_lt (Nat.lt_of_lt_of_le (Heap.lt_size q) I.ok.above)
theorem Inv.notStk (I : Inv X pins σ H s) (hf : X.env.frame = some X.env.locals) {b : Addr} {o : Obj} (q : X.s₀.heap.get? b = some o) (n : b ∉ X.fs) : b ∉ frs (X.env :: X.outer) := fun z => by
  unfold frs at z
  rw [List.filterMap_cons, hf] at z
  rcases List.mem_cons.mp z with z | z
  · exact I.notL q z
  · exact n z
theorem Inv.inStk (I : Inv X pins σ H s) (hf : X.env.frame = some X.env.locals) {b : Addr} (n : b ∈ X.fs) : b ∈ frs (X.env :: X.outer) := by
  unfold frs
  rw [List.filterMap_cons, hf]
  exact List.mem_cons_of_mem _ n
end
/-- how an exception lies behind a call -/
def CXF (P : Program) (w : World) : CXT := fun l H s E e s' => ∃ (a : Addr) (cls : Value) (H' : Hp) (B : Heap), e = .ref a ∧ s'.os = s.os ∧ AllBare s'.gens ∧ Fly P w l H s.heap a cls H' s'.heap B ∧ E cls none H'
/-- a body from which exceptions may go -/
abbrev Gx.cxX (g : Gx) (N : List Str) (qual : Str) (st : Stmt) (f : Addr) (cdv : Value) (A : Around) (outer : List Env) (s : Shared) (H : Hp) (E : XK) : Cx := cxOf (CXF g.P g.w) g.P g.w g.K g.mg g.base N qual (defScope st) f cdv A outer s H E
section
variable {g : Gx} {N : List Str} {qual : Str} {st : Stmt} {f : Addr} {cdv : Value} {A : Around} {outer : List Env} {s : Shared} {H : Hp} {E : XK}
/-- what a raise asks -/
def Raises (X : Cx) (E : XK) : Prop := ∀ (pins : List (Addr × Obj)) (σ : St) (H : Hp) (s : Shared) (h' : Heap) (e : Addr) (cls : Value) (vs : List Value), Inv X pins σ H s → Heap.MadeExcOf s.heap h' e cls vs → E cls none H → X.xe (.ref e) { s with heap := h' }
end
def Gx.FnX (g : Gx) (k : Nat) (x : Str) (ps : List Str) (sp : Sp) : Prop := ∃ f fd, FnOk g.P g.w g.K g.mg g.base (CXF g.P g.w) k f fd ps sp ∧ Binds g.K fd ps [] ∧ PySem.W.keepIn g.K (.ref f) = true ∧ g.mg x = some (.ref f)
def BodyX (g : Gx) (k : Nat) (N : List Str) (qual : Str) (st : Stmt) (sp : Sp) : Prop := ∀ (f : Addr) (cdv : Value) (A : Around) (outer : List Env) (s : Shared) (H : Hp) (vs : List V) (Q : VK) (E : XK), Room k (g.cxX N qual st f cdv A outer s H E).A → sp vs H Q E →
  ∃ t, PSs (g.cxX N qual st f cdv A outer s H E) (defBody st) t ∧ t { nx := fun _ H' => Q .non H', rt := Q } (start N vs) H
section
variable {g : Gx} {k : Nat} {x qual m : Str} {st : Stmt} {N ps : List Str} {sp : Sp} {C : Addr}
theorem Gx.FnX.mono {j : Nat} (F : g.FnX j x ps sp) (h : j ≤ k) : g.FnX k x ps sp := by
  obtain ⟨f, fd, F, r⟩ := F
  exact ⟨f, fd, F.mono h, r⟩
end
section
variable {g : Gx} {X : Cx} {k j : Nat} {x : Str} {ps : List Str} {sp : Sp} {E : XK} {e : Expr} {es : List Expr} {t : TA} {p pos cpos np : Pos}
theorem PS.nox {st : Stmt} {t : TS} (h : PS X.nox st t) : PS X st t := fun pins s σ H D I hw =>
  wpAny_mono (h pins s σ H D (I.wish _) hw) (fun _ _ q => q.unwish) fun _ _ z => False.elim z
/-- the built-in line that our classes stand in -/
abbrev veLine : List Value := [.type "ValueError", .type "Exception", .type "BaseException", .type "object"]
/-- an exception class of the text, without an __init__ of its own -/
structure Gx.Exc (g : Gx) (x : Str) (C : Addr) : Prop where
  bound : g.mg x = some (.ref C)
  own : PySem.W.excIn g.K C veLine "ValueError.__new__" = true
def tRaise (C : Addr) (E : XK) (t : TA) : TS := fun _ σ H => t σ H fun vs H1 => vs.length ≤ sizeLine ∧ E (.ref C) none H1
end
/-! ### try: x = f(..) except C: suite -/
abbrev Cx.caught (X : Cx) (e : Addr) : Cx := { X with A := X.A.mark (some (.ref e)), calm := false, xe := fun _ _ => False }
section
variable {X : Cx} {pins : List (Addr × Obj)} {σ : St} {H H' H1 : Hp} {s s1 s' : Shared} {e : Value} {D : Ends} {ts : TS} {b₀ : Stmt} {suite : List Stmt} {c : Str} {cv : Value} {cp hpos : Pos}
theorem Inv.caught (I : Inv X pins σ H s) (a : Addr) : Inv (X.caught a) pins σ H s :=
  ⟨⟨I.ok.mod, I.ok.kind, I.ok.glob, I.ok.blt, I.ok.above, I.ok.inj, I.ok.has, I.ok.cab, fun z => (by cases z), I.ok.frames, I.ok.stk, I.ok.exf, I.ok.bs, I.ok.bsz, I.ok.noex, I.ok.exfs, I.ok.funs, I.ok.frf⟩, I.os, I.bare, I.base, I.loc, I.cell, I.free, I.freeC, I.pin, I.hok, I.len⟩
theorem Inv.uncaught {a : Addr} (hd : X.calm = true → X.A.handled = none) (I : Inv (X.caught a) pins σ H s) : Inv X pins σ H s :=
  ⟨⟨I.ok.mod, I.ok.kind, I.ok.glob, I.ok.blt, I.ok.above, I.ok.inj, I.ok.has, I.ok.cab, hd, I.ok.frames, I.ok.stk, I.ok.exf, I.ok.bs, I.ok.bsz, I.ok.noex, I.ok.exfs, I.ok.funs, I.ok.frf⟩, I.os, I.bare, I.base, I.loc, I.cell, I.free, I.freeC, I.pin, I.hok, I.len⟩
theorem SP.uncaught {a : Addr} {f : Flow} (hd : X.calm = true → X.A.handled = none) (h : SP (X.caught a) pins D f s) : SP X pins D f s := by
  cases f with
  | next => obtain ⟨σ', H', I, q⟩ := h; exact ⟨σ', H', I.uncaught hd, q⟩
  | brk => obtain ⟨σ', H', I, q⟩ := h; exact ⟨σ', H', I.uncaught hd, q⟩
  | cont => obtain ⟨σ', H', I, q⟩ := h; exact ⟨σ', H', I.uncaught hd, q⟩
  | ret u => obtain ⟨v, σ', H', I, r, q⟩ := h; exact ⟨v, σ', H', I.uncaught hd, r, q⟩
/-- a flying exception, seen from the body that called: the body's state -/
theorem Inv.seen {a : Addr} {cls : Value} {B : Heap} (I : Inv X pins σ H1 s1) (F : Fly X.prog X.w X.stack H1 s1.heap a cls H' s'.heap B) (os : s'.os = s1.os) (bare : AllBare s'.gens) : Inv X pins σ H' s' :=
  I.call' (ch := []) os (F.un I.stkFree) F.held bare fun b z => nomatch z
theorem Inv.stkData (I : Inv X pins σ H1 s1) : ∀ b ∈ frs X.stack, ∀ o, s1.heap.get? b = some o → ∀ vs, o.data ≠ .fields vs := fun b hb o q => by
  obtain ⟨_, o', e', d⟩ := I.stack.mem hb
  rw [q] at e'
  cases e'
  exact d
theorem Inv.catch (I : Inv X pins σ H1 s1) (hs : X.stack = X.env :: X.outer) (hf : X.env.frame = some X.env.locals) (hq : CXF X.prog X.w X.stack H1 s1 (fun cls _ H2 => PySem.W.exmOne X.K cls cv = some true ∧ ts D σ H2) e s')
    (hsu : ∀ a, PSs (X.caught a) (b₀ :: suite) ts) (hc : Gl X c) (hcm : X.mg c = some cv) (hdb : (c == ("__debug__" : Str)) = false) :
    wpAny (model X.prog X.w) X.A (noteFrame e X.env) (fun _ s₂ => wpAny (model X.prog X.w) X.A (setFlight e none) (fun _ s₃ => wpAny (model X.prog X.w) X.A (handleBy e X.env [.ExceptHandler (some (.Name c cp)) none (b₀ :: suite) hpos]) (SP X pins D) X.xe s₃) X.xe s₂) X.xe s' := by
  obtain ⟨a, cls, H2, B, rfl, os, bare, F, hm, ht⟩ := hq
  obtain ⟨a0, fl⟩ := F.fl
  have nf := I.stkData
  have fl' := fl
  rw [hs] at fl'
  have hfr := I.ok.frames
  rw [hs] at hfr
  refine wpAny_looks_onW hfr hf fl' fun h₄ held sm4 => wpAny_landsW held fun h₅ fl5 sm5 => ?_
  rw [← hs] at fl5
  have F5 := F.on ⟨a0, fl5⟩ nf (sm4.trans sm5)
  have I5 : Inv X pins σ H2 { s' with heap := h₅ } := I.seen (s' := { s' with heap := h₅ }) F5 os bare
  have I5c := I5.caught a
  refine wpAny_handleBy_cons (codeAny_handlers_test (ld_glob I5c hc hcm ?_ hdb)) (by intro q; cases q)
  obtain ⟨ob, hob, hcl⟩ := fl5.there
  have LT : PySem.W.Looks (model X.prog X.w) h₅ (typeOf (.ref a)) cls := by
    subst hcl
    exact (PySem.W.Looks.ld hob).andThen .now
  refine PySem.W.exm_one (K := X.K) (h := h₅) I5.kIn LT hm _ _ _ _ (fun _ _ z => z) ?_
  refine codeAny_handlers_suite ?_
  refine lands_againW fl5 fun h₆ fl6 sm6 => ?_
  have F6 := F5.on ⟨a0, fl6⟩ nf sm6
  have I6 : Inv X pins σ H2 { s' with heap := h₆ } := I.seen (s' := { s' with heap := h₆ }) F6 os bare
  refine wpAny_mono (hsu a pins _ σ H2 D (I6.caught a) ht) (fun f s₂ z => z.uncaught I.ok.hd) fun _ _ z => z.elim
end
def tTry (K : PySem.W.Frag) (cv : Value) (sp : Sp) (t : TA) (i : Nat) (ts : TS) : TS := fun D σ H => t σ H fun vs H1 => sp (vs ++ []) H1 (fun v H2 => D.nx (σ.set i (some v)) H2) (fun cls _ H2 => PySem.W.exmOne K cls cv = some true ∧ ts D σ H2)
section
variable {g : Gx} {X : Cx} {k j i : Nat} {x f c : Str} {ps : List Str} {sp : Sp} {e : Expr} {es : List Expr} {t : TA} {ts : TS} {b₀ : Stmt} {suite : List Stmt} {cv : Value} {fp px cp hpos apos cpos pos : Pos}
end
end L2
namespace L2
open PySem PySem.Spec PyProof.Rows
/-! ### enumerate, over a tuple, or from a number on -/
def Ite' (k : Nat) (G : Hp → List V → Prop) : It :=
  ⟨fun i H => ∃ xs x, G H xs ∧ xs[i]? = some x, fun i H v H' => ∃ T, v = .ref T ∧ H T = none ∧ ∀ xs x, G H xs → xs[i]? = some x → H' = upd H T (.tup [.int ((i + k : Nat) : Int), x]), fun i H => ∃ xs, G H xs ∧ xs.length = i⟩
theorem draws_shift {P : Program} {w : World} {A : Around} {it : Addr} {fp : List Addr} {n : Nat} {R : Nat → Value → Prop} {St : Nat → Heap → Prop} (D : Draws P w A it fp n R St) (k : Nat) :
    Draws P w A it fp (n + k) (fun i v => ∃ j, i = j + k ∧ R j v) (fun i h => ∃ j, i = j + k ∧ St j h) where
  live := fun i h ⟨j, _, st⟩ => D.live j h st
  frame := fun i h h' ⟨j, e, st⟩ q => ⟨j, e, D.frame j h h' st q⟩
  item := fun i s Q E hi ⟨j, e, st⟩ hQ => by
    subst e
    exact D.item j s Q E (by omega) st fun x h' tk p st' sb => hQ x h' tk ⟨j, rfl, p⟩ ⟨j + 1, by omega, st'⟩ sb
  done := fun s Q E ⟨j, e, st⟩ hE => by
    have : j = n := by omega
    subst this
    exact D.done s Q E st hE
theorem turn_enum {P : Program} {w : World} {K : PySem.W.Frag} {elts : List Expr} {kk : Nat} {pos : Pos} {a e it : Addr} {k : Nat} {G : Hp → List V → Prop} {inner : Nat → Heap → Prop} (ne : e ≠ it) (na : e ≠ a)
    (obj : ∀ i h, inner i h → ∃ o, h.get? it = some o ∧ ∀ v, o.data ≠ .cell v) (keep : ∀ i h h', inner i h → (∀ o, h.get? it = some o → h'.get? it = some o) → inner i h')
    (inj : ∀ (X : Cx) pins σ H s xs ys, X.prog = P → X.w = w → X.K = K → Inv X pins σ H s → G H xs → G H ys → xs = ys)
    (dr : ∀ (X : Cx) pins σ H s xs i, X.prog = P → X.w = w → X.K = K → X.calm = true → Inv X pins σ H s → G H xs → inner i s.heap → ∃ its : List Value, Vals xs its ∧ ∃ St : Nat → Heap → Prop, Draws P w X.A.in1 it [it, a] its.length (fun i v => its[i]? = some v) St ∧ St i s.heap ∧ ∀ i h, St i h → inner i h) :
    Turn P w K (.Tuple elts kk pos) (Ite' k G) [e, it] e (fun i h => (∃ old, IsEnum h e it ((i + k : Nat) : Int) old) ∧ inner i h) where
  mem := by simp
  obj := fun i h ⟨⟨old, he⟩, hi⟩ c hc => by
    simp only [List.mem_cons, List.not_mem_nil, or_false] at hc
    rcases hc with rfl | rfl
    · exact ⟨_, he, fun v z => by cases z⟩
    · exact obj i h hi
  keep := fun i h h' ⟨⟨old, he⟩, hi⟩ q => ⟨⟨old, q e (by simp) _ he⟩, keep i h h' hi fun o z => q it (by simp) o z⟩
  item := by
    intro X hP hw hK hc i pins s σ H E I hf ⟨⟨old, he⟩, hi⟩ hg
    obtain ⟨xs, x, g1, hx⟩ := hg
    obtain ⟨its, rv, St, D, hst, hin⟩ := dr X pins σ H s xs i hP hw hK hc I g1 hi
    subst hP hw hK
    have hlen := rv.length
    have hil : i < xs.length := (List.getElem?_eq_some_iff.mp hx).1
    refine wpAny_pyNext_enum_itemD (draws_shift D k) he ⟨i, rfl, hst⟩ (by omega) ne (fun z => ?_) fun u h1 tk hu ho hi1 hT hsz kp => ?_
    · simp only [List.mem_cons, List.not_mem_nil, or_false] at z
      rcases z with z | z
      · exact ne z
      · exact na z
    refine ⟨_, rfl, ?_⟩
    refine wpAny_letOwnedTupleGo_enum (s := { s with heap := h1, toks := tk + 1 }) ho fun h2 he2 sb => ?_
    have elt : e < s.heap.objs.size := Heap.lt_size he
    have ilt : it < s.heap.objs.size := by obtain ⟨o, q, _⟩ := obj i _ hi; exact Heap.lt_size q
    have kp2 : ∀ c o, c ∉ [e, it] → s.heap.get? c = some o → h2.get? c = some o := fun c o hm z => by
      have c1 : c ≠ e := fun q => hm (by simp [q])
      have c2 : c ≠ it := fun q => hm (by simp [q])
      exact sb.extBut c o c1 (kp c o c1 c2 z)
    obtain ⟨j, ej, hu⟩ := hu
    have ej : j = i := by omega
    subst ej
    obtain ⟨u', hu', ru⟩ := rv.get hx
    rw [hu] at hu'
    cases hu'
    have hT2 : h2.get? s.heap.objs.size = some { cls := .type "tuple", data := .seq #[.int ((j + k : Nat) : Int) tk, u] } := sb.extBut _ _ (Nat.ne_of_gt elt) hT
    have I' := I.turnedT (t' := tk + 1) (h' := h2) (T := s.heap.objs.size) (vs := [.int ((j + k : Nat) : Int), x]) kp2 hf (Nat.le_refl _) (show ObjOk X.prog X.w _ h2 _ (.tup [.int ((j + k : Nat) : Int), x]) from ⟨by show 2 ≤ sizeLine; decide, [.int ((j + k : Nat) : Int) tk, u], .cons ⟨_, rfl⟩ (.cons ru .nil), _, hT2, rfl, _, rfl⟩)
    have fresh : H s.heap.objs.size = none := I.hok.fresh (Nat.le_refl _)
    obtain ⟨j', ej', st'⟩ := hi1
    have ej' : j' = j + 1 := by omega
    subst ej'
    refine ⟨.ref s.heap.objs.size, _, I', rfl, ⟨_, rfl, fresh, fun xs' x' g1' hx' => ?_⟩, ⟨⟨u, ?_⟩, keep _ _ _ (hin _ _ st') fun o z => sb.extBut _ _ (Ne.symm ne) z⟩, fun c hm => ?_⟩
    · rw [inj X pins σ H s _ _ rfl rfl rfl I g1' g1, hx] at hx'
      cases hx'
      rfl
    · have e2 : (((j + 1 + k : Nat)) : Int) = ((j + k : Nat) : Int) + 1 := by omega
      rw [e2]
      simpa using he2
    · have h0 := (hf c hm).1
      have clt : c < s.heap.objs.size := by
        simp only [List.mem_cons, List.not_mem_nil, or_false] at hm
        rcases hm with rfl | rfl
        · exact elt
        · exact ilt
      rw [upd_ne (Nat.ne_of_lt clt)]
      exact h0
  done := by
    intro X hP hw hK hc i pins s σ H E I hf ⟨⟨old, he⟩, hi⟩ hg
    obtain ⟨xs, g1, hx⟩ := hg
    obtain ⟨its, rv, St, D, hst, hin⟩ := dr X pins σ H s xs i hP hw hK hc I g1 hi
    subst hP hw hK
    have hlen := rv.length
    obtain ⟨f0, f1, f2, f3, f4, f5⟩ := hf it (by simp)
    exact wpAny_pyNext_enum_endD (draws_shift D k) he ⟨i, by omega, hst⟩ fun h' eb => ⟨rfl, I.turned (t' := s.toks) (fun b o hb z => eb b o hb z) f0 f1 f3 f4 f5⟩
  self := fun _ _ _ _ _ ⟨⟨_, he⟩, _⟩ h => wpAny_pyIter_enum he h

section
variable {prog : Program} {w : World} {A : Around} {E : Value → Shared → Prop} {s : Shared}
theorem nextT_item {it t : Addr} {i : Nat} {its : Array Value} {x : Value} {Q : Value → Shared → Prop} (hit : IsTupIter s.heap it t i) (ht : IsTup s.heap t its) (hx : its[i]? = some x)
    (hQ : ∀ h', IsTupIter h' it t (i + 1) → Heap.SameBut it s.heap h' → Q x { s with heap := h' }) : wpAny (model prog w) A (Builtin.SmallTypes.nextOf (.ref it)) Q E s := by
  have hT := hit.typeIs
  obtain ⟨o, ho, hc, hd⟩ := hit
  obtain ⟨ot, hot, _, nt, hdt⟩ := ht
  unfold Builtin.SmallTypes.nextOf
  refine wpAny_bind (wpAny_callSpecial?_slot (name := Str.ofString "__next__") hT slot_tupleiter_next (wpAny_call_entry slot_tupleiter_next hT entry_tupleiter_next ?_ (args_tupleiter_next _)))
  change wpAny _ _ (field (.ref it) 0 >>= _) _ _ s
  refine wpAny_bind (wpAny_field (x := .ref t) ho hd rfl ?_)
  change wpAny _ _ (if (Value.ref t == Value.none) = true then _ else _) _ _ s
  rw [if_neg (show ¬ (Value.ref t == Value.none) = true from Bool.false_ne_true)]
  change wpAny _ _ (field (.ref it) 1 >>= _) _ _ s
  refine wpAny_bind (wpAny_field (x := .int i 0) ho hd rfl ?_)
  change wpAny _ _ (seqItems? (.ref t) >>= _) _ _ s
  refine wpAny_bind (wpAny_seqItems hot hdt ?_)
  simp only [hx, Int.toNat_natCast]
  refine wpAny_bind (wpAny_setField ho hd (by simp) (wpAny_pure ⟨x, rfl, wpAny_pure (hQ _ ⟨_, Heap.get?_update_self _ ho (Obj.isFreed_of_fields (Obj.data_mapFields hd _)), (Obj.cls_mapFields ..).trans hc, ?_⟩ (Heap.SameBut.update ..))⟩))
  rw [Obj.data_mapFields hd]
  simp [rawInt]
theorem nextT_end {it t : Addr} {i : Nat} {its : Array Value} {Q : Value → Shared → Prop} (hh : A.handled = none) (hit : IsTupIter s.heap it t i) (ht : IsTup s.heap t its) (hx : its[i]? = none)
    (hE : ∀ h' e, Heap.ExtBut it s.heap h' → (∃ o, h'.get? e = some o ∧ o.cls = .type "StopIteration") → E (.ref e) { s with heap := h' }) : wpAny (model prog w) A (Builtin.SmallTypes.nextOf (.ref it)) Q E s := by
  have hT := hit.typeIs
  obtain ⟨o, ho, hc, hd⟩ := hit
  obtain ⟨ot, hot, _, nt, hdt⟩ := ht
  unfold Builtin.SmallTypes.nextOf
  refine wpAny_bind (wpAny_callSpecial?_slot (name := Str.ofString "__next__") hT slot_tupleiter_next (wpAny_call_entry slot_tupleiter_next hT entry_tupleiter_next ?_ (args_tupleiter_next _)))
  change wpAny _ _ (field (.ref it) 0 >>= _) _ _ s
  refine wpAny_bind (wpAny_field (x := .ref t) ho hd rfl ?_)
  change wpAny _ _ (if (Value.ref t == Value.none) = true then _ else _) _ _ s
  rw [if_neg (show ¬ (Value.ref t == Value.none) = true from Bool.false_ne_true)]
  change wpAny _ _ (field (.ref it) 1 >>= _) _ _ s
  refine wpAny_bind (wpAny_field (x := .int i 0) ho hd rfl ?_)
  change wpAny _ _ (seqItems? (.ref t) >>= _) _ _ s
  refine wpAny_bind (wpAny_seqItems hot hdt ?_)
  simp only [hx, Int.toNat_natCast]
  refine wpAny_bind (wpAny_rule (wpAny_bind (wpAny_setField ho hd (by simp) ?_)))
  change wpAny _ _ (newExc (.type "StopIteration") [] >>= _) _ _ _
  refine wpAny_bind ?_
  simp only [newTuple, newExc]
  refine wpAny_bind (wpAny_newObj_type ?_ (by size_fits))
  refine wpAny_bind (m := firstArgMember _ _) (wpAny_of_eq (a := Value.none) (by first | (simp only [firstArgMember]; rfl) | rfl) ?_)
  refine wpAny_newObj_type ?_ (by size_fits)
  simp only [raiseNew]
  refine wpAny_bind (wpAny_handled ?_)
  first | rw [hh] | rw [show A.in1.handled = none from hh]
  exact wpAny_bind (wpAny_pure (wpAny_throw (hE _ _ (((Heap.SameBut.update ..).extBut.push _).push _) ⟨_, Heap.get?_push_size _ rfl, rfl⟩)))
theorem draws_tup (hh : A.handled = none) (it t : Addr) (ne : t ≠ it) (its : Array Value) : Draws prog w A it [it, t] its.size (fun i v => its[i]? = some v) (fun i h => IsTupIter h it t i ∧ IsTup h t its) where
  live := fun _ _ st => let ⟨o, ho, _⟩ := st.1; ⟨o, ho⟩
  frame := fun _ _ _ st hk => ⟨let ⟨o, ho, r⟩ := st.1; ⟨o, hk it (by simp) o ho, r⟩, let ⟨o, ho, r⟩ := st.2; ⟨o, hk t (by simp) o ho, r⟩⟩
  item := fun i s Q E hi st hQ => by
    refine nextT_item st.1 st.2 (x := its[i]) (by simp [hi]) fun h' hit' hs' => ?_
    exact hQ _ h' s.toks (by simp [hi]) ⟨hit', let ⟨o, ho, r⟩ := st.2; ⟨o, hs'.extBut t o ne ho, r⟩⟩ hs'
  done := fun s Q E st hE => nextT_end hh st.1 st.2 (by simp) hE
open AutoSeq1 (wpAny_loadPart') in
theorem meets_enumT (l : Addr) (o : Obj) (its : Array Value) (n : Nat) (hc : o.cls = .type "tuple") (hd : o.data = .seq its n) :
    Meets (Builtin.«enumerate.__new__» ⟨[.type "enumerate", .ref l], []⟩) (fun _ R s => s.heap.get? l = some o ∧
      R (.ok (.ret (.ref (s.heap.push { cls := .type "tuple_iterator", data := .fields #[.ref l, .int 0 0] }).objs.size)))
        { s with heap := (s.heap.push { cls := .type "tuple_iterator", data := .fields #[.ref l, .int 0 0] }).push { cls := .type "enumerate", data := .fields #[.none, .bool false, .ref s.heap.objs.size, rawInt 0, .none, .none] } }) :=
  .of_wp fun prog w A R s h => by
    obtain ⟨hp, g, d, tk, os⟩ := s
    obtain ⟨hl, h⟩ := h
    have hsub := sub_enumerate
    have hL : IsTup (Shared.heap ⟨hp, g, d, tk, os⟩) l its := ⟨o, hl, hc, n, hd⟩
    wp_walk using wpAny_loadPart' hl
    refine wpAny_stack_any fun st => wpAny_pure ?_
    split
    · rename_i c _ _ _ _ _
      cases (c == Value.type "enumerate")
      · wp_walk using wpAny_loadPart' hl, iter_tuple hL
        exact ⟨_, rfl, h⟩
      · wp_walk using wpAny_loadPart' hl, iter_tuple hL
        exact ⟨_, rfl, h⟩
    · wp_walk using wpAny_loadPart' hl, iter_tuple hL
      exact ⟨_, rfl, h⟩
theorem call_enumT {l : Addr} {its : Array Value} {Q : Value → Shared → Prop} (hL : IsTup s.heap l its)
    (h : ∀ h', IsEnum h' (s.heap.objs.size + 1) s.heap.objs.size 0 .none → IsTupIter h' s.heap.objs.size l 0 → (∀ b o, s.heap.get? b = some o → h'.get? b = some o) → Q (.ref (s.heap.objs.size + 1)) { s with heap := h' }) :
    wpAny (model prog w) A (call (.type "enumerate") [.ref l]) Q E s := by
  obtain ⟨o, hl, hc, n, hd⟩ := hL
  refine callType_new F.called_enumerate (by decide) (F.typeCall_enumerate_1 _) (F.newCall_enumerate_1 _) (fun obj => F.args_object_init_2 obj _) F.entry_enumerate_new (meets_enumT l o its n hc hd) ⟨hl, ?_⟩
  have hz : (s.heap.push { cls := .type "tuple_iterator", data := .fields #[.ref l, .int 0 0] }).objs.size = s.heap.objs.size + 1 := Heap.size_push ..
  change _ ∧ _
  rw [hz]
  have he : IsEnum ((s.heap.push { cls := .type "tuple_iterator", data := .fields #[.ref l, .int 0 0] }).push { cls := .type "enumerate", data := .fields #[.none, .bool false, .ref s.heap.objs.size, rawInt 0, .none, .none] }) (s.heap.objs.size + 1) s.heap.objs.size 0 .none := by
    have z := Heap.get?_push_size (s.heap.push { cls := .type "tuple_iterator", data := .fields #[.ref l, .int 0 0] }) (o := { cls := .type "enumerate", data := .fields #[.none, .bool false, .ref s.heap.objs.size, rawInt 0, .none, .none] }) rfl
    rw [hz] at z
    exact z
  exact ⟨⟨_, he, rfl⟩, h _ he ⟨_, Heap.get?_push_of_some _ (Heap.get?_push_size _ rfl), rfl, rfl⟩ fun b o x => Heap.get?_push_of_some _ (Heap.get?_push_of_some _ x)⟩
end
section
variable {X : Cx} {elts : List Expr} {kk : Nat} {tpos : Pos}
theorem turn_enumT {P : Program} {w : World} {K : PySem.W.Frag} {pos : Pos} {a e it : Addr} (ne : e ≠ it) (na : e ≠ a) (nt : a ≠ it) :
    Turn P w K (.Tuple elts kk pos) (Ite' 0 fun H xs => SqT K H a xs) [e, it] e (fun i h => (∃ old, IsEnum h e it ((i + 0 : Nat) : Int) old) ∧ IsTupIter h it a i) := by
  refine turn_enum ne na (fun i h ⟨o, q, _, d⟩ => ⟨o, q, fun v z => by rw [d] at z; cases z⟩) (fun i h h' ⟨o, q, r⟩ k => ⟨o, k o q, r⟩) (fun X pins σ H s xs ys hP hw hK I g1 g2 => ?_) (fun X pins σ H s xs i hP hw hK hc I g1 hi => ?_)
  · subst hP hw hK
    exact I.tuple_inj g1 g2
  · subst hP hw hK
    obtain ⟨its, rv, pl, hz⟩ := I.tuple g1
    refine ⟨its, rv, fun i h => IsTupIter h it a i ∧ IsTup h a its.toArray, by simpa using draws_tup (prog := X.prog) (w := X.w) (A := X.A.in1) (I.ok.hd hc) it a nt its.toArray, ⟨hi, pl⟩, fun i h st => st.1⟩
def iEnumT (K : PySem.W.Frag) (ta : TA) : TI := fun σ H R => ta σ H fun vs H1 => ∃ a xs, vs = [.ref a] ∧ SqT K H1 a xs ∧ R (Ite' 0 fun H xs => SqT K H a xs) H1
theorem pi_enumT {a : Expr} {ta : TA} {p pos : Pos} (hg : Gl X "enumerate") (hm : X.mg "enumerate" = none) (ha : PA X [a] ta) (hs : starEach [a] X.env = [(false, eval a X.env)] := by rfl) :
    PI X (.Tuple elts kk tpos) (.Call (.Name "enumerate" p) [a] [] pos) (iEnumT X.K ta) := by
  intro pins s σ H R I h
  refine Call_ (ld_blt I hg hm boot_enumerate (PyProof.Rows.callWith_type1 (thn (ha pos pins s σ H _ I h) fun us s1 hz => ?_) hs rfl))
  obtain ⟨vs, H1, I1, r1, x, xs, e, hx, q⟩ := hz
  subst e
  obtain ⟨u, rfl, ru⟩ := vals1 r1
  cases ru
  obtain ⟨i1, _, pl, _⟩ := I1.tuple hx
  have l1 : x < s1.heap.objs.size := by obtain ⟨_, e, _⟩ := pl; exact Heap.lt_size e
  refine call_enumT pl fun h' he hi keep => ?_
  refine wpAny_pyIter_enum he ?_
  have I2 : Inv X pins σ H1 { s1 with heap := h' } := I1.kept (t' := s1.toks) keep
  have l1' : @LT.lt Nat _ x s1.heap.objs.size := l1
  refine ⟨_, [s1.heap.objs.size + 1, s1.heap.objs.size], _, _, H1, rfl, I2, turn_enumT (by intro z; have z' : @Eq Nat _ _ := z; omega) (by intro z; have z' : @Eq Nat _ _ := z; omega) (by intro z; have z' : @Eq Nat _ _ := z; omega), ⟨⟨_, he⟩, hi⟩, fun c hc => ?_, q⟩
  have hle : s1.heap.objs.size ≤ c := by
    simp only [List.mem_cons, List.not_mem_nil, or_false] at hc
    rcases hc with e | e <;> (have e' : @Eq Nat _ _ := e; show @LE.le Nat _ s1.heap.objs.size c; omega)
  exact I1.fpOk hle (I1.hok.fresh hle)
end
/-! ### loops over it -/
section
variable {g : TG} {tb : TS} {D : Ends} {σ : St} {H : Hp}
theorem for_enum {k : Nat} {G : Hp → List V → Prop} {xs : List V} (Pv : Nat → St → Hp → Prop) (h0 : Pv 0 σ H) (hl : ∀ i σ H, i ≤ xs.length → Pv i σ H → G H xs)
    (hs : ∀ i x σ H T, xs[i]? = some x → Pv i σ H → H T = none → g (.ref T) σ (upd H T (.tup [.int ((i + k : Nat) : Int), x])) fun σ2 H2 => tb { D with nx := Pv (i + 1), ct := Pv (i + 1), bk := D.nx } σ2 H2) (hd : ∀ σ H, Pv xs.length σ H → D.nx σ H) :
    ∃ W : Nat → Nat → St → Hp → Prop, (∃ m, W 0 m σ H) ∧ ∀ i m σ H, W i m σ H →
      ((Ite' k G).stop i H ∧ D.nx σ H) ∨ ((Ite' k G).go i H ∧ ∃ N : St → Hp → Prop, (∀ σ' H', N σ' H' → ∃ m', m' < m ∧ W (i + 1) m' σ' H') ∧ ∀ x H', (Ite' k G).yld i H x H' → g x σ H' fun σ2 H2 => tb { D with nx := N, ct := N, bk := D.nx } σ2 H2) := by
  refine ⟨fun i m σ H => m = xs.length - i ∧ i ≤ xs.length ∧ Pv i σ H, ⟨xs.length, by simp, Nat.zero_le _, h0⟩, ?_⟩
  rintro i m σ H ⟨rfl, hi, p⟩
  have q := hl i σ H hi p
  by_cases hlt : i < xs.length
  · have hx : xs[i]? = some xs[i] := List.getElem?_eq_getElem hlt
    refine .inr ⟨⟨xs, _, q, hx⟩, Pv (i + 1), fun σ' H' p' => ⟨xs.length - (i + 1), by omega, rfl, hlt, p'⟩, ?_⟩
    rintro v H' ⟨T, rfl, hT, heq⟩
    have e := heq xs _ q hx
    subst e
    exact hs i _ σ H T hx p hT
  · have e : i = xs.length := by omega
    subst e
    exact .inl ⟨⟨xs, q, rfl⟩, hd σ H p⟩
theorem tFor_enumT {K : PySem.W.Frag} {ta : TA} {a : Addr} {xs : List V} (Pv : Nat → St → Hp → Prop) (ha : ∀ R : List V → Hp → Prop, R [.ref a] H → ta σ H R) (h0 : Pv 0 σ H) (hl : ∀ i σ H, i ≤ xs.length → Pv i σ H → SqT K H a xs)
    (hs : ∀ i x σ H T, xs[i]? = some x → Pv i σ H → H T = none → g (.ref T) σ (upd H T (.tup [.int (i : Int), x])) fun σ2 H2 => tb { D with nx := Pv (i + 1), ct := Pv (i + 1), bk := D.nx } σ2 H2) (hd : ∀ σ H, Pv xs.length σ H → D.nx σ H) : tFor (iEnumT K ta) g tb D σ H := by
  refine ha _ ⟨a, xs, rfl, hl 0 σ H (Nat.zero_le _) h0, ?_⟩
  exact for_enum Pv h0 hl (fun i x σ H T hx p hT => hs i x σ H T hx p hT) hd
end
end L2
namespace L2
open PySem PySem.Spec PyProof.Rows
/-! ### enumerate(xs, start=1) -/
section
variable {prog : Program} {w : World} {A : Around} {E : Value → Shared → Prop} {s : Shared}
open AutoSeq1 (wpAny_loadPart') in
end
end L2
namespace L2
open PySem PySem.Spec PyProof.Rows
section
variable {X : Cx} {elts : List Expr} {kk : Nat} {tpos : Pos}
def iEnum1 (K : PySem.W.Frag) (ta : TA) : TI := fun σ H R => ta σ H fun vs H1 => ∃ a xs, vs = [.ref a] ∧ SqL K H1 a xs ∧ R (Ite' 1 fun H xs => SqL K H a xs) H1
end
section
variable {g : TG} {tb : TS} {D : Ends} {σ : St} {H : Hp}
end
/-! ### range(a, b, c), c above 0 -/
section
variable {X : Cx} {tg : Expr}
/-- lo, lo + c, .., n of them -/
def Itu (lo c : Int) (n : Nat) : It := ⟨fun i _ => i < n, fun i H v H' => v = .int (lo + i * c) ∧ H' = H, fun i _ => n ≤ i⟩
def iRngU (ta : TA) : TI := fun σ H R => ta σ H fun vs H1 => ∃ i j c : Int, vs = [.int i, .int j, .int c] ∧ (-(2 ^ 60) ≤ i ∧ i < 2 ^ 60 ∧ -(2 ^ 60) ≤ j ∧ j < 2 ^ 60 ∧ 0 < c ∧ c < 2 ^ 29) ∧ R (Itu i c (Builtin.Range.rangeSize i j c).toNat) H1
end
end L2
namespace L2
open PySem PySem.Spec PyProof.Rows
/-! ### an exception that was caught by a name: a thing of the heap -/
def ExcO (a : Addr) (cls : Value) : HO := .ext fun h => ∃ o vs, h.get? a = some o ∧ o.cls = cls ∧ o.data = .fields vs
section
variable {P : Program} {w : World} {l : List Env} {H H' : Hp} {h h' h'' B : Heap} {a e : Addr} {cls : Value} {o : HO}
theorem ObjOk.alive (x : ObjOk P w H h a o) : ∃ u, h.get? a = some u := by
  cases o with
  | lst xs => obtain ⟨_, _, _, _, e⟩ := x; exact ⟨_, e⟩
  | tup xs => obtain ⟨_, _, _, u, e, _⟩ := x; exact ⟨_, e⟩
  | dK kvs => obtain ⟨_, _, _, _, o, _, _, e, _⟩ := x; exact ⟨_, e⟩
  | dT kvs => obtain ⟨_, _, _, _, o, _, _, e, _⟩ := x; exact ⟨_, e⟩
  | set S n => obtain ⟨o, _, _, _, e, _⟩ := x; exact ⟨_, e⟩
  | ins C dx fs => obtain ⟨_, _, _, e, _⟩ := x; exact ⟨_, e⟩
  | own y => exact x
  | xd fs => obtain ⟨_, ⟨_, _, _, e, _⟩, _⟩ := x; exact ⟨_, e⟩
  | rng lo hi => obtain ⟨_, _, _, e⟩ := x; exact ⟨_, e⟩
  | frz ob u => obtain ⟨e, _⟩ := x; exact ⟨_, e⟩
  | tbl ps => exact ⟨_, (show h.get? a = some _ from x)⟩
  | met f y => exact ⟨_, (show h.get? a = some _ from x)⟩
  | ext φ => exact x.2.1
theorem Fly.new (F : Fly P w l H h e cls H' h' B) (hf : ∀ b ∈ frs l, H b = none) (nf : ∀ b ∈ frs l, ∀ o, h.get? b = some o → ∀ vs, o.data ≠ .fields vs) : h.get? e = none := by
  obtain ⟨a0, fl⟩ := F.fl
  cases q : h.get? e with
  | none => rfl
  | some o =>
    by_cases hb : e ∈ frs l
    · obtain ⟨sl, z⟩ := F.slot e o q (hf e hb) hb
      obtain ⟨oe, vs, z', _, d, _⟩ := fl.first
      rw [z] at z'
      cases z'
      exact absurd d (nf e hb o q vs)
    · obtain ⟨o', z⟩ := F.al e o q hb
      rw [fl.2.1] at z
      cases z
theorem Fly.out (F : Fly P w l H h e cls H' h' B) : H' e = none := by
  obtain ⟨a0, fl⟩ := F.fl
  cases q : H' e with
  | none => rfl
  | some u =>
    obtain ⟨o, z⟩ := (F.hok e u q).alive
    rw [fl.2.1] at z
    cases z
theorem Fly.track (F : Fly P w l H h e cls H' h' B) (hf : ∀ b ∈ frs l, H b = none) (nf : ∀ b ∈ frs l, ∀ o, h.get? b = some o → ∀ vs, o.data ≠ .fields vs) :
    Un (frs l) [] H (upd H' e (ExcO e cls)) h h' ∧ HOk P w (upd H' e (ExcO e cls)) h' := by
  have n1 := F.new hf nf
  have n2 := F.out
  have u := F.un hf
  have ok := F.held
  obtain ⟨a0, fl⟩ := F.fl
  refine ⟨⟨u.keep, u.slot, fun b o q n hx => ?_, u.there, fun b xs q => ?_, fun b o x q => ?_, fun b ps q => ?_⟩, fun b x q => ?_⟩
  · rw [upd_ne (fun z => by rw [z, n1] at q; cases q)]
    exact u.free b o q n hx
  · rw [upd_ne (ne_of_none (u.tups b xs q) n2)]
    exact u.tups b xs q
  · rw [upd_ne (ne_of_none (u.frzs b o x q) n2)]
    exact u.frzs b o x q
  · obtain ⟨m, z⟩ := u.tbls b ps q
    exact ⟨m, by rw [upd_ne (ne_of_none z n2)]; exact z⟩
  · by_cases hb : b = e
    · subst hb
      rw [upd_same] at q
      cases q
      obtain ⟨oe, vs, z1, z2, z3, _⟩ := fl.first
      exact ⟨⟨oe, vs, z1, z2, z3⟩, ⟨oe, z1⟩, fun h1 h2 p k => by obtain ⟨o, vs, y1, y2, y3⟩ := p; exact ⟨o, vs, k o y1, y2, y3⟩⟩
    · rw [upd_ne hb] at q
      exact (ok b x q).stay (fun c v _ r => r) (fun c r => by rw [upd_ne (ne_of_none r n2)]; exact r) fun c xs r => by rw [upd_ne (ne_of_none r n2)]; exact r
end
section
variable {X : Cx} {pins : List (Addr × Obj)} {σ : St} {H H' H1 : Hp} {s s1 s' : Shared}
/-- the name of an except clause is let go -/
theorem goes_ok {M : Model} {A : Around} {E : Value → Shared → Prop} {j : Nat} {n : Str} {pos : Pos} {Q : Unit → Shared → Prop} (I : Inv X pins σ H s) (hN : X.N.Nodup) (hj : X.N[j]? = some n) (hk : X.env.scope.names.lookup n = some .local)
    (h : ∀ s', Inv X pins (σ.set j none) H s' → Q () s') : wpAny M A (do bindName X.env n .none; unbindBehindTheSuite X.env n pos) Q E s := by
  obtain ⟨m, hn, hl⟩ := id I.loc
  have hcls : (X.env.scope.kind == .class || (X.env.scope.kind == .module && X.env.locals != X.env.globals)) = false := by rw [I.ok.kind]; rfl
  have cne := I.cne
  have tracked : ∀ {a : Addr} {h' : Heap}, (∃ o, s.heap.get? a = some o ∧ H a = none) → Heap.SameBut a s.heap h' → HOk X.prog X.w H h' := fun {a h'} ha hs b ob e => by
    obtain ⟨_, _, hfree⟩ := ha
    refine (I.hok b ob e).stay (fun c w' hc q => (hs.2 c ?_).trans q) (fun _ q => q) fun _ _ q => q
    rintro rfl
    rcases hc with rfl | hc
    · rw [hfree] at e; cases e
    · rw [hfree] at hc; cases hc
  refine wpAny_nameGoes_keeps hk hn hcls fun h' v hn' hs => ?_
  obtain ⟨oL, _, _, hoL, _⟩ := id hn
  refine h _ ⟨I.ok, I.os, I.bare, ⟨fun b o e n hb hx => ?_, fun b o e n hb hx => ?_, I.base.free, fun b o e hx => ?_, I.base.tups, I.base.frzs, I.base.tbls⟩, ⟨_, hn', fun i y v' e1 e2 e3 => ?_⟩, fun y c e => ?_, I.free, I.freeC, fun p hp => ?_, tracked ⟨oL, hoL, I.free⟩ hs, by simpa using I.len⟩
  · exact (hs.2 b (I.notL e)).trans (I.base.keep b o e n hb hx)
  · obtain ⟨sl, e1⟩ := I.base.slot b o e n hb hx
    exact ⟨sl, (hs.2 b (I.notL e)).trans e1⟩
  · obtain ⟨o', e1⟩ := I.base.there b o e hx
    exact ⟨o', (hs.2 b (I.notL e)).trans e1⟩
  · by_cases hji : i = j
    · subst hji
      rw [List.getElem?_set] at e2
      split at e2
      · split at e2 <;> cases e2
      · rename_i z; exact absurd rfl z
    · rw [List.getElem?_set_ne (Ne.symm hji)] at e2
      obtain ⟨u', r', q⟩ := hl i y v' e1 e2 e3
      refine ⟨u', r', ?_⟩
      rcases q with ⟨k, e⟩ | ⟨k, c, e, z⟩
      · refine .inl ⟨k, ?_⟩
        have : y ≠ n := fun e => hji (nodup_ix hN e1 (e ▸ hj))
        simp [this, e]
      · exact .inr ⟨k, c, e, z.sameBut hs (cne y c e)⟩
  · obtain ⟨w', z⟩ := I.cell y c e
    exact ⟨w', z.sameBut hs (cne y c e)⟩
  · obtain ⟨e, n, ne, nf, d⟩ := I.pin p hp
    exact ⟨(hs.2 p.1 ne).trans e, n, ne, nf, d⟩
end
/-- behind an except clause by a name: the name stands for nothing -/
def Ends.gone (D : Ends) (j : Nat) : Ends := { nx := fun σ H => D.nx (σ.set j none) H, rt := D.rt, bk := fun σ H => D.bk (σ.set j none) H, ct := fun σ H => D.ct (σ.set j none) H }
section
variable {X : Cx} {pins : List (Addr × Obj)} {σ : St} {H H' H1 : Hp} {s s1 s' : Shared} {e : Value} {D : Ends} {ts : TS} {b₀ : Stmt} {suite : List Stmt} {c n : Str} {cv : Value} {cp hpos : Pos} {j : Nat}
theorem Inv.catchAs (I : Inv X pins σ H1 s1) (hs : X.stack = X.env :: X.outer) (hf : X.env.frame = some X.env.locals) (hN : X.N.Nodup) (hj : X.N[j]? = some n) (hk : X.env.scope.names.lookup n = some .local)
    (hq : CXF X.prog X.w X.stack H1 s1 (fun cls _ H2 => PySem.W.exmOne X.K cls cv = some true ∧ ∀ a, H2 a = none → ts (D.gone j) (σ.set j (some (.ref a))) (upd H2 a (ExcO a cls))) e s')
    (hsu : ∀ a, PSs (X.caught a) (b₀ :: suite) ts) (hc : Gl X c) (hcm : X.mg c = some cv) (hdb : (c == ("__debug__" : Str)) = false) :
    wpAny (model X.prog X.w) X.A (noteFrame e X.env) (fun _ s₂ => wpAny (model X.prog X.w) X.A (setFlight e none) (fun _ s₃ => wpAny (model X.prog X.w) X.A (handleBy e X.env [.ExceptHandler (some (.Name c cp)) (some n) (b₀ :: suite) hpos]) (SP X pins D) X.xe s₃) X.xe s₂) X.xe s' := by
  obtain ⟨a, cls, H2, B, rfl, os, bare, F, hm, ht⟩ := hq
  obtain ⟨a0, fl⟩ := F.fl
  have nf := I.stkData
  have fl' := fl
  rw [hs] at fl'
  have hfr := I.ok.frames
  rw [hs] at hfr
  refine wpAny_looks_onW hfr hf fl' fun h₄ held sm4 => wpAny_landsW held fun h₅ fl5 sm5 => ?_
  rw [← hs] at fl5
  have F5 := F.on ⟨a0, fl5⟩ nf (sm4.trans sm5)
  have I5 : Inv X pins σ H2 { s' with heap := h₅ } := I.seen (s' := { s' with heap := h₅ }) F5 os bare
  have I5c := I5.caught a
  refine wpAny_handleBy_cons (codeAny_handlers_test (ld_glob I5c hc hcm ?_ hdb)) (by intro q; cases q)
  obtain ⟨ob, hob, hcl⟩ := fl5.there
  have LT : PySem.W.Looks (model X.prog X.w) h₅ (typeOf (.ref a)) cls := by
    subst hcl
    exact (PySem.W.Looks.ld hob).andThen .now
  refine PySem.W.exm_one (K := X.K) (h := h₅) I5.kIn LT hm _ _ _ _ (fun _ _ z => z) ?_
  refine codeAny_handlers_suite_as ?_
  refine lands_againW fl5 fun h₆ fl6 sm6 => ?_
  have F6 := F5.on ⟨a0, fl6⟩ nf sm6
  obtain ⟨u6, ok6⟩ := F6.track I.stkFree nf
  have I6 : Inv X pins σ (upd H2 a (ExcO a cls)) { s' with heap := h₆ } := I.call' (s' := { s' with heap := h₆ }) (ch := []) os u6 ok6 bare fun b z => nomatch z
  have I6c := I6.caught a
  refine store_ok (X := X.caught a) I6c hN hj (.inl hk) (v := .ref a) rfl (fun s7 I7 => ?_) (.inr hk)
  refine wpAny_mono (hsu a pins _ _ _ (D.gone j) I7 (ht a F6.out)) (fun f s8 z => ?_) fun _ _ z => z.elim
  have key : ∀ {σ' : St} {H' : Hp} {Q : St → Hp → Prop}, Inv (X.caught a) pins σ' H' s8 → Q (σ'.set j none) H' → ∀ {R : Unit → Shared → Prop}, (∀ s9, Inv X pins (σ'.set j none) H' s9 → R () s9) → wpAny (model X.prog X.w) X.A (do bindName X.env n .none; unbindBehindTheSuite X.env n hpos) R X.xe s8 :=
    fun {σ' H' Q} J _ {R} hR => goes_ok (J.uncaught I.ok.hd) hN hj hk hR
  cases f with
  | next => obtain ⟨σ', H', J, q⟩ := z; exact key (Q := fun _ _ => True) J trivial fun s9 J9 => ⟨_, _, J9, q⟩
  | brk => obtain ⟨σ', H', J, q⟩ := z; exact key (Q := fun _ _ => True) J trivial fun s9 J9 => ⟨_, _, J9, q⟩
  | cont => obtain ⟨σ', H', J, q⟩ := z; exact key (Q := fun _ _ => True) J trivial fun s9 J9 => ⟨_, _, J9, q⟩
  | ret u => obtain ⟨v, σ', H', J, r, q⟩ := z; exact key (Q := fun _ _ => True) J trivial fun s9 J9 => ⟨v, _, _, J9, r, q⟩
end
end L2
namespace L2
open PySem PySem.Spec PyProof.Rows
/-! ### try by a name; a def that is called within an except suite -/
def tTryAs (K : PySem.W.Frag) (cv : Value) (sp : Sp) (t : TA) (i j : Nat) (ts : TS) : TS := fun D σ H => t σ H fun vs H1 => sp (vs ++ []) H1 (fun v H2 => D.nx (σ.set i (some v)) H2) (fun cls _ H2 => PySem.W.exmOne K cls cv = some true ∧ ∀ a, H2 a = none → ts (D.gone j) (σ.set j (some (.ref a))) (upd H2 a (ExcO a cls)))
section
variable {g : Gx} {X : Cx} {k jj i j : Nat} {x f c n : Str} {ps : List Str} {sp : Sp} {e : Expr} {es : List Expr} {t : TA} {ts : TS} {b₀ : Stmt} {suite : List Stmt} {cv : Value} {fp px cp hpos apos cpos pos : Pos}
theorem ps_tryAs (F : g.FnX jj f ps sp) (hr : Room k X.A) (hN : X.N.Nodup) (hi : X.N[i]? = some x) (hx : Loc X.env.scope x) (hj : X.N[j]? = some n) (hk : X.env.scope.names.lookup n = some .local) (ha : PA X.nox (e :: es) t) (hcm : g.mg c = some cv) (hsu : ∀ a, PSs (X.caught a) (b₀ :: suite) ts)
    (hjk : jj ≤ k := by omega) (hX : X.gx = g := by rfl) (hs : X.stack = X.env :: X.outer := by rfl) (hf : X.env.frame = some X.env.locals := by rfl) (hg : Gl X f := by rfl) (hc : Gl X c := by rfl) (hdf : (f == ("__debug__" : Str)) = false := by decide) (hdb : (c == ("__debug__" : Str)) = false := by decide)
    (he : starEach (e :: es) X.env = (false, eval e X.env) :: starEach es X.env := by rfl) (hpl : (backTo cpos (starEach es X.env)).any (·.1) = false := by rfl)
    (hsw : swapsWith (.Call (.Name f fp) (e :: es) [] cpos) (some (.Name x px)) apos.line X.env = pure false := by rfl) (hfn : X.fn x = true ∨ X.env.scope.names.lookup x = some .local := by first | exact .inl rfl | exact .inr rfl) :
    PS X (.Try [.Assign [.Name x px] (.Call (.Name f fp) (e :: es) [] cpos) apos] [.ExceptHandler (some (.Name c cp)) (some n) (b₀ :: suite) hpos] [] [] pos) (tTryAs X.K cv sp t i j ts) := by
  subst hX
  intro pins s σ H D I h
  obtain ⟨fa, fd, F, b, kp, hm⟩ := F
  refine wpAny_Try_except ?_
  refine wpAny_execs_cons ?_
  refine wpAny_Assign_Name (thn (Q := EP X pins σ fun v H2 => D.nx (σ.set i (some v)) H2) ?_ fun v s1 hz => ?_) hsw
  · refine wpAny_Call_Name_kw (ld_glob I hg hm ?_ hdf)
    refine PySem.W.callWith_K (h₀ := X.base) I.ok.mod.kin kp (wpAny_mono (ha cpos pins s σ H _ (I.wish _) h) (fun us s1 hz => ?_) fun _ _ z => z.elim) he hpl
    obtain ⟨vs, H1, I1, r, q⟩ := hz
    have I1 := I1.unwish
    refine ⟨I1.kIn, ?_⟩
    have r2 : Vals (vs ++ []) (us ++ []) := r.append .nil
    have hl : (us ++ []).length = ps.length := by rw [← r2.length]; exact F.len _ _ _ _ q
    refine wpAny_call (codeAny_mono (F.run X.A X.stack s1 H1 ⟨us, []⟩ (us ++ []) (vs ++ []) _ _ (hr.mono hjk) I1.env0 (b s1 us I1.kIn hl) r2 q) fun r s' hq => ?_)
    cases r with
    | error e => exact I1.catchAs hs hf hN hj hk hq hsu hc hcm hdb
    | ok fl =>
      cases fl with
      | ret u => exact I1.after hq
      | next => exact False.elim hq
      | brk => exact False.elim hq
      | cont => exact False.elim hq
  · obtain ⟨y, H1, I1, r1, q1⟩ := hz
    exact store_ok I1 hN hi hx r1 (fun s2 I2 => wpAny_execs_nil (wpAny_execs_nil ⟨_, H1, I2, q1⟩)) hfn
end
/-- room, whatever is handled -/
structure RoomM (k : Nat) (A : Around) : Prop where
  dp : A.depth + 3 * k + 5 < recursionLimit
  un : A.units + 16 * k + 200 < cLine
theorem Room.m {k : Nat} {A : Around} (r : Room k A) (h : Option Value) : RoomM k (A.mark h) := ⟨r.dp, r.un⟩
theorem RoomM.mono {j k : Nat} {A : Around} (r : RoomM k A) (h : j ≤ k) : RoomM j A := ⟨by have := r.dp; omega, by have := r.un; omega⟩
theorem RoomM.deeper {k : Nat} {A : Around} (r : RoomM (k + 1) A) (env : Env) : RoomM k (A.deeper env) :=
  ⟨by have := r.dp; show A.depth + 1 + 3 * k + 5 < _; omega, by have := r.un; show A.units + 3 + 16 * k + 200 < _; omega⟩
structure FnOkM (P : Program) (w : World) (K : PySem.W.Frag) (mg : Str → Option Value) (base : Heap) (k : Nat) (f : Addr) (fd : FuncData) (ps : List Str) (sp : Sp) : Prop where
  len : ∀ vs H Q E, sp vs H Q E → vs.length = ps.length
  run : ∀ (A : Around) (outer : List Env) (s : Shared) (H : Hp) (args : Args) (us : List Value) (vs : List V) (Q : VK) (E : XK), RoomM k A → Env0 P w K mg base A outer s H → BindsTo s fd args (ps.zip us) → Vals vs us → sp vs H Q E →
    codeAny (model P w) A (.call (.ref f) args) (CR CX0 outer P w H s Q E) s
def Gx.FnM (g : Gx) (k : Nat) (x : Str) (ps : List Str) (sp : Sp) : Prop := ∃ f fd, FnOkM g.P g.w g.K g.mg g.base k f fd ps sp ∧ Binds g.K fd ps [] ∧ PySem.W.keepIn g.K (.ref f) = true ∧ g.mg x = some (.ref f)
abbrev Gx.cxM (g : Gx) (N : List Str) (qual : Str) (st : Stmt) (f : Addr) (cdv : Value) (A : Around) (outer : List Env) (s : Shared) (H : Hp) (E : XK) : Cx := { cxOf CX0 g.P g.w g.K g.mg g.base N qual (defScope st) f cdv A outer s H E with calm := false, xe := fun _ _ => False }
def BodyM (g : Gx) (k : Nat) (N : List Str) (qual : Str) (st : Stmt) (sp : Sp) : Prop := ∀ (f : Addr) (cdv : Value) (A : Around) (outer : List Env) (s : Shared) (H : Hp) (vs : List V) (Q : VK) (E : XK), RoomM k (g.cxM N qual st f cdv A outer s H E).A → sp vs H Q E →
  ∃ t, PSs (g.cxM N qual st f cdv A outer s H E) (defBody st) t ∧ t { nx := fun _ H' => Q .non H', rt := Q } (start N vs) H
section
variable {g : Gx} {k : Nat} {x qual : Str} {st : Stmt} {N ps : List Str} {sp : Sp}
theorem Gx.FnM.mono {j : Nat} (F : g.FnM j x ps sp) (h : j ≤ k) : g.FnM k x ps sp := by
  obtain ⟨f, fd, F, r⟩ := F
  exact ⟨f, fd, ⟨F.len, fun A outer s H args us vs Q E hr => F.run A outer s H args us vs Q E (hr.mono h)⟩, r⟩
end
section
variable {g : Gx} {X : Cx} {k j : Nat} {x : Str} {ps : List Str} {sp : Sp} {e : Expr} {es : List Expr} {t : TA} {p pos : Pos}
end
end L2
namespace PySem.W
open PySem PySem.Calls PyProof.Rows Builtin Builtin.ObjectAttr Builtin.Getset_descriptor
section
variable {prog : Program} {w : World} {A : Around} {E : Value → Shared → Prop} {K : Frag} {x C : Addr} {ox : Obj} {hh : Heap} {g : Array GenState} {d : Drawn} {t : Nat} {os : OsState}
end
end PySem.W
namespace L2
open PySem PySem.Spec PyProof.Rows
/-- what the text's exception class has from its line -/
structure ExcT (K : PySem.W.Frag) (C : Addr) : Prop where
  hd : PySem.W.hasDictIn K C = true
  hm : PySem.W.mroIn K C (.type "object") = some true
  hb : PySem.W.mroIn K C (.type "BaseException") = some true
  ha : PySem.W.findIn K (.ref C) "__class__" = some (some (.builtin "object.__class__"))
  hga : PySem.W.findIn K (.ref C) "__getattribute__" = some (some (.builtin "BaseException.__getattribute__"))
  hgt : PySem.W.findIn K (.ref C) "__getattr__" = some none
section
variable {X : Cx}
end
theorem caught_K {X : Cx} {a : Addr} : (X.caught a).K = X.K := rfl
end L2
namespace L2
open PySem PySem.Spec PyProof.Rows
end L2
namespace L2
open PySem PySem.Spec PyProof.Rows
section
variable {src : List (Option Nat)} {te : TE} {σ : St} {H : Hp} {Q : VK}
end
end L2
namespace L2
open PySem PySem.Spec PyProof.Rows
section
variable {X : Cx}
/-- the greatest of a list of ints -/
theorem call_max_ints (hc : X.calm = true := by rfl) : CallR X (.builtin "max") (fun xs H Q => ∃ (p : Addr) (ns : List Int), xs = [.ref p] ∧ SqL X.K H p (ns.map V.int) ∧ ns ≠ [] ∧ ∀ m, m ∈ ns → (∀ n ∈ ns, n ≤ m) → Q (.int m) H) := by
  intro pins s σ H xs us Q I r h
  obtain ⟨p, ns, rfl, hq, hne, q⟩ := h
  obtain ⟨u, rfl, rx⟩ := vals1 r
  cases rx
  obtain ⟨its, r', pl, hz⟩ := I.list hq
  have hi := intsAre_of r'
  have hl := pl.isList
  obtain ⟨xs, ex⟩ := hi.allInts.items
  rw [ex] at hl
  have e : xs.toList.map (·.1) = ns := by
    have h1 := nums_intItems (xs := xs)
    rw [← ex] at h1
    have h2 := hi.numsOf
    rw [← h1]
    exact h2
  have hsz : xs.size = ns.length := by rw [← e, List.length_map, Array.length_toList]
  have hpos : 0 < ns.length := List.length_pos_iff.mpr hne
  have hat : ∀ i, i < xs.size → ns[i]? = some (numAt xs i) := fun i h => by
    rw [← e, List.getElem?_map, Array.getElem?_toList, numAt, Array.getElem?_eq_getElem h]
    rfl
  refine max_intList (I.ok.hd hc) hl (by omega) fun v h' tk hv hk => ?_
  obtain ⟨b1, b2⟩ := argBest_gt (numAt xs) (xs.size - 1)
  generalize argBest (fun i j => decide (numAt xs i > numAt xs j)) (xs.size - 1) = w at b1 b2 hv
  obtain ⟨t, rfl⟩ := intItems_at hv
  refine ⟨.int _, H, I.kept (t' := tk) hk, ⟨t, rfl⟩, q _ (List.mem_of_getElem? (hat w (by omega))) fun n hn => ?_⟩
  obtain ⟨j, hj⟩ := List.mem_iff_getElem?.mp hn
  have hjl := (List.getElem?_eq_some_iff.mp hj).1
  have := hat j (by omega)
  rw [hj] at this
  have e2 : n = numAt xs j := Option.some.inj this
  rw [e2]
  exact b2 j (by omega)
end
end L2
namespace L2
open PySem PySem.Spec PyProof.Rows
section
variable {src : List (Option Nat)} {te : TE} {σ : St} {H : Hp} {Q : VK}
end
end L2
namespace L2
open PySem PySem.Spec PyProof.Rows
/-! the script itself as a list that + may read -/
def SqX (K : PySem.W.Frag) (H : Hp) (a : Addr) (xs : List V) : Prop := Rd H a (.lst xs) ∨ ∃ (its : Array Value) (n : Nat), K.lookup a = some { cls := .type "list", data := .seq its n } ∧ its.size ≤ sizeLine ∧ Vals xs its.toList
theorem SqX.of {K : PySem.W.Frag} {H : Hp} {a : Addr} {xs : List V} (h : H a = some (.lst xs)) : SqX K H a xs := .inl (.of h)
theorem SqX.keep {K : PySem.W.Frag} {H H' : Hp} {a : Addr} {xs : List V} (h : SqX K H a xs) (s : Same H H') : SqX K H' a xs := by
  rcases h with h | h
  · rcases h with h | ⟨o, h⟩
    · exact .inl (.inl (s _ _ h))
    · exact .inl (.inr ⟨o, s _ _ h⟩)
  · exact .inr h
section
variable {X : Cx}
def rCatX (K : PySem.W.Frag) : R2 := fun x y H Q => ∃ l b xs zs, x = .ref l ∧ y = .ref b ∧ SqX K H l xs ∧ SqX K H b zs ∧ xs.length + zs.length ≤ sizeLine ∧ ∀ p, H p = none → Q (.ref p) (upd H p (.lst (xs ++ zs)))
end
def spTrueX (K : PySem.W.Frag) : Sp := fun vs H Q _ => ∃ (a : Addr) (ns : List Int), vs = [.ref a] ∧ SqX K H a (ns.map V.int) ∧ ns.length ≤ 63 ∧ ∀ H', Q (.bl true) H'
end L2
namespace L2
open PySem PySem.Spec PyProof.Rows
/-! defs as values: a def's name as an argument, a call of what a name of one's own holds -/
def Gx.FnV (g : Gx) (k : Nat) (f : Addr) (ps : List Str) (sp : Sp) : Prop := ∃ fd, FnOk g.P g.w g.K g.mg g.base CX0 k f fd ps sp ∧ Binds g.K fd ps [] ∧ PySem.W.keepIn g.K (.ref f) = true
def tFn (g : Gx) (k : Nat) (ps : List Str) (sp : Sp) : TE := fun _ H Q => ∀ f, g.FnV k f ps sp → Q (.ref f) H
def tCallV (g : Gx) (k i : Nat) (t : TA) : TE := fun σ H Q => ∃ f ps sp, σ[i]? = some (some (.ref f)) ∧ g.FnV k f ps sp ∧ t σ H fun vs H1 => sp vs H1 Q E0
section
variable {X : Cx} {g : Gx} {k j i : Nat} {x : Str} {ps : List Str} {sp : Sp} {p pos : Pos} {e : Expr} {es : List Expr} {t : TA}
theorem Gx.Fn.up (F : g.Fn j x ps sp) (h : j ≤ k) : g.Fn k x ps sp := by
  obtain ⟨f, fd, F, b⟩ := F
  exact ⟨f, fd, F.mono h, b⟩
end
/-! the arguments of a call, one by one: for tuples and lists, said once (by rfl at the place it costs minutes) -/
theorem star_tup (es : List Expr) (x : Nat) (p : Pos) (es' : List Expr) (env : Env) : starEach (.Tuple es x p :: es') env = (false, eval (.Tuple es x p) env) :: starEach es' env := rfl
end L2
namespace L2
open PySem PySem.Spec PyProof.Rows
/-! isinstance(x, (T, U)); comprehensions over the pairs of two lists, two tuples, either -/
section
variable {X : Cx} {pins : List (Addr × Obj)} {σ : St} {H : Hp} {s : Shared} {A : Around} {E Q : Value → Shared → Prop}
end
section
variable {X : Cx}
end
section
variable {src : List (Option Nat)} {te : TE} {σ : St} {Q : VK}
variable {X : Cx} {H : Hp}
/-- an iteration over either of two kinds -/
def iOr (a b : TI) : TI := fun σ H R => a σ H R ∨ b σ H R
end
end L2
namespace L2
open PySem PySem.Spec PyProof.Rows
/-! ### < of data: ints and tuples of them, to any depth -/
mutual
/-- d < e, of which this is the answer -/
inductive LtR : PyData → PyData → Bool → Prop
  | int (i j : Int) : LtR (.int i) (.int j) (decide (i < j))
  | tup {ds es : List PyData} {b : Bool} : LtA ds es b → LtR (.tuple ds) (.tuple es) b
inductive LtA : List PyData → List PyData → Bool → Prop
  | nn : LtA [] [] false
  | nc {e : PyData} {es : List PyData} : LtA [] (e :: es) true
  | cn {d : PyData} {ds : List PyData} : LtA (d :: ds) [] false
  | eq {d e : PyData} {ds es : List PyData} {b : Bool} : PyData.eqv d e = true → LtA ds es b → LtA (d :: ds) (e :: es) b
  | ne {d e : PyData} {ds es : List PyData} {b : Bool} : PyData.eqv d e = false → LtR d e b → LtA (d :: ds) (e :: es) b
end
def LtAt (A : Around) (s : Shared) (u v : Value) (b : Bool) : Prop := ∀ (prog : Program) (w : World) (E : Value → Shared → Prop) (Q : Value → Shared → Prop), Q (.bool b) s → wpAny (model prog w) A (richCompare .Lt u v) Q E s
section
open PySem.SeqAt
open PySem.AutoSeq1 (wpAny_loadPart')
open PySem.MeetsSeq PySem.MeetsSeq2 PySem.MeetsSeq3
/-- pairs of items: equal by the data, or comparable -/
inductive Two (A : Around) (s : Shared) : List Value → List Value → Bool → Prop
  | nn : Two A s [] [] false
  | nc {v : Value} {vs : List Value} : Two A s [] (v :: vs) true
  | cn {v : Value} {vs : List Value} : Two A s (v :: vs) [] false
  | eq {u v : Value} {us vs : List Value} {b : Bool} : EqAt A s u v true → Two A s us vs b → Two A s (u :: us) (v :: vs) b
  | ne {u v : Value} {us vs : List Value} {b : Bool} : EqAt A s u v false → LtAt A s u v b → Two A s (u :: us) (v :: vs) b
theorem tuple_lt_two (l b : Addr) (items items2 : Array Value) (n n2 : Nat) (dd dd2 : Option Addr) (sl sl2 : Array (Option Value)) (r : Bool) :
    Meets (Builtin.«tuple.__lt__» ⟨[.ref l, .ref b], []⟩)
      (fun A R s => s.heap.get? l = some { cls := .type "tuple", dict := dd, data := .seq items n, slots := sl } ∧ s.heap.get? b = some { cls := .type "tuple", dict := dd2, data := .seq items2 n2, slots := sl2 } ∧
        Two A.in1 s items.toList items2.toList r ∧ R (.ok (.ret (.bool r))) s) :=
  .of_wp fun prog w A R s h => by
    obtain ⟨hp, g, d, tk, os⟩ := s; obtain ⟨hl, hb, h2, h⟩ := h
    have f2 := AutoSeq1.sub_tuple_tuple
    wp_walk using wpAny_loadPart' hl, wpAny_loadPart' hb, wpAny_forIn_list _ (fun rest b s' => b.1 = none ∧ s' = ⟨hp, g, d, tk, os⟩ ∧ ∃ (vs ws : List Value), rest = vs.zip ws ∧
      vs.length + items2.size = ws.length + items.size ∧ Two A.in1 ⟨hp, g, d, tk, os⟩ vs ws r) _
    case turn =>
      rintro ⟨y, x⟩ rest b s' ⟨hb', rfl, vs, ws, hz, hlen, ht⟩
      cases ht with
      | nn => cases hz
      | nc => cases hz
      | cn => cases hz
      | eq he ht' =>
        rw [List.zip_cons_cons] at hz
        injection hz with hyx hrest
        injection hyx with hy hx
        subst hy hx
        simp only [List.length_cons] at hlen
        refine wpAny_bind (he prog w _ _ ?_)
        wp_walk
        exact ⟨rfl, rfl, _, _, hrest, by omega, ht'⟩
      | ne he hlt =>
        rw [List.zip_cons_cons] at hz
        injection hz with hyx hrest
        injection hyx with hy hx
        subst hy hx
        refine wpAny_bind (he prog w _ _ ?_)
        have hri := hlt prog w
        wp_walk using hri
        exact ⟨_, rfl, by simpa using h⟩
    case fin =>
      rintro ⟨b1, b2⟩ s' ⟨hb', rfl, vs, ws, hz, hlen, ht⟩
      simp only at hb'
      subst hb'
      have hv : r = decide (items.size < items2.size) := by
        cases ht with
        | nn => simp only [List.length_nil] at hlen; exact (decide_eq_false (by omega)).symm
        | nc => simp only [List.length_nil, List.length_cons] at hlen; exact (decide_eq_true (by omega)).symm
        | cn => simp only [List.length_nil, List.length_cons] at hlen; exact (decide_eq_false (by omega)).symm
        | eq _ _ => rw [List.zip_cons_cons] at hz; cases hz
        | ne _ _ => rw [List.zip_cons_cons] at hz; cases hz
      rw [hv] at h
      wp_walk
      exact ⟨_, rfl, by simpa [Builtin.Tuple.tupleCompareSizes] using h⟩
    case h =>
      exact ⟨rfl, rfl, items.toList, items2.toList, rfl, by simp; omega, h2⟩
mutual
theorem ltAt_reads : ∀ {d e : PyData} {b : Bool}, LtR d e b → ∀ (A : Around) (s : Shared) (u v : Value) (as bs : List Addr), Reads s.heap u d as → Reads s.heap v e bs → d.canLay0 = true → e.canLay0 = true → A.units + d.depth + 1 < cLine → LtAt A s u v b
  | _, _, _, .int i j, A, s, u, v, as, bs, r1, r2, _, _, _ => by
    cases r1
    cases r2
    exact fun prog w E Q h => HT.rcLt_int A s i _ j _ prog w E Q h
  | _, _, b, .tup (ds := ds) (es := es) hA, A, s, u, v, as, bs, r1, r2, l1, l2, hu => by
    rw [PyData.canLay0] at l1 l2
    rw [PyData.depth] at hu
    cases r1 with
    | @tuple a1 o1 vs1 n1 _ _ h1 c1 d1 q1 =>
    cases r2 with
    | @tuple a2 o2 vs2 n2 _ _ h2 c2 d2 q2 =>
    have ht := two_reads hA A.in1 s _ _ _ _ q1 q2 l1 l2 (show A.units + 1 + _ + 1 < cLine by omega)
    obtain ⟨cls, dd, data, sl⟩ := o1
    obtain ⟨cls2, dd2, data2, sl2⟩ := o2
    have c1' : cls = Value.type "tuple" := c1
    have c2' : cls2 = Value.type "tuple" := c2
    have d1' : data = Data.seq vs1 n1 := d1
    have d2' : data2 = Data.seq vs2 n2 := d2
    subst c1' c2' d1' d2'
    exact fun prog w E Q h => richCompare_meets_room (op := .Lt) ⟨_, h1, rfl⟩ ⟨_, h2, rfl⟩ PySem.F.slot_tuple_lt PySem.F.entry_tuple_lt (PySem.F.args_tuple_lt_2 _ _) (tuple_lt_two _ _ _ _ n1 n2 dd dd2 sl sl2 b)
      ⟨h1, h2, ht, show Value.bool b ≠ Value.notImplemented ∧ Q (.bool b) s from ⟨(fun x => nomatch x), h⟩⟩ (by omega)
theorem two_reads : ∀ {ds es : List PyData} {b : Bool}, LtA ds es b → ∀ (A : Around) (s : Shared) (us vs : List Value) (as bs : List Addr), ReadsAll s.heap us ds as → ReadsAll s.heap vs es bs → PyData.canLayAll0 ds = true → PyData.canLayAll0 es = true → A.units + PyData.depthAll ds + 1 < cLine → Two A s us vs b
  | _, _, _, .nn, A, s, us, vs, as, bs, r1, r2, _, _, _ => by cases r1; cases r2; exact .nn
  | _, _, _, .nc, A, s, us, vs, as, bs, r1, r2, _, _, _ => by cases r1; cases r2; exact .nc
  | _, _, _, .cn, A, s, us, vs, as, bs, r1, r2, _, _, _ => by cases r1; cases r2; exact .cn
  | _, _, b, .eq (d := d) (e := e) he hA, A, s, us, vs, as, bs, r1, r2, l1, l2, hu => by
    rw [PyData.canLayAll0, Bool.and_eq_true] at l1 l2
    rw [PyData.depthAll] at hu
    cases r1 with
    | cons q1 qs1 =>
    cases r2 with
    | cons q2 qs2 =>
    have h := SeqAt.eqAt_reads d e A s _ _ _ _ q1 q2 l1.1 l2.1 (by omega)
    rw [he] at h
    exact .eq h (two_reads hA A s _ _ _ _ qs1 qs2 l1.2 l2.2 (by omega))
  | _, _, b, .ne (d := d) (e := e) he hR, A, s, us, vs, as, bs, r1, r2, l1, l2, hu => by
    rw [PyData.canLayAll0, Bool.and_eq_true] at l1 l2
    rw [PyData.depthAll] at hu
    cases r1 with
    | cons q1 qs1 =>
    cases r2 with
    | cons q2 qs2 =>
    have h := SeqAt.eqAt_reads d e A s _ _ _ _ q1 q2 l1.1 l2.1 (by omega)
    rw [he] at h
    exact .ne h (ltAt_reads hR A s _ _ _ _ q1 q2 l1.1 l2.1 (by omega))
end
variable {X : Cx}
theorem op_ltD (hu : X.A.units + 66 < cLine) : OpR X (compareOp .Lt) (fun x y H Q => ∃ d e b, Den X.K H x d ∧ Den X.K H y e ∧ LtR d e b ∧ d.depth ≤ 64 ∧ Q (.bl b) H) := by
  intro pins s σ H x y v u Q I rx ry h
  obtain ⟨d, e, b, hd, he, hc, dp, q⟩ := h
  obtain ⟨as, ra⟩ := hd.reads I rx
  obtain ⟨bs, rb⟩ := he.reads I ry
  exact ltAt_reads hc _ _ _ _ _ _ ra rb hd.lay he.lay (by omega) _ _ _ _ ⟨.bl _, H, I, rfl, q⟩
end
end L2
namespace L2
open PySem PySem.Spec PyProof.Rows
/-! ### <= of data: ints and tuples of them, to any depth -/
mutual
/-- d <= e, of which this is the answer -/
inductive LeR : PyData → PyData → Bool → Prop
  | int (i j : Int) : LeR (.int i) (.int j) (decide (i ≤ j))
  | tup {ds es : List PyData} {b : Bool} : LeA ds es b → LeR (.tuple ds) (.tuple es) b
inductive LeA : List PyData → List PyData → Bool → Prop
  | nn : LeA [] [] true
  | nc {e : PyData} {es : List PyData} : LeA [] (e :: es) true
  | cn {d : PyData} {ds : List PyData} : LeA (d :: ds) [] false
  | eq {d e : PyData} {ds es : List PyData} {b : Bool} : PyData.eqv d e = true → LeA ds es b → LeA (d :: ds) (e :: es) b
  | ne {d e : PyData} {ds es : List PyData} {b : Bool} : PyData.eqv d e = false → LeR d e b → LeA (d :: ds) (e :: es) b
end
theorem rcLe_int (A : Around) (s : Shared) (a : Int) (t : Tok) (c : Int) (u : Tok) (prog : Program) (w : World) (E : Value → Shared → Prop) (Q : Value → Shared → Prop) (h : Q (.bool (decide (a ≤ c))) s) :
    wpAny (model prog w) A (richCompare .LtE (.int a t) (.int c u)) Q E s :=
  (PyProof.Rows.le_int h : wpAny (model prog w) A (compareOp .LtE (.int a t) (.int c u)) Q E s)
def LeAt (A : Around) (s : Shared) (u v : Value) (b : Bool) : Prop := ∀ (prog : Program) (w : World) (E : Value → Shared → Prop) (Q : Value → Shared → Prop), Q (.bool b) s → wpAny (model prog w) A (richCompare .LtE u v) Q E s
section
open PySem.SeqAt
open PySem.AutoSeq1 (wpAny_loadPart')
open PySem.MeetsSeq PySem.MeetsSeq2 PySem.MeetsSeq3
/-- pairs of items: equal by the data, or comparable -/
inductive TwoE (A : Around) (s : Shared) : List Value → List Value → Bool → Prop
  | nn : TwoE A s [] [] true
  | nc {v : Value} {vs : List Value} : TwoE A s [] (v :: vs) true
  | cn {v : Value} {vs : List Value} : TwoE A s (v :: vs) [] false
  | eq {u v : Value} {us vs : List Value} {b : Bool} : EqAt A s u v true → TwoE A s us vs b → TwoE A s (u :: us) (v :: vs) b
  | ne {u v : Value} {us vs : List Value} {b : Bool} : EqAt A s u v false → LeAt A s u v b → TwoE A s (u :: us) (v :: vs) b
theorem tuple_le_two (l b : Addr) (items items2 : Array Value) (n n2 : Nat) (dd dd2 : Option Addr) (sl sl2 : Array (Option Value)) (r : Bool) :
    Meets (Builtin.«tuple.__le__» ⟨[.ref l, .ref b], []⟩)
      (fun A R s => s.heap.get? l = some { cls := .type "tuple", dict := dd, data := .seq items n, slots := sl } ∧ s.heap.get? b = some { cls := .type "tuple", dict := dd2, data := .seq items2 n2, slots := sl2 } ∧
        TwoE A.in1 s items.toList items2.toList r ∧ R (.ok (.ret (.bool r))) s) :=
  .of_wp fun prog w A R s h => by
    obtain ⟨hp, g, d, tk, os⟩ := s; obtain ⟨hl, hb, h2, h⟩ := h
    have f2 := AutoSeq1.sub_tuple_tuple
    wp_walk using wpAny_loadPart' hl, wpAny_loadPart' hb, wpAny_forIn_list _ (fun rest b s' => b.1 = none ∧ s' = ⟨hp, g, d, tk, os⟩ ∧ ∃ (vs ws : List Value), rest = vs.zip ws ∧
      vs.length + items2.size = ws.length + items.size ∧ TwoE A.in1 ⟨hp, g, d, tk, os⟩ vs ws r) _
    case turn =>
      rintro ⟨y, x⟩ rest b s' ⟨hb', rfl, vs, ws, hz, hlen, ht⟩
      cases ht with
      | nn => cases hz
      | nc => cases hz
      | cn => cases hz
      | eq he ht' =>
        rw [List.zip_cons_cons] at hz
        injection hz with hyx hrest
        injection hyx with hy hx
        subst hy hx
        simp only [List.length_cons] at hlen
        refine wpAny_bind (he prog w _ _ ?_)
        wp_walk
        exact ⟨rfl, rfl, _, _, hrest, by omega, ht'⟩
      | ne he hlt =>
        rw [List.zip_cons_cons] at hz
        injection hz with hyx hrest
        injection hyx with hy hx
        subst hy hx
        refine wpAny_bind (he prog w _ _ ?_)
        have hri := hlt prog w
        wp_walk using hri
        exact ⟨_, rfl, by simpa using h⟩
    case fin =>
      rintro ⟨b1, b2⟩ s' ⟨hb', rfl, vs, ws, hz, hlen, ht⟩
      simp only at hb'
      subst hb'
      have hv : r = decide (items.size ≤ items2.size) := by
        cases ht with
        | nn => simp only [List.length_nil] at hlen; exact (decide_eq_true (by omega)).symm
        | nc => simp only [List.length_nil, List.length_cons] at hlen; exact (decide_eq_true (by omega)).symm
        | cn => simp only [List.length_nil, List.length_cons] at hlen; exact (decide_eq_false (by omega)).symm
        | eq _ _ => rw [List.zip_cons_cons] at hz; cases hz
        | ne _ _ => rw [List.zip_cons_cons] at hz; cases hz
      rw [hv] at h
      wp_walk
      exact ⟨_, rfl, by simpa [Builtin.Tuple.tupleCompareSizes] using h⟩
    case h =>
      exact ⟨rfl, rfl, items.toList, items2.toList, rfl, by simp; omega, h2⟩
mutual
theorem leAt_reads : ∀ {d e : PyData} {b : Bool}, LeR d e b → ∀ (A : Around) (s : Shared) (u v : Value) (as bs : List Addr), Reads s.heap u d as → Reads s.heap v e bs → d.canLay0 = true → e.canLay0 = true → A.units + d.depth + 1 < cLine → LeAt A s u v b
  | _, _, _, .int i j, A, s, u, v, as, bs, r1, r2, _, _, _ => by
    cases r1
    cases r2
    exact fun prog w E Q h => rcLe_int A s i _ j _ prog w E Q h
  | _, _, b, .tup (ds := ds) (es := es) hA, A, s, u, v, as, bs, r1, r2, l1, l2, hu => by
    rw [PyData.canLay0] at l1 l2
    rw [PyData.depth] at hu
    cases r1 with
    | @tuple a1 o1 vs1 n1 _ _ h1 c1 d1 q1 =>
    cases r2 with
    | @tuple a2 o2 vs2 n2 _ _ h2 c2 d2 q2 =>
    have ht := twoE_reads hA A.in1 s _ _ _ _ q1 q2 l1 l2 (show A.units + 1 + _ + 1 < cLine by omega)
    obtain ⟨cls, dd, data, sl⟩ := o1
    obtain ⟨cls2, dd2, data2, sl2⟩ := o2
    have c1' : cls = Value.type "tuple" := c1
    have c2' : cls2 = Value.type "tuple" := c2
    have d1' : data = Data.seq vs1 n1 := d1
    have d2' : data2 = Data.seq vs2 n2 := d2
    subst c1' c2' d1' d2'
    exact fun prog w E Q h => richCompare_meets_room (op := .LtE) ⟨_, h1, rfl⟩ ⟨_, h2, rfl⟩ PySem.F.slot_tuple_le PySem.F.entry_tuple_le (PySem.F.args_tuple_le_2 _ _) (tuple_le_two _ _ _ _ n1 n2 dd dd2 sl sl2 b)
      ⟨h1, h2, ht, show Value.bool b ≠ Value.notImplemented ∧ Q (.bool b) s from ⟨(fun x => nomatch x), h⟩⟩ (by omega)
theorem twoE_reads : ∀ {ds es : List PyData} {b : Bool}, LeA ds es b → ∀ (A : Around) (s : Shared) (us vs : List Value) (as bs : List Addr), ReadsAll s.heap us ds as → ReadsAll s.heap vs es bs → PyData.canLayAll0 ds = true → PyData.canLayAll0 es = true → A.units + PyData.depthAll ds + 1 < cLine → TwoE A s us vs b
  | _, _, _, .nn, A, s, us, vs, as, bs, r1, r2, _, _, _ => by cases r1; cases r2; exact .nn
  | _, _, _, .nc, A, s, us, vs, as, bs, r1, r2, _, _, _ => by cases r1; cases r2; exact .nc
  | _, _, _, .cn, A, s, us, vs, as, bs, r1, r2, _, _, _ => by cases r1; cases r2; exact .cn
  | _, _, b, .eq (d := d) (e := e) he hA, A, s, us, vs, as, bs, r1, r2, l1, l2, hu => by
    rw [PyData.canLayAll0, Bool.and_eq_true] at l1 l2
    rw [PyData.depthAll] at hu
    cases r1 with
    | cons q1 qs1 =>
    cases r2 with
    | cons q2 qs2 =>
    have h := SeqAt.eqAt_reads d e A s _ _ _ _ q1 q2 l1.1 l2.1 (by omega)
    rw [he] at h
    exact .eq h (twoE_reads hA A s _ _ _ _ qs1 qs2 l1.2 l2.2 (by omega))
  | _, _, b, .ne (d := d) (e := e) he hR, A, s, us, vs, as, bs, r1, r2, l1, l2, hu => by
    rw [PyData.canLayAll0, Bool.and_eq_true] at l1 l2
    rw [PyData.depthAll] at hu
    cases r1 with
    | cons q1 qs1 =>
    cases r2 with
    | cons q2 qs2 =>
    have h := SeqAt.eqAt_reads d e A s _ _ _ _ q1 q2 l1.1 l2.1 (by omega)
    rw [he] at h
    exact .ne h (leAt_reads hR A s _ _ _ _ q1 q2 l1.1 l2.1 (by omega))
end
variable {X : Cx}
variable {K : PySem.W.Frag}
theorem Room.units66 {k : Nat} {A : Around} (r : Room k A) : A.units + 66 < cLine := by have := r.un; omega
end
end L2
namespace L2
open PySem
/-! keys: ints and tuples of keys; their order -/
mutual
inductive KD : PyData → Prop
  | int (i : Int) : KD (.int i)
  | tup {ds : List PyData} : KDs ds → KD (.tuple ds)
inductive KDs : List PyData → Prop
  | nil : KDs []
  | cons {d : PyData} {ds : List PyData} : KD d → KDs ds → KDs (d :: ds)
end
mutual
theorem KD.eqv : ∀ {d e : PyData}, KD d → KD e → (PyData.eqv d e = true ↔ d = e)
  | _, _, .int i, .int j => by rw [PyData.eqv]; simp
  | _, _, .int i, .tup _ => by rw [PyData.eqv]; simp
  | _, _, .tup _, .int i => by rw [PyData.eqv]; simp
  | _, _, .tup h, .tup k => by
    rw [PyData.eqv, h.eqv k]
    simp
theorem KDs.eqv : ∀ {ds es : List PyData}, KDs ds → KDs es → (PyData.eqvAll ds es = true ↔ ds = es)
  | _, _, .nil, .nil => by simp [PyData.eqvAll]
  | _, _, .nil, .cons _ _ => by simp [PyData.eqvAll]
  | _, _, .cons _ _, .nil => by simp [PyData.eqvAll]
  | _, _, .cons (d := d) (ds := ds) h hs, .cons (d := e) (ds := es) k ks => by
    rw [PyData.eqvAll, Bool.and_eq_true, h.eqv k, hs.eqv ks]
    simp
end
mutual
/-- the order of keys, ints ahead of tuples -/
inductive KLt : PyData → PyData → Prop
  | int {i j : Int} : i < j → KLt (.int i) (.int j)
  | mix {i : Int} {ds : List PyData} : KLt (.int i) (.tuple ds)
  | tup {ds es : List PyData} : KLs ds es → KLt (.tuple ds) (.tuple es)
inductive KLs : List PyData → List PyData → Prop
  | nil {e : PyData} {es : List PyData} : KLs [] (e :: es)
  | here {d e : PyData} {ds es : List PyData} : KLt d e → KLs (d :: ds) (e :: es)
  | there {d : PyData} {ds es : List PyData} : KLs ds es → KLs (d :: ds) (d :: es)
end
mutual
theorem KLt.irr : ∀ {d e : PyData}, KLt d e → d = e → False
  | _, _, .int h, e => by cases e; omega
  | _, _, .tup h, e => by cases e; exact h.irr rfl
theorem KLs.irr : ∀ {ds es : List PyData}, KLs ds es → ds = es → False
  | _, _, .here h, e => by injection e with e1 e2; exact h.irr e1
  | _, _, .there h, e => by injection e with e1 e2; exact h.irr e2
end
mutual
theorem KLt.trans : ∀ {a b c : PyData}, KLt a b → KLt b c → KLt a c
  | _, _, _, .int h, .int k => .int (by omega)
  | _, _, _, .int h, .mix => .mix
  | _, _, _, .mix, .tup _ => .mix
  | _, _, _, .tup h, .tup k => .tup (h.trans k)
theorem KLs.trans : ∀ {a b c : List PyData}, KLs a b → KLs b c → KLs a c
  | _, _, _, .nil, .here _ => .nil
  | _, _, _, .nil, .there _ => .nil
  | _, _, _, .here h, .here k => .here (h.trans k)
  | _, _, _, .here h, .there _ => .here h
  | _, _, _, .there _, .here k => .here k
  | _, _, _, .there h, .there k => .there (h.trans k)
end
mutual
theorem KD.tri : ∀ {d e : PyData}, KD d → KD e → KLt d e ∨ d = e ∨ KLt e d
  | _, _, .int i, .int j => by
    rcases Int.lt_trichotomy i j with h | h | h
    · exact .inl (.int h)
    · exact .inr (.inl (by rw [h]))
    · exact .inr (.inr (.int h))
  | _, _, .int i, .tup _ => .inl .mix
  | _, _, .tup _, .int i => .inr (.inr .mix)
  | _, _, .tup h, .tup k => by
    rcases h.tri k with h | h | h
    · exact .inl (.tup h)
    · exact .inr (.inl (by rw [h]))
    · exact .inr (.inr (.tup h))
theorem KDs.tri : ∀ {ds es : List PyData}, KDs ds → KDs es → KLs ds es ∨ ds = es ∨ KLs es ds
  | _, _, .nil, .nil => .inr (.inl rfl)
  | _, _, .nil, .cons _ _ => .inl .nil
  | _, _, .cons _ _, .nil => .inr (.inr .nil)
  | _, _, .cons (d := d) h hs, .cons (d := e) k ks => by
    rcases h.tri k with h | h | h
    · exact .inl (.here h)
    · subst h
      rcases hs.tri ks with h | h | h
      · exact .inl (.there h)
      · exact .inr (.inl (by rw [h]))
      · exact .inr (.inr (.there h))
    · exact .inr (.inr (.here h))
end
/-! where < answers, it answers by the order -/
mutual
theorem LtR.order : ∀ {d e : PyData} {b : Bool}, LtR d e b → KD d → KD e → (b = true ↔ KLt d e)
  | _, _, _, .int i j, _, _ => by
    rw [decide_eq_true_eq]
    exact ⟨.int, fun h => by cases h; assumption⟩
  | _, _, _, .tup h, .tup k, .tup l => by
    rw [h.order k l]
    exact ⟨.tup, fun h => by cases h; assumption⟩
theorem LtA.order : ∀ {ds es : List PyData} {b : Bool}, LtA ds es b → KDs ds → KDs es → (b = true ↔ KLs ds es)
  | _, _, _, .nn, _, _ => ⟨(fun h => by cases h), (fun h => by cases h)⟩
  | _, _, _, .nc, _, _ => ⟨fun _ => .nil, fun _ => rfl⟩
  | _, _, _, .cn, _, _ => ⟨(fun h => by cases h), (fun h => by cases h)⟩
  | _, _, _, .eq he h, .cons k ks, .cons l ls => by
    have e := (k.eqv l).mp he
    subst e
    rw [h.order ks ls]
    refine ⟨.there, fun h => ?_⟩
    cases h with
    | here h => exact (h.irr rfl).elim
    | there h => exact h
  | _, _, _, .ne he h, .cons k ks, .cons l ls => by
    have e : _ ≠ _ := fun z => Bool.eq_false_iff.mp he ((k.eqv l).mpr z)
    rw [h.order k l]
    refine ⟨.here, fun h => ?_⟩
    cases h with
    | here h => exact h
    | there h => exact (e rfl).elim
end
/-! two keys that < can be asked of: of one make where they first differ -/
mutual
inductive Sim : PyData → PyData → Prop
  | int (i j : Int) : Sim (.int i) (.int j)
  | tup {ds es : List PyData} : Sims ds es → Sim (.tuple ds) (.tuple es)
inductive Sims : List PyData → List PyData → Prop
  | nil {es : List PyData} : Sims [] es
  | end_ {ds : List PyData} : Sims ds []
  | cons {d e : PyData} {ds es : List PyData} : Sim d e → (d = e → Sims ds es) → Sims (d :: ds) (e :: es)
end
theorem eqv_cases {d e : PyData} (hd : KD d) (he : KD e) : (PyData.eqv d e = true ∧ d = e) ∨ (PyData.eqv d e = false ∧ d ≠ e) := by
  cases h : PyData.eqv d e with
  | true => exact .inl ⟨rfl, (hd.eqv he).mp h⟩
  | false => exact .inr ⟨rfl, fun z => by rw [(hd.eqv he).mpr z] at h; cases h⟩
mutual
theorem Sim.lt : ∀ {d e : PyData}, Sim d e → KD d → KD e → ∃ b, LtR d e b
  | _, _, .int i j, _, _ => ⟨_, .int i j⟩
  | _, _, .tup h, .tup k, .tup l => by
    obtain ⟨b, hb⟩ := h.lt k l
    exact ⟨b, .tup hb⟩
theorem Sims.lt : ∀ {ds es : List PyData}, Sims ds es → KDs ds → KDs es → ∃ b, LtA ds es b
  | _, [], .nil, _, _ => ⟨_, .nn⟩
  | _, _ :: _, .nil, _, _ => ⟨_, .nc⟩
  | [], _, .end_, _, _ => ⟨_, .nn⟩
  | _ :: _, _, .end_, _, _ => ⟨_, .cn⟩
  | _, _, .cons h hs, .cons k ks, .cons l ls => by
    rcases eqv_cases k l with ⟨a, c⟩ | ⟨a, c⟩
    · obtain ⟨b, hb⟩ := (hs c).lt ks ls
      exact ⟨b, .eq a hb⟩
    · obtain ⟨b, hb⟩ := h.lt k l
      exact ⟨b, .ne a hb⟩
end
/-- what < answers of two keys of one make -/
theorem Sim.answer {d e : PyData} (h : Sim d e) (hd : KD d) (he : KD e) : ∃ b, LtR d e b ∧ (b = true ↔ KLt d e) := by
  obtain ⟨b, hb⟩ := h.lt hd he
  exact ⟨b, hb, hb.order hd he⟩
end L2
namespace L2
open PySem
section
variable {src : List (Option Nat)} {te : TE} {σ : St} {H : Hp} {Q : VK}
/-- a comprehension whose things keep a promise each, apart from its own list -/
theorem lc_relD {J : It} {P : Hp → Prop} {xs : List V} (hJ : ItSeq J P xs) {H1 : Hp} {D : Addr} (Rl : Nat → V → Hp → Prop) (st : ∀ i y H H', Rl i y H → Same H H' → Rl i y H') (su : ∀ i y H zs zs', Rl i y H → H D = some (.lst zs) → Rl i y (upd H D (.lst zs')))
    (hP : ∀ H', Same H1 H' → P H') (hD : H1 D = none) (hlen : xs.length ≤ 100000)
    (step : ∀ (i : Nat) x H' zs, xs[i]? = some x → Same H1 H' → H' D = some (.lst zs) → ∀ R : VK, (∀ y H'', Same H' H'' → Rl i y H'' → R y H'') → te (some x :: capSt src σ) H' R)
    (fin : ∀ (ys : List V) H', Same H1 H' → H' D = some (.lst ys) → ys.length = xs.length → (∀ (j : Nat) y, ys[j]? = some y → Rl j y H') → Q (.ref D) H') : LC (none :: src) J (gName 0) tYes te σ H1 Q D := by
  have h6 : 100000 < sizeLine := by decide
  refine lc_on hJ (fun i zs σ' H' => zs.length = i ∧ (∃ o, σ' = o :: capSt src σ) ∧ Same H1 H' ∧ H' D = some (.lst zs) ∧ ∀ (j : Nat) y, zs[j]? = some y → Rl j y H')
    ⟨rfl, ⟨none, rfl⟩, .upd_new hD _, upd_same, fun j y h => by simp at h⟩ (fun i zs σ' H' ⟨_, _, p1, p2, _⟩ => ⟨hP _ p1, p2⟩) (gName_mono 0) ?_ ?_
  · rintro i zs σ' H' x hx ⟨hi', ⟨o, rfl⟩, sm, hd, hts⟩
    have hi := (List.getElem?_eq_some_iff.mp hx).1
    show te (some x :: capSt src σ) H' _
    refine step i x H' zs hx sm hd _ fun y H'' s2 hy => ⟨s2 _ _ hd, by omega, by simp [hi'], ⟨_, rfl⟩, .upd_over hD (sm.trans s2) _, upd_same, fun j z hj => su _ _ _ _ _ ?_ (s2 _ _ hd)⟩
    rcases Nat.lt_trichotomy j zs.length with h1 | h1 | h1
    · rw [List.getElem?_append_left h1] at hj
      exact st _ _ _ _ (hts j z hj) s2
    · have hb : y = z := by subst h1; simpa using hj
      subst hb
      rw [h1, hi']
      exact hy
    · rw [List.getElem?_eq_none (by rw [List.length_append, List.length_singleton]; omega)] at hj; cases hj
  · rintro zs σ' H' ⟨hn, _, sm, hd, hts⟩
    exact fin zs H' sm hd hn hts
theorem tLC_relD {K : PySem.W.Frag} {tl : TE} {xs : List V} {b : Addr} (Rl : Addr → Nat → V → Hp → Prop) (st : ∀ D i y H H', Rl D i y H → Same H H' → Rl D i y H') (su : ∀ D i y H zs zs', Rl D i y H → H D = some (.lst zs) → Rl D i y (upd H D (.lst zs')))
    (ha : ∀ R : V → Hp → Prop, R (.ref b) H → tl σ H R) (hS : SqL K H b xs) (hlen : xs.length ≤ 100000)
    (step : ∀ D (i : Nat) x H' zs, xs[i]? = some x → Same H H' → H' D = some (.lst zs) → ∀ R : VK, (∀ y H'', Same H' H'' → Rl D i y H'' → R y H'') → te (some x :: capSt src σ) H' R)
    (fin : ∀ D (ys : List V) H', H D = none → Same H H' → H' D = some (.lst ys) → ys.length = xs.length → (∀ (j : Nat) y, ys[j]? = some y → Rl D j y H') → Q (.ref D) H') : tLC (none :: src) (iList K tl) (gName 0) tYes te σ H Q :=
  ha _ ⟨b, rfl, ⟨xs, hS⟩, fun D hD => lc_relD (itseq_list.imp fun H' (e : Same H H') => e.seq hS) (Rl D) (st D) (su D) (fun _ e => e) hD hlen (fun i x H' zs hx sm hd R r => step D i x H' zs hx sm hd R r) fun ys H' sm => fin D ys H' hD sm⟩
theorem tLC_relDT {K : PySem.W.Frag} {tl : TE} {xs : List V} {b : Addr} (Rl : Addr → Nat → V → Hp → Prop) (st : ∀ D i y H H', Rl D i y H → Same H H' → Rl D i y H') (su : ∀ D i y H zs zs', Rl D i y H → H D = some (.lst zs) → Rl D i y (upd H D (.lst zs')))
    (ha : ∀ R : V → Hp → Prop, R (.ref b) H → tl σ H R) (hS : SqT K H b xs) (hlen : xs.length ≤ 100000)
    (step : ∀ D (i : Nat) x H' zs, xs[i]? = some x → Same H H' → H' D = some (.lst zs) → ∀ R : VK, (∀ y H'', Same H' H'' → Rl D i y H'' → R y H'') → te (some x :: capSt src σ) H' R)
    (fin : ∀ D (ys : List V) H', H D = none → Same H H' → H' D = some (.lst ys) → ys.length = xs.length → (∀ (j : Nat) y, ys[j]? = some y → Rl D j y H') → Q (.ref D) H') : tLC (none :: src) (iTup K tl) (gName 0) tYes te σ H Q :=
  ha _ ⟨b, rfl, ⟨xs, hS⟩, fun D hD => lc_relD (itseq_tup.imp fun H' (e : Same H H') => e.tup hS) (Rl D) (st D) (su D) (fun _ e => e) hD hlen (fun i x H' zs hx sm hd R r => step D i x H' zs hx sm hd R r) fun ys H' sm => fin D ys H' hD sm⟩
/-- a comprehension over range(n) whose things keep a promise each -/
theorem tLC_rangeR {ta : TA} {n : Nat} (Rl : Nat → V → Hp → Prop) (st : ∀ i y H H', Rl i y H → Same H H' → Rl i y H') (su : ∀ i y H p zs zs', Rl i y H → H p = some (.lst zs) → Rl i y (upd H p (.lst zs'))) (ha : ∀ R : List V → Hp → Prop, R [.int n] H → ta σ H R) (hlen : n ≤ 100000)
    (step : ∀ (i : Nat) H', i < n → Same H H' → ∀ R : VK, (∀ y H'', Same H' H'' → Rl i y H'' → R y H'') → te (some (.int i) :: capSt src σ) H' R)
    (fin : ∀ D (ys : List V) H', H D = none → Same H H' → H' D = some (.lst ys) → ys.length = n → (∀ (j : Nat) y, ys[j]? = some y → Rl j y H') → Q (.ref D) H') : tLC (none :: src) (iRng1 ta) (gName 0) tYes te σ H Q := by
  refine ha _ ⟨n, rfl, by omega, by omega, fun D hD => ?_⟩
  refine lc_rel (itseq_range (lo := 0) (n := n) (P := fun _ => True)) Rl st su (fun _ _ => trivial) hD (by simpa using hlen) (fun i x H' hx sm R r => ?_) fun ys H' sm hd hl hr => fin D ys H' hD sm hd (by simpa using hl) hr
  have hi : i < n := by have := (List.getElem?_eq_some_iff.mp hx).1; simpa using this
  rw [List.getElem?_map, List.getElem?_range hi] at hx
  have e : V.int (0 + (i : Int)) = x := Option.some.inj hx
  rw [Int.zero_add] at e
  subst e
  exact step i H' hi sm R r
theorem cutV_from (xs : List V) (lo : Option Int) : ∃ k, cutV xs lo none = xs.drop k := by
  refine ⟨HT.sIx xs.length 0 lo, ?_⟩
  unfold cutV
  rw [List.take_of_length_le]
  rw [List.length_drop]
  exact Nat.le_refl _
end
end L2
set_option maxHeartbeats 8000000
namespace KW
open PySem L2

def top (i : Nat) : Stmt := PySem.Challenge.pw_countgen_k27_trees_in_order.main.body.getD i (.Pass ⟨0, 0, 0, 0⟩)
abbrev s_shape_of : Stmt := top 6
theorem sc_shape_of : FnScope ["book", "name", "pair"] ["book", "name"] (defScope s_shape_of) := ⟨rfl, rfl, rfl, by decide +kernel, rfl, by decide +kernel, by decide +kernel⟩
abbrev s_is_whole_number : Stmt := top 8
theorem sc_is_whole_number : FnScope ["thing"] ["thing"] (defScope s_is_whole_number) := ⟨rfl, rfl, rfl, by decide +kernel, rfl, by decide +kernel, by decide +kernel⟩
abbrev s_branch_place : Stmt := top 9
theorem sc_branch_place : FnScope ["branches", "mark", "place", "branch"] ["branches", "mark"] (defScope s_branch_place) := ⟨rfl, rfl, rfl, by decide +kernel, rfl, by decide +kernel, by decide +kernel⟩
abbrev s_has_mark : Stmt := top 10
theorem sc_has_mark : FnScope ["branches", "value"] ["branches", "value"] (defScope s_has_mark) := ⟨rfl, rfl, rfl, by decide +kernel, rfl, by decide +kernel, by decide +kernel⟩
abbrev s_has_form : Stmt := top 11
theorem sc_has_form : FnScope ["shape", "value", "kind"] ["shape", "value"] (defScope s_has_form) := ⟨rfl, rfl, rfl, by decide +kernel, rfl, by decide +kernel, by decide +kernel⟩
abbrev s_things_within : Stmt := top 12
theorem sc_things_within : FnScope ["book", "shape", "value", "kind"] ["book", "shape", "value"] (defScope s_things_within) := ⟨rfl, rfl, rfl, by decide +kernel, rfl, by decide +kernel, by decide +kernel⟩
abbrev s_sum_of_sizes : Stmt := top 13
theorem sc_sum_of_sizes : FnScope ["keys"] ["keys"] (defScope s_sum_of_sizes) := ⟨rfl, rfl, rfl, by decide +kernel, rfl, by decide +kernel, by decide +kernel⟩
abbrev s_none_ahead : Stmt := top 14
abbrev s_all_behind : Stmt := top 15
abbrev s_all_alike : Stmt := top 16
abbrev s_groups_by_size : Stmt := top 17
abbrev s_risen_key : Stmt := top 18
abbrev s_list_key : Stmt := top 19
theorem sc_list_key : FnScope ["shape", "keys", "kind", "size", "rises"] ["shape", "keys"] (defScope s_list_key) := ⟨rfl, rfl, rfl, by decide +kernel, rfl, by decide +kernel, by decide +kernel⟩
abbrev s_key_made : Stmt := top 20
theorem sc_key_made : FnScope ["shape", "value", "keys", "kind"] ["shape", "value", "keys"] (defScope s_key_made) := ⟨rfl, rfl, rfl, by decide +kernel, rfl, by decide +kernel, by decide +kernel⟩
abbrev s_weighed : Stmt := top 21
theorem sc_weighed : FnScope ["book", "shape", "value", "keys", "part", "thing", "key"] ["book", "shape", "value"] (defScope s_weighed) := ⟨rfl, rfl, rfl, by decide +kernel, rfl, by decide +kernel, by decide +kernel⟩
abbrev s_key_or_refusal : Stmt := top 23
theorem sc_key_or_refusal : FnScope ["book", "shape", "value", "key"] ["book", "shape", "value"] (defScope s_key_or_refusal) := ⟨rfl, rfl, rfl, by decide +kernel, rfl, by decide +kernel, by decide +kernel⟩
abbrev s_compared : Stmt := top 24
theorem sc_compared : FnScope ["book", "shape", "one", "other", "first", "second"] ["book", "shape", "one", "other"] (defScope s_compared) := ⟨rfl, rfl, rfl, by decide +kernel, rfl, by decide +kernel, by decide +kernel⟩
abbrev s_law_whole : Stmt := top 26
theorem sc_law_whole : FnScope ["_law_found"] ["_law_found"] (defScope s_law_whole) := ⟨rfl, rfl, rfl, by decide +kernel, rfl, by decide +kernel, by decide +kernel⟩
abbrev s_law_cell_at : Stmt := top 27
theorem sc_law_cell_at : FnScope ["_law_script", "_law_k"] ["_law_script", "_law_k"] (defScope s_law_cell_at) := ⟨rfl, rfl, rfl, by decide +kernel, rfl, by decide +kernel, by decide +kernel⟩
abbrev s_law_name : Stmt := top 28
theorem sc_law_name : FnScope ["_law_cell", "_law_k", "_law_letters", "_law_size", "_law_at", "_law_found", "_law_j", "_law_number"] ["_law_cell", "_law_k"] (defScope s_law_name) := ⟨rfl, rfl, rfl, by decide +kernel, rfl, by decide +kernel, by decide +kernel⟩
abbrev s_law_book : Stmt := top 29
theorem sc_law_book : FnScope ["_law_script", "_law_cell", "_law_name_here", "_law_low", "_law_leaf_here", "_law_node", "_law_marks"] ["_law_script"] (defScope s_law_book) := ⟨rfl, rfl, rfl, by decide +kernel, rfl, by decide +kernel, by decide +kernel⟩
abbrev s_law_leaf : Stmt := top 30
theorem sc_law_leaf : FnScope ["_law_branch", "_law_cell", "_law_step"] ["_law_branch", "_law_cell"] (defScope s_law_leaf) := ⟨rfl, rfl, rfl, by decide +kernel, rfl, by decide +kernel, by decide +kernel⟩
abbrev s_law_put : Stmt := top 31
theorem sc_law_put : FnScope ["_law_stack", "_law_branches", "_law_cell", "_law_way", "_law_many", "_law_some", "_law_deep", "_law_things", "_law_size", "_law_left"] ["_law_stack", "_law_branches", "_law_cell"] (defScope s_law_put) := ⟨rfl, rfl, rfl, by decide +kernel, rfl, by decide +kernel, by decide +kernel⟩
abbrev s_law_copy : Stmt := top 32
theorem sc_law_copy : FnScope ["_law_value"] ["_law_value"] (defScope s_law_copy) := ⟨rfl, rfl, rfl, by decide +kernel, rfl, by decide +kernel, by decide +kernel⟩
abbrev s_law_table : Stmt := top 33
theorem sc_law_table : FnScope ["_law_book_here", "_law_some", "_law_rows", "_law_one", "_law_row", "_law_other", "_law_handed", "_law_found"] ["_law_book_here", "_law_some"] (defScope s_law_table) := ⟨rfl, rfl, rfl, by decide +kernel, rfl, by decide +kernel, by decide +kernel⟩
abbrev s_law_in_order : Stmt := top 34
theorem sc_law_in_order : FnScope ["_law_rows", "_law_some", "_law_i", "_law_j", "_law_k"] ["_law_rows", "_law_some"] (defScope s_law_in_order) := ⟨rfl, rfl, rfl, by decide +kernel, rfl, by decide +kernel, by decide +kernel⟩
abbrev s_law : Stmt := top 35
theorem sc_law : FnScope ["_law_script", "_law_book_here", "_law_branches", "_law_stack", "_law_cell", "_law_some", "_law_rows"] ["_law_script"] (defScope s_law) := ⟨rfl, rfl, rfl, by decide +kernel, rfl, by decide +kernel, by decide +kernel⟩
variable {g : Gx}
local macro_rules | `(tactic| walk_at "gn") => `(tactic| simp only [gName, List.set_cons_zero, List.set_cons_succ])
local macro_rules | `(tactic| walk_at "rd") => `(tactic| simp (config := { failIfUnchanged := false, maxSteps := 10000000 }) only [L2.start, cxOf_K, nox_K, List.map_cons, List.map_nil, List.length_cons, List.length_nil, List.cons_append, List.nil_append, List.replicate_succ, List.replicate_zero, Nat.zero_add, Nat.reduceAdd, Nat.reduceSub, Nat.sub_self, tSeq, tIfS, tTest, tOp, tC, tVar, rI0, rI, rU, tUn, tRet, tRetN, tDrop, tNext, tBreak, tCont, tAsg, gName, gNil, gCons, tCons, tNil, tCB, tCall, tTry, tTryAs, tRaise, sFld, tFld, tMake, tMeth, Ends.gone, caught_K, tB, tAnd, tOr, tNot, tAndV, tOrV, tNotV, tIf, tChain, tNoPart, tPart, tSl, tNever, tAug, rIxL, rIxT, rSlL, tLst, tTup, gTup, tRev, tLZ, tConT, tDict0, rBits, rFind, rIn, tBM, tBM0, rAppend, rReverse, rEq, rNe, scal_ii, scal_ss, rCat, rSetL, gSub, ipI, capSt, List.getD_cons_zero, List.getD_cons_succ, decide_true, not_true_eq_false, not_false_eq_true,
  exists_eq_left', exists_eq_left, exists_eq', exists_eq, exists_and_left, and_assoc, Option.some.injEq, V.int.injEq, V.bl.injEq, V.ref.injEq, V.str.injEq, List.getElem?_cons_zero, List.getElem?_cons_succ, List.set_cons_zero, List.set_cons_succ, List.cons.injEq, and_true, true_and, List.append_nil, decide_eq_true_eq, Bool.not_eq_true', decide_eq_false_iff_not, Bool.not_not, Bool.not_true, Bool.not_false, Bool.true_eq_false, Bool.false_eq_true, if_true, if_false, ite_true, ite_false])
theorem cm {i j : Int} {m n : Nat} (h1 : i.natAbs < 2 ^ m) (h2 : j.natAbs < 2 ^ n) (h : m + n ≤ 100000000 := by decide) : CMulB i j := ⟨m, n, h1, h2, h⟩
theorem cpow {i j : Int} (h : 0 ≤ j ∧ j ≤ 1000000 ∧ i.natAbs < 2 ^ 64 := by decide) : CPow i j := h
theorem few {n : Nat} (h : n ≤ 100000) : n ≤ sizeLine := Nat.le_trans h (by decide)
theorem mod_nat (x : Int) {j : Int} (h : 0 < j) : ∃ r : Nat, x % j = r ∧ (r : Int) < j := ⟨(x % j).toNat, by have := Int.emod_nonneg x (Int.ne_of_gt h); omega, by have := Int.emod_lt_of_pos x h; have := Int.emod_nonneg x (Int.ne_of_gt h); omega⟩
/-! what the law reads of its script -/
def sp_law_whole : Sp := fun vs H Q _ => ∃ i : Int, vs = [.int i] ∧ Q (.bl true) H
def sp_law_cell_at (K : PySem.W.Frag) : Sp := fun vs H Q _ => ∃ (a : Addr) (ns : List Int) (k : Nat), vs = [.ref a, .int k] ∧ SqL K H a (ns.map V.int) ∧ ns.length ≤ 63 ∧ Q (.int (ns.getD k 0)) H
theorem getD_at {ns : List Int} {k : Nat} (h : k < ns.length) : atI (ns.map V.int) (k : Int) = some (.int (ns.getD k 0)) := atI_nat (by rw [List.getElem?_map, List.getElem?_eq_getElem h]; simp [h])
theorem ok_law_whole  (R : g.Raw "_law_whole" "_law_whole" s_law_whole ["_law_found"]) (b_bool : g.mg "bool" = none) (b_int : g.mg "int" = none) (b_isinstance : g.mg "isinstance" = none) : g.Fn (1) "_law_whole" ["_law_found"] (sp_law_whole) := by
  refine R.fn sc_law_whole (fun vs H Q E h => by obtain ⟨i, rfl, q⟩ := h; rfl) fun f_ cdv A outer s H vs Q E hr h => ?_
  obtain ⟨i, rfl, q⟩ := h
  refine ⟨_, (@pss_one _ _ _ (@ps_ret _ _ _ _ (@pe_and _ _ _ _ _ _ _ (@pe_bf _ _ _ _ _ _ _ _ _ _ b_isinstance call_isinst (@pa_cons _ _ _ _ _ (@pv _ 0 _ _ (by rfl) (by first | exact Or.inl rfl | exact Or.inr (Or.inl rfl) | exact Or.inr (Or.inr rfl)) (by decide) (by decide)) (@pa_cons _ _ _ _ _ (@pe_bn _ _ _ _ ("int") b_int (by decide +kernel) (by rfl) (by rfl) (by decide) (by decide)) pa_nil (by rfl)) (by rfl)) (by decide +kernel) (by rfl) (by rfl) (by decide) (by decide) (by rfl) (by rfl)) (@pe_one _ _ _ _ _ (@pe_not _ _ _ _ (@pe_bf _ _ _ _ _ _ _ _ _ _ b_isinstance call_isinst (@pa_cons _ _ _ _ _ (@pv _ 0 _ _ (by rfl) (by first | exact Or.inl rfl | exact Or.inr (Or.inl rfl) | exact Or.inr (Or.inr rfl)) (by decide) (by decide)) (@pa_cons _ _ _ _ _ (@pe_bn _ _ _ _ ("bool") b_bool (by decide +kernel) (by rfl) (by rfl) (by decide) (by decide)) pa_nil (by rfl)) (by rfl)) (by decide +kernel) (by rfl) (by rfl) (by decide) (by decide) (by rfl) (by rfl))))))), ?_⟩
  walk_at "rd"
  exact ⟨_, rfl, _, .int _, true, rfl, iteT ⟨_, rfl, _, .int _, false, rfl, q⟩⟩
theorem ok_law_cell_at  (R : g.Raw "_law_cell_at" "_law_cell_at" s_law_cell_at ["_law_script", "_law_k"]) (b_len : g.mg "len" = none) : g.Fn (1) "_law_cell_at" ["_law_script", "_law_k"] (sp_law_cell_at g.K) := by
  refine R.fn sc_law_cell_at (fun vs H Q E h => by obtain ⟨a, ns, k, rfl, hS, hl, q⟩ := h; rfl) fun f_ cdv A outer s H vs Q E hr h => ?_
  obtain ⟨a, ns, k, rfl, hS, hl, q⟩ := h
  refine ⟨_, (@pss_cons _ _ _ _ _ (@ps_if _ _ _ _ _ _ _ _ (@pt_cmpR _ _ _ _ _ _ _ _ op_lt (@pv _ 1 _ _ (by rfl) (by first | exact Or.inl rfl | exact Or.inr (Or.inl rfl) | exact Or.inr (Or.inr rfl)) (by decide) (by decide)) (@pe_bf _ _ _ _ _ _ _ _ _ _ b_len call_len_seq (@pa_cons _ _ _ _ _ (@pv _ 0 _ _ (by rfl) (by first | exact Or.inl rfl | exact Or.inr (Or.inl rfl) | exact Or.inr (Or.inr rfl)) (by decide) (by decide)) pa_nil (by rfl)) (by decide +kernel) (by rfl) (by rfl) (by decide) (by decide) (by rfl) (by rfl)) (nomark _)) (@pss_one _ _ _ (@ps_ret _ _ _ _ (@pe_ix _ _ _ _ _ _ _ ix_list (@pv _ 0 _ _ (by rfl) (by first | exact Or.inl rfl | exact Or.inr (Or.inl rfl) | exact Or.inr (Or.inr rfl)) (by decide) (by decide)) (@pv _ 1 _ _ (by rfl) (by first | exact Or.inl rfl | exact Or.inr (Or.inl rfl) | exact Or.inr (Or.inr rfl)) (by decide) (by decide)) (fun _ _ => rfl)))) pss_nil) (@pss_one _ _ _ (@ps_ret _ _ _ _ pe_int))), ?_⟩
  walk_at "rd"
  refine ⟨_, .inl hS, ?_⟩
  refine ite2 (fun c => ?_) (fun c => ?_)
  · have c' := c
    rw [List.length_map] at c'
    exact ⟨_, hS, _, getD_at (by omega), q⟩
  · have c' := c
    rw [List.length_map] at c'
    rw [show ns.getD k 0 = 0 by simp [show ns.length ≤ k by omega]] at q
    exact q
/-! values, mirrored: new objects of the heap -/
mutual
inductive Vd (H : Hp) : V → PyData → Prop
  | non : Vd H .non .none
  | bl (b : Bool) : Vd H (.bl b) (.bool b)
  | int (i : Int) : Vd H (.int i) (.int i)
  | str (l : List Nat) (h : PyData.strOk (S l) = true) (hl : l.length ≤ 1000) : Vd H (.str (S l)) (.str (S l))
  | lst {a : Addr} {vs : List V} {ds : List PyData} : H a = some (.lst vs) → vs.length ≤ 1000 → Vds H vs ds → Vd H (.ref a) (.list ds)
  | tup {a : Addr} {vs : List V} {ds : List PyData} : H a = some (.tup vs) → vs.length ≤ 1000 → Vds H vs ds → Vd H (.ref a) (.tuple ds)
inductive Vds (H : Hp) : List V → List PyData → Prop
  | nil : Vds H [] []
  | cons {v : V} {d : PyData} {vs : List V} {ds : List PyData} : Vd H v d → Vds H vs ds → Vds H (v :: vs) (d :: ds)
end
mutual
theorem Vd.keep {H H' : Hp} (e : Same H H') : ∀ {v : V} {d : PyData}, Vd H v d → Vd H' v d
  | _, _, .non => .non
  | _, _, .bl b => .bl b
  | _, _, .int i => .int i
  | _, _, .str x h hl => .str x h hl
  | _, _, .lst h hn hs => .lst (e _ _ h) hn (hs.keep e)
  | _, _, .tup h hn hs => .tup (e _ _ h) hn (hs.keep e)
theorem Vds.keep {H H' : Hp} (e : Same H H') : ∀ {vs : List V} {ds : List PyData}, Vds H vs ds → Vds H' vs ds
  | _, _, .nil => .nil
  | _, _, .cons h hs => .cons (h.keep e) (hs.keep e)
end
mutual
theorem Vd.den {K : PySem.W.Frag} {H : Hp} : ∀ {v : V} {d : PyData}, Vd H v d → Den K H v d
  | _, _, .non => .non
  | _, _, .bl b => .bl b
  | _, _, .int i => .int i
  | _, _, .str x h hl => .str _ h
  | _, _, .lst h hn hs => .lst (SqL.of h) hs.den
  | _, _, .tup h hn hs => .tup (SqT.of h) hs.den
theorem Vds.den {K : PySem.W.Frag} {H : Hp} : ∀ {vs : List V} {ds : List PyData}, Vds H vs ds → Dens K H vs ds
  | _, _, .nil => .nil
  | _, _, .cons h hs => .cons h.den hs.den
end
theorem Vds.length {H : Hp} : ∀ {vs : List V} {ds : List PyData}, Vds H vs ds → vs.length = ds.length
  | _, _, .nil => rfl
  | _, _, .cons _ hs => congrArg (· + 1) hs.length
theorem Vds.at {H : Hp} : ∀ {vs : List V} {ds : List PyData} {i : Nat} {v : V}, Vds H vs ds → vs[i]? = some v → ∃ d, ds[i]? = some d ∧ Vd H v d
  | _, _, 0, v, .cons a _, h => by
    have : _ = v := Option.some.inj h
    subst this
    exact ⟨_, rfl, a⟩
  | _, _, i + 1, v, .cons _ b, h => b.at (i := i) h
theorem Vds.append {H : Hp} {vs' : List V} {ds' : List PyData} : ∀ {vs : List V} {ds : List PyData}, Vds H vs ds → Vds H vs' ds' → Vds H (vs ++ vs') (ds ++ ds')
  | _, _, .nil, h => h
  | _, _, .cons a b, h => .cons a (b.append h)
theorem Vds.take {H : Hp} : ∀ {vs : List V} {ds : List PyData} (n : Nat), Vds H vs ds → Vds H (vs.take n) (ds.take n)
  | _, _, 0, _ => by simp; exact .nil
  | _, _, n + 1, .nil => by simp; exact .nil
  | _, _, n + 1, .cons a b => .cons a (b.take n)
theorem Vds.drop {H : Hp} : ∀ {vs : List V} {ds : List PyData} (n : Nat), Vds H vs ds → Vds H (vs.drop n) (ds.drop n)
  | _, _, 0, h => h
  | _, _, n + 1, .nil => by simp; exact .nil
  | _, _, n + 1, .cons a b => b.drop n
/-- the name of its type -/
def tn : PyData → String
  | .none => "NoneType"
  | .bool _ => "bool"
  | .int _ => "int"
  | .str _ => "str"
  | .list _ => "list"
  | .tuple _ => "tuple"
  | _ => ""
theorem Vd.ty {K : PySem.W.Frag} {H : Hp} {v : V} {d : PyData} (h : Vd H v d) : TyOf K H v (.type (tn d)) := by
  cases h with
  | non => exact .non
  | bl b => exact .bl b
  | int i => exact .int i
  | str l h hl => exact .str _
  | lst h => exact .lst h
  | tup h => exact .tup h
/-! shapes, mirrored -/
inductive Sh
  | whole (lo hi : Int)
  | text (signs : List Nat)
  | row (ps : List Sh)
  | many (p : Sh)
  | pick (ms : List (List Nat)) (ps : List Sh)
  | use (nm : List Nat)
/-- branches: marks and parts -/
def Brs (K : PySem.W.Frag) (H : Hp) (as : List Addr) (ms : List (List Nat)) (vs : List V) : Prop := as.length = ms.length ∧ vs.length = ms.length ∧ ∀ (j : Nat) a m v, as[j]? = some a → ms[j]? = some m → vs[j]? = some v → SqT K H a [.str (S m), v]
theorem Brs.keep {K : PySem.W.Frag} {H H' : Hp} (e : Same H H') {as : List Addr} {ms : List (List Nat)} {vs : List V} (h : Brs K H as ms vs) : Brs K H' as ms vs := ⟨h.1, h.2.1, fun j a m v h1 h2 h3 => e.tup (h.2.2 j a m v h1 h2 h3)⟩
mutual
inductive ShAt (K : PySem.W.Frag) (H : Hp) : V → Sh → Prop
  | whole {a : Addr} {lo hi : Int} : SqT K H a [.str "whole", .int lo, .int hi] → ShAt K H (.ref a) (.whole lo hi)
  | text {a : Addr} {signs : List Nat} : SqT K H a [.str "text", .str (S signs)] → signs.length ≤ 1000 → ShAt K H (.ref a) (.text signs)
  | row {a b : Addr} {vs : List V} {ps : List Sh} : SqT K H a [.str "row", .ref b] → SqT K H b vs → ShAts K H vs ps → vs.length ≤ 1000 → ShAt K H (.ref a) (.row ps)
  | many {a : Addr} {v : V} {p : Sh} : SqT K H a [.str "many", v] → ShAt K H v p → ShAt K H (.ref a) (.many p)
  | pick {a b : Addr} {as : List Addr} {ms : List (List Nat)} {vs : List V} {ps : List Sh} : SqT K H a [.str "pick", .ref b] → SqT K H b (as.map V.ref) → Brs K H as ms vs → ShAts K H vs ps → as.length ≤ 1000 → ShAt K H (.ref a) (.pick ms ps)
  | use {a : Addr} {nm : List Nat} : SqT K H a [.str "use", .str (S nm)] → ShAt K H (.ref a) (.use nm)
inductive ShAts (K : PySem.W.Frag) (H : Hp) : List V → List Sh → Prop
  | nil : ShAts K H [] []
  | cons {v : V} {p : Sh} {vs : List V} {ps : List Sh} : ShAt K H v p → ShAts K H vs ps → ShAts K H (v :: vs) (p :: ps)
end
mutual
theorem ShAt.keep {K : PySem.W.Frag} {H H' : Hp} (e : Same H H') : ∀ {v : V} {d : Sh}, ShAt K H v d → ShAt K H' v d
  | _, _, .whole h => .whole (e.tup h)
  | _, _, .text h hl => .text (e.tup h) hl
  | _, _, .row h h2 hs hl => .row (e.tup h) (e.tup h2) (hs.keep e) hl
  | _, _, .many h h2 => .many (e.tup h) (h2.keep e)
  | _, _, .pick h h2 hb hs hl => .pick (e.tup h) (e.tup h2) (hb.keep e) (hs.keep e) hl
  | _, _, .use h => .use (e.tup h)
theorem ShAts.keep {K : PySem.W.Frag} {H H' : Hp} (e : Same H H') : ∀ {vs : List V} {ds : List Sh}, ShAts K H vs ds → ShAts K H' vs ds
  | _, _, .nil => .nil
  | _, _, .cons h hs => .cons (h.keep e) (hs.keep e)
end
theorem ShAts.length {K : PySem.W.Frag} {H : Hp} : ∀ {vs : List V} {ds : List Sh}, ShAts K H vs ds → vs.length = ds.length
  | _, _, .nil => rfl
  | _, _, .cons _ hs => congrArg (· + 1) hs.length
theorem ShAts.at {K : PySem.W.Frag} {H : Hp} : ∀ {vs : List V} {ds : List Sh} {i : Nat} {v : V}, ShAts K H vs ds → vs[i]? = some v → ∃ d, ds[i]? = some d ∧ ShAt K H v d
  | _, _, 0, v, .cons a _, h => by
    have : _ = v := Option.some.inj h
    subst this
    exact ⟨_, rfl, a⟩
  | _, _, i + 1, v, .cons _ b, h => b.at (i := i) h
/-- a book: names and shapes -/
abbrev Bk := List (List Nat × Sh)
def BkAt (K : PySem.W.Frag) (H : Hp) (b : V) (bk : Bk) : Prop := ∃ (a : Addr) (as : List Addr) (vs : List V), b = .ref a ∧ SqL K H a (as.map V.ref) ∧ Brs K H as (bk.map (·.1)) vs ∧ ShAts K H vs (bk.map (·.2))
theorem BkAt.keep {K : PySem.W.Frag} {H H' : Hp} (e : Same H H') {b : V} {bk : Bk} (h : BkAt K H b bk) : BkAt K H' b bk := by
  obtain ⟨a, as, vs, h1, h2, h3, h4⟩ := h
  exact ⟨a, as, vs, h1, e.seq h2, h3.keep e, h4.keep e⟩
/-- the first place of a mark -/
def plc (ms : List (List Nat)) (x : Str) : Option Nat := ms.findIdx? fun m => decide (S m = x)
def has_mk (ms : List (List Nat)) : PyData → Bool
  | .tuple [.str x, _] => (plc ms x).isSome
  | _ => false
def pick_in (ms : List (List Nat)) (ps : List Sh) : PyData → List (Sh × PyData)
  | .tuple [.str x, d] => ((plc ms x).bind fun i => ps[i]?).toList.map fun p => (p, d)
  | _ => []
theorem pick_inv {ms : List (List Nat)} {d : PyData} (h : has_mk ms d = true) : ∃ x d' i, d = .tuple [.str x, d'] ∧ plc ms x = some i := by
  unfold has_mk at h
  split at h
  · exact ⟨_, _, _, rfl, (Option.some_get h).symm⟩
  · cases h
theorem plc_at {ms : List (List Nat)} {x : Str} {i : Nat} (h : plc ms x = some i) : i < ms.length := by
  rw [plc, List.findIdx?_eq_some_iff_getElem] at h
  exact h.1
theorem pick_in_len {ms : List (List Nat)} {ps : List Sh} {d : PyData} : (pick_in ms ps d).length ≤ 1000 := by
  unfold pick_in
  split
  · rw [List.length_map]
    exact Nat.le_trans (by cases (plc _ _).bind _ <;> simp) (show 1 ≤ 1000 by decide)
  · exact Nat.zero_le _
/-- whether a value has the form of a shape, what is within it, its size by the sizes within -/
def form : Sh → PyData → Bool
  | .whole lo hi, .int i => decide (lo ≤ i) && decide (i ≤ hi)
  | .text signs, .str x => x.cps.toList.all fun c => decide (c ∈ signs)
  | .row ps, .tuple ds => decide (ds.length = ps.length)
  | .many _, .list _ => true
  | .pick ms _, d => has_mk ms d
  | .use _, _ => true
  | _, _ => false
def within (bk : Bk) : Sh → PyData → List (Sh × PyData)
  | .row ps, .tuple ds => ps.zip ds
  | .many p, .list ds => ds.map fun d => (p, d)
  | .pick ms ps, d => pick_in ms ps d
  | .use nm, d => ((plc (bk.map (·.1)) (S nm)).bind fun i => (bk.map (·.2))[i]?).toList.map fun p => (p, d)
  | _, _ => []
/-- the book has the name that a shape uses -/
def Fnd (bk : Bk) : Sh → Prop
  | .use nm => ∃ i, plc (bk.map (·.1)) (S nm) = some i
  | .text _ => False
  | _ => True
/-- so many turns are enough -/
def Enf (bk : Bk) : Nat → Sh → PyData → Prop
  | 0, _, _ => False
  | n + 1, sh, d => form sh d = true → Fnd bk sh ∧ ∀ w ∈ within bk sh d, Enf bk n w.1 w.2
theorem atI30 (a b c : V) : atI [a, b, c] 0 = some a := rfl
theorem atI31 (a b c : V) : atI [a, b, c] 1 = some b := rfl
theorem atI32 (a b c : V) : atI [a, b, c] 2 = some c := rfl
theorem atI20 (a b : V) : atI [a, b] 0 = some a := rfl
theorem atI21 (a b : V) : atI [a, b] 1 = some b := rfl
def spNo : Sp := fun _ _ _ _ => False
def sp_is_whole_number (K : PySem.W.Frag) : Sp := fun vs H Q _ => ∃ v d, vs = [v] ∧ Vd H v d ∧ Q (.bl (match d with | .int _ => true | _ => false)) H
theorem ok_is_whole_number  (R : g.Raw "is_whole_number" "is_whole_number" s_is_whole_number ["thing"]) (b_bool : g.mg "bool" = none) (b_int : g.mg "int" = none) (b_isinstance : g.mg "isinstance" = none) : g.Fn (1) "is_whole_number" ["thing"] (sp_is_whole_number g.K) := by
  refine R.fn sc_is_whole_number (fun vs H Q E h => by obtain ⟨v, d, rfl, hd, q⟩ := h; rfl) fun f_ cdv A outer s H vs Q E hr h => ?_
  obtain ⟨v, d, rfl, hd, q⟩ := h
  refine ⟨_, (@pss_one _ _ _ (@ps_ret _ _ _ _ (@pe_and _ _ _ _ _ _ _ (@pe_bf _ _ _ _ _ _ _ _ _ _ b_isinstance call_isinst (@pa_cons _ _ _ _ _ (@pv _ 0 _ _ (by rfl) (by first | exact Or.inl rfl | exact Or.inr (Or.inl rfl) | exact Or.inr (Or.inr rfl)) (by decide) (by decide)) (@pa_cons _ _ _ _ _ (@pe_bn _ _ _ _ ("int") b_int (by decide +kernel) (by rfl) (by rfl) (by decide) (by decide)) pa_nil (by rfl)) (by rfl)) (by decide +kernel) (by rfl) (by rfl) (by decide) (by decide) (by rfl) (by rfl)) (@pe_one _ _ _ _ _ (@pe_not _ _ _ _ (@pe_bf _ _ _ _ _ _ _ _ _ _ b_isinstance call_isinst (@pa_cons _ _ _ _ _ (@pv _ 0 _ _ (by rfl) (by first | exact Or.inl rfl | exact Or.inr (Or.inl rfl) | exact Or.inr (Or.inr rfl)) (by decide) (by decide)) (@pa_cons _ _ _ _ _ (@pe_bn _ _ _ _ ("bool") b_bool (by decide +kernel) (by rfl) (by rfl) (by decide) (by decide)) pa_nil (by rfl)) (by rfl)) (by decide +kernel) (by rfl) (by rfl) (by decide) (by decide) (by rfl) (by rfl))))))), ?_⟩
  walk_at "rd"
  cases hd with
  | non => exact ⟨_, rfl, _, .non, false, rfl, iteF q⟩
  | bl b => exact ⟨_, rfl, _, .bl b, true, rfl, iteT ⟨_, rfl, _, .bl b, true, rfl, q⟩⟩
  | int i => exact ⟨_, rfl, _, .int i, true, rfl, iteT ⟨_, rfl, _, .int i, false, rfl, q⟩⟩
  | str l h hl => exact ⟨_, rfl, _, .str _, false, rfl, iteF q⟩
  | lst h => exact ⟨_, rfl, _, .lst h, false, rfl, iteF q⟩
  | tup h => exact ⟨_, rfl, _, .tup h, false, rfl, iteF q⟩
def sp_branch_place (K : PySem.W.Frag) : Sp := fun vs H Q _ => ∃ (b : Addr) (as : List Addr) (ms : List (List Nat)) (us : List V) (x : Str), vs = [.ref b, .str x] ∧ SqT K H b (as.map V.ref) ∧ Brs K H as ms us ∧ ∀ H', Same H H' → Q (match plc ms x with | some i => .int (i : Nat) | none => .non) H'
theorem ok_branch_place  (R : g.Raw "branch_place" "branch_place" s_branch_place ["branches", "mark"]) (b_enumerate : g.mg "enumerate" = none) : g.Fn (1) "branch_place" ["branches", "mark"] (sp_branch_place g.K) := by
  refine R.fn sc_branch_place (fun vs H Q E h => by obtain ⟨b, as, ms, us, x, rfl, hb, hbr, q⟩ := h; rfl) fun f_ cdv A outer s H vs Q E hr h => ?_
  obtain ⟨b, as, ms, us, x, rfl, hb, hbr, q⟩ := h
  refine ⟨_, (@pss_cons _ _ _ _ _ (@ps_for _ _ _ _ _ _ _ _ PassesOwn.never rfl (@pi_enumT _ _ _ _ _ _ _ _ rfl b_enumerate (@pa_cons _ _ _ _ _ (@pv _ 0 _ _ (by rfl) (by first | exact Or.inl rfl | exact Or.inr (Or.inl rfl) | exact Or.inr (Or.inr rfl)) (by decide) (by decide)) pa_nil (by rfl)) (by rfl)) (@pg_tup _ _ _ _ _ (2) rfl (@pgs_cons _ _ _ _ _ (@pg_name _ _ (2) _ sc_branch_place.nd rfl (Or.inl rfl) (by first | exact .inl rfl | exact .inr rfl | assumption)) (@pgs_cons _ _ _ _ _ (@pg_name _ _ (3) _ sc_branch_place.nd rfl (Or.inl rfl) (by first | exact .inl rfl | exact .inr rfl | assumption)) pgs_nil (by rfl)) (by rfl)) (by rfl) (by rfl)) (@pss_one _ _ _ (@ps_if _ _ _ _ _ _ _ _ (@pt_cmpR _ _ _ _ _ _ _ _ op_eq (@pe_ix _ _ _ _ _ _ _ ix_tup (@pv _ 3 _ _ (by rfl) (by first | exact Or.inl rfl | exact Or.inr (Or.inl rfl) | exact Or.inr (Or.inr rfl)) (by decide) (by decide)) pe_int (fun _ _ => rfl)) (@pv _ 1 _ _ (by rfl) (by first | exact Or.inl rfl | exact Or.inr (Or.inl rfl) | exact Or.inr (Or.inr rfl)) (by decide) (by decide)) (nomark _)) (@pss_one _ _ _ (@ps_ret _ _ _ _ (@pv _ 2 _ _ (by rfl) (by first | exact Or.inl rfl | exact Or.inr (Or.inl rfl) | exact Or.inr (Or.inr rfl)) (by decide) (by decide)))) pss_nil)) (by intro _; rfl)) (@pss_one _ _ _ (@ps_ret _ _ _ _ pe_non))), ?_⟩
  walk_at "rd"
  refine tFor_enumT (K := g.K) (xs := as.map V.ref) (fun i σ H' => ∃ o2 o3, σ = [some (.ref b), some (.str x), o2, o3] ∧ Same H H' ∧ ∀ j m, j < i → ms[j]? = some m → S m ≠ x) (fun R r => by walk_at "rd"; exact r) ⟨_, _, rfl, .refl H, fun j m h => by omega⟩ (fun i σ H' hi ⟨o2, o3, _, sm, _⟩ => sm.tup hb) ?_ ?_
  · rintro i v σ H' T hv ⟨o2, o3, rfl, sm, hno⟩ hT
    obtain ⟨b1, b2, b3⟩ := hbr
    have hi : i < as.length := by simpa using (List.getElem?_eq_some_iff.mp hv).1
    have ha : as[i]? = some as[i] := List.getElem?_eq_getElem hi
    rw [List.getElem?_map, ha] at hv
    have : V.ref as[i] = v := Option.some.inj hv
    subst this
    have hm : ms[i]? = some (ms[i]'(by omega)) := List.getElem?_eq_getElem _
    have hu : us[i]? = some (us[i]'(by omega)) := List.getElem?_eq_getElem _
    have ht := b3 i _ _ _ ha hm hu
    have s2 := sm.trans (.upd_new hT (.tup [.int (i : Int), .ref as[i]]))
    generalize hme : ms[i]'(by omega) = m at hm ht
    walk_at "rd"
    refine ⟨_, SqT.of upd_same, rfl, _, _, rfl, _, _, rfl, rfl, _, rfl, _, s2.tup ht, _, atI20 _ _, rfl, ?_⟩
    by_cases c : S m = x
    · have hp : plc ms x = some i := by
        rw [plc, List.findIdx?_eq_some_iff_getElem]
        refine ⟨by omega, decide_eq_true (by rw [hme]; exact c), fun j hj => ?_⟩
        have := hno j (ms[j]'(by omega)) hj (List.getElem?_eq_getElem _)
        simpa using this
      rw [if_pos (congrArg V.str c)]
      have q := q _ s2
      rw [hp] at q
      exact q
    · rw [if_neg (fun e => c (V.str.inj e))]
      refine ⟨s2, fun j m' hj hm' => ?_⟩
      rcases Nat.lt_or_ge j i with h | h
      · exact hno j m' h hm'
      · have : j = i := by omega
        subst this
        rw [hm] at hm'
        have := Option.some.inj hm'
        subst this
        exact c
  · rintro σ H' ⟨o2, o3, rfl, sm, hno⟩
    walk_at "rd"
    have : plc ms x = none := by
      rw [plc, List.findIdx?_eq_none_iff]
      intro m hm
      obtain ⟨j, hj⟩ := List.mem_iff_getElem?.mp hm
      have hjl := (List.getElem?_eq_some_iff.mp hj).1
      exact decide_eq_false (hno j m (by rw [List.length_map, hbr.1]; exact hjl) hj)
    have q := q H' sm
    rw [this] at q
    exact q
theorem has_mk_form {ms : List (List Nat)} (ps : List Sh) (d : PyData) : has_mk ms d = form (.pick ms ps) d := by cases d <;> rfl
theorem within_use (bk : Bk) (nm : List Nat) (d : PyData) : within bk (.use nm) d = ((plc (bk.map (·.1)) (S nm)).bind fun i => (bk.map (·.2))[i]?).toList.map fun p => (p, d) := by cases d <;> rfl
theorem within_pick (bk : Bk) (ms : List (List Nat)) (ps : List Sh) (d : PyData) : within bk (.pick ms ps) d = pick_in ms ps d := by cases d <;> rfl
def sp_shape_of (K : PySem.W.Frag) : Sp := fun vs H Q _ => ∃ (b : V) (bk : Bk) (x : Str) (i : Nat) (H0 : Hp), vs = [b, .str x] ∧ Same H0 H ∧ BkAt K H0 b bk ∧ plc (bk.map (·.1)) x = some i ∧ ∀ v sh, (bk.map (·.2))[i]? = some sh → ShAt K H0 v sh → Q v H
theorem ok_shape_of  (R : g.Raw "shape_of" "shape_of" s_shape_of ["book", "name"]) : g.Fn (1) "shape_of" ["book", "name"] (sp_shape_of g.K) := by
  refine R.fn sc_shape_of (fun vs H Q E h => by obtain ⟨b, bk, x, i, H0, rfl, s0, hb, hi, q⟩ := h; rfl) fun f_ cdv A outer s H vs Q E hr h => ?_
  obtain ⟨b, bk, x, i, H0, rfl, s0, hb, hi, q⟩ := h
  refine ⟨_, (@pss_cons _ _ _ _ _ (@ps_for _ _ _ _ _ _ _ _ PassesOwn.never rfl (@pi_list _ _ _ _ (@pv _ 0 _ _ (by rfl) (by first | exact Or.inl rfl | exact Or.inr (Or.inl rfl) | exact Or.inr (Or.inr rfl)) (by decide) (by decide))) (@pg_name _ _ (2) _ sc_shape_of.nd rfl (Or.inl rfl) (by first | exact .inl rfl | exact .inr rfl | assumption)) (@pss_one _ _ _ (@ps_if _ _ _ _ _ _ _ _ (@pt_cmpR _ _ _ _ _ _ _ _ op_eq (@pe_ix _ _ _ _ _ _ _ ix_tup (@pv _ 2 _ _ (by rfl) (by first | exact Or.inl rfl | exact Or.inr (Or.inl rfl) | exact Or.inr (Or.inr rfl)) (by decide) (by decide)) pe_int (fun _ _ => rfl)) (@pv _ 1 _ _ (by rfl) (by first | exact Or.inl rfl | exact Or.inr (Or.inl rfl) | exact Or.inr (Or.inr rfl)) (by decide) (by decide)) (nomark _)) (@pss_one _ _ _ (@ps_ret _ _ _ _ (@pe_ix _ _ _ _ _ _ _ ix_tup (@pv _ 2 _ _ (by rfl) (by first | exact Or.inl rfl | exact Or.inr (Or.inl rfl) | exact Or.inr (Or.inr rfl)) (by decide) (by decide)) pe_int (fun _ _ => rfl)))) pss_nil)) (by intro _; rfl)) (@pss_one _ _ _ ps_never)), ?_⟩
  obtain ⟨a, as, vs, rfl, hS, ⟨b1, b2, b3⟩, hsh⟩ := hb
  have hil := plc_at hi
  walk_at "rd"
  refine tFor_list (K := g.K) (a := a) (xs := as.map V.ref) (fun j σ H' => ∃ o2, σ = [some (.ref a), some (.str x), o2] ∧ H' = H ∧ j ≤ i) (fun R r => by walk_at "rd"; exact r) ⟨_, rfl, rfl, Nat.zero_le _⟩ (fun j σ H' _ ⟨o2, _, e, _⟩ => by rw [e]; exact s0.seq hS) ?_ ?_
  · rintro j v σ H' hv ⟨o2, rfl, rfl, hj⟩
    have hjl : j < as.length := by simpa using (List.getElem?_eq_some_iff.mp hv).1
    have ha : as[j]? = some as[j] := List.getElem?_eq_getElem hjl
    rw [List.getElem?_map, ha] at hv
    have : V.ref as[j] = v := Option.some.inj hv
    subst this
    have hm : (bk.map (·.1))[j]? = some ((bk.map (·.1))[j]'(by omega)) := List.getElem?_eq_getElem _
    have hu : vs[j]? = some (vs[j]'(by omega)) := List.getElem?_eq_getElem _
    have ht := b3 j _ _ _ ha hm hu
    obtain ⟨sh, g1, s1⟩ := hsh.at hu
    have hpl := hi
    rw [plc, List.findIdx?_eq_some_iff_getElem] at hpl
    obtain ⟨_, p1, p2⟩ := hpl
    walk_at "rd"
    refine ⟨_, s0.tup ht, _, atI20 _ _, rfl, ?_⟩
    by_cases c : S ((bk.map (·.1))[j]'(by omega)) = x
    · have : j = i := by
        rcases Nat.lt_or_ge j i with h | h
        · exact ((p2 j h) (decide_eq_true c)).elim
        · omega
      subst this
      rw [if_pos (congrArg V.str c)]
      exact ⟨_, s0.tup ht, _, atI21 _ _, q _ _ g1 s1⟩
    · rw [if_neg (fun e => c (V.str.inj e))]
      have : j ≠ i := fun e => by subst e; exact c (of_decide_eq_true p1)
      omega
  · rintro σ H' ⟨o2, rfl, rfl, hj⟩
    rw [List.length_map] at hj
    rw [List.length_map] at hil b1
    omega
def sp_has_mark (K : PySem.W.Frag) : Sp := fun vs H Q _ => ∃ (b : Addr) (as : List Addr) (ms : List (List Nat)) (us : List V) (v : V) (d : PyData), vs = [.ref b, v] ∧ SqT K H b (as.map V.ref) ∧ Brs K H as ms us ∧ Vd H v d ∧ ∀ H', Same H H' → Q (.bl (has_mk ms d)) H'
theorem ok_has_mark {k : Nat}  (R : g.Raw "has_mark" "has_mark" s_has_mark ["branches", "value"]) (F_branch_place : g.Fn k "branch_place" ["branches", "mark"] (sp_branch_place g.K)) (b_isinstance : g.mg "isinstance" = none) (b_len : g.mg "len" = none) (b_str : g.mg "str" = none) (b_tuple : g.mg "tuple" = none) : g.Fn (k + 1) "has_mark" ["branches", "value"] (sp_has_mark g.K) := by
  refine R.fn sc_has_mark (fun vs H Q E h => by obtain ⟨b, as, ms, us, v, d, rfl, hb, hbr, hv, q⟩ := h; rfl) fun f_ cdv A outer s H vs Q E hr h => ?_
  obtain ⟨b, as, ms, us, v, d, rfl, hb, hbr, hv, q⟩ := h
  refine ⟨_, (@pss_cons _ _ _ _ _ (@ps_if _ _ _ _ _ _ _ _ (@pw_or _ _ _ _ _ _ _ (@pt_not _ _ _ _ (@pt_val _ _ _ (@pe_bf _ _ _ _ _ _ _ _ _ _ b_isinstance call_isinst (@pa_cons _ _ _ _ _ (@pv _ 1 _ _ (by rfl) (by first | exact Or.inl rfl | exact Or.inr (Or.inl rfl) | exact Or.inr (Or.inr rfl)) (by decide) (by decide)) (@pa_cons _ _ _ _ _ (@pe_bn _ _ _ _ ("tuple") b_tuple (by decide +kernel) (by rfl) (by rfl) (by decide) (by decide)) pa_nil (by rfl)) (by rfl)) (by decide +kernel) (by rfl) (by rfl) (by decide) (by decide) (by rfl) (by rfl)) (by intro _; rfl))) (@pw_or1 _ _ _ _ (@pt_cmpR _ _ _ _ _ _ _ _ op_ne (@pe_bf _ _ _ _ _ _ _ _ _ _ b_len call_len_seq (@pa_cons _ _ _ _ _ (@pv _ 1 _ _ (by rfl) (by first | exact Or.inl rfl | exact Or.inr (Or.inl rfl) | exact Or.inr (Or.inr rfl)) (by decide) (by decide)) pa_nil (by rfl)) (by decide +kernel) (by rfl) (by rfl) (by decide) (by decide) (by rfl) (by rfl)) pe_int (nomark _)))).pt (@pss_one _ _ _ (@ps_ret _ _ _ _ pe_bl)) pss_nil) (@pss_one _ _ _ (@ps_ret _ _ _ _ (@pe_and _ _ _ _ _ _ _ (@pe_bf _ _ _ _ _ _ _ _ _ _ b_isinstance call_isinst (@pa_cons _ _ _ _ _ (@pe_ix _ _ _ _ _ _ _ ix_tup (@pv _ 1 _ _ (by rfl) (by first | exact Or.inl rfl | exact Or.inr (Or.inl rfl) | exact Or.inr (Or.inr rfl)) (by decide) (by decide)) pe_int (fun _ _ => rfl)) (@pa_cons _ _ _ _ _ (@pe_bn _ _ _ _ ("str") b_str (by decide +kernel) (by rfl) (by rfl) (by decide) (by decide)) pa_nil (by rfl)) (by rfl)) (by decide +kernel) (by rfl) (by rfl) (by decide) (by decide) (by rfl) (by rfl)) (@pe_one _ _ _ _ _ (@pe_cmpR _ _ _ _ _ _ _ _ op_notN (@pe_fn _ _ _ _ _ _ _ _ _ _ _ _ F_branch_place hr (@pa_cons _ _ _ _ _ (@pv _ 0 _ _ (by rfl) (by first | exact Or.inl rfl | exact Or.inr (Or.inl rfl) | exact Or.inr (Or.inr rfl)) (by decide) (by decide)) (@pa_cons _ _ _ _ _ (@pe_ix _ _ _ _ _ _ _ ix_tup (@pv _ 1 _ _ (by rfl) (by first | exact Or.inl rfl | exact Or.inr (Or.inl rfl) | exact Or.inr (Or.inr rfl)) (by decide) (by decide)) pe_int (fun _ _ => rfl)) pa_nil (by rfl)) (by rfl)) (by omega) (by rfl) (by rfl) (by decide) (by rfl) (by rfl)) pe_non (nomark _))))))), ?_⟩
  have q0 := q H (.refl H)
  have ty := hv.ty (K := g.K)
  walk_at "rd"
  cases hv with
  | @tup a vs ds h hl hds =>
    refine ⟨_, rfl, _, ty, true, rfl, iteN (by simp) ⟨a, rfl, _, .inr (SqT.of h), ?_⟩⟩
    cases hds with
    | nil => exact iteY (by simp) q0
    | @cons v1 d1 vs1 ds1 h1 hds1 =>
    cases hds1 with
    | nil => cases d1 <;> exact iteY (by simp) q0
    | @cons v2 d2 vs2 ds2 h2 hds2 =>
    cases hds2 with
    | @cons v3 d3 vs3 ds3 h3 hds3 => cases d1 <;> exact iteY (by simp; omega) q0
    | nil =>
    refine iteN (by simp) ⟨a, rfl, _, SqT.of h, _, atI20 _ _, _, rfl, _, h1.ty, ?_⟩
    cases h1 with
    | str l hs hl =>
      refine ⟨true, rfl, iteT ⟨a, rfl, _, SqT.of h, _, atI20 _ _, b, as, ms, us, S l, rfl, hb, hbr, fun H' s' => ?_⟩⟩
      have q := q H' s'
      simp only [has_mk] at q
      cases e : plc ms (S l) with
      | none => rw [e] at q; exact q
      | some i => rw [e] at q; exact q
    | _ => exact ⟨false, rfl, iteF q0⟩
  | _ => exact ⟨_, rfl, _, ty, false, rfl, iteY rfl q0⟩
def sp_has_form (K : PySem.W.Frag) : Sp := fun vs H Q _ => ∃ (x v : V) (sh : Sh) (d : PyData), vs = [x, v] ∧ ShAt K H x sh ∧ Vd H v d ∧ ∀ H', Same H H' → Q (.bl (form sh d)) H'
theorem ok_has_form {k : Nat}  (R : g.Raw "has_form" "has_form" s_has_form ["shape", "value"]) (F_is_whole_number : g.Fn k "is_whole_number" ["thing"] (sp_is_whole_number g.K)) (F_has_mark : g.Fn k "has_mark" ["branches", "value"] (sp_has_mark g.K)) (b_all : g.mg "all" = none) (b_isinstance : g.mg "isinstance" = none) (b_len : g.mg "len" = none) (b_list : g.mg "list" = none) (b_str : g.mg "str" = none) (b_tuple : g.mg "tuple" = none) (c_OF_ONE_PART : g.ConT "OF_ONE_PART" ([.str "many", .str "rising", .str "unlike"])) : g.Fn (k + 1) "has_form" ["shape", "value"] (sp_has_form g.K) := by
  refine R.fn sc_has_form (fun vs H Q E h => by obtain ⟨x, v, sh, d, rfl, hx, hv, q⟩ := h; rfl) fun f_ cdv A outer s H vs Q E hr h => ?_
  obtain ⟨x, v, sh, d, rfl, hx, hv, q⟩ := h
  refine ⟨_, (@pss_cons _ _ _ _ _ (@ps_set _ _ (2) _ _ _ _ sc_has_form.nd rfl (Or.inl rfl) (@pe_ix _ _ _ _ _ _ _ ix_tup (@pv _ 0 _ _ (by rfl) (by first | exact Or.inl rfl | exact Or.inr (Or.inl rfl) | exact Or.inr (Or.inr rfl)) (by decide) (by decide)) pe_int (fun _ _ => rfl)) (by rfl) (by first | exact .inl rfl | exact .inr rfl | assumption)) (@pss_cons _ _ _ _ _ (@ps_if _ _ _ _ _ _ _ _ (@pt_cmpR _ _ _ _ _ _ _ _ op_eq (@pv _ 2 _ _ (by rfl) (by first | exact Or.inl rfl | exact Or.inr (Or.inl rfl) | exact Or.inr (Or.inr rfl)) (by decide) (by decide)) pe_str (nomark _)) (@pss_one _ _ _ (@ps_ret _ _ _ _ (@pe_and _ _ _ _ _ _ _ (@pe_fn _ _ _ _ _ _ _ _ _ _ _ _ F_is_whole_number hr (@pa_cons _ _ _ _ _ (@pv _ 1 _ _ (by rfl) (by first | exact Or.inl rfl | exact Or.inr (Or.inl rfl) | exact Or.inr (Or.inr rfl)) (by decide) (by decide)) pa_nil (by rfl)) (by omega) (by rfl) (by rfl) (by decide) (by rfl) (by rfl)) (@pe_one _ _ _ _ _ (@pe_chain _ _ _ _ _ _ _ _ _ _ _ _ op_le op_le (@pe_ix _ _ _ _ _ _ _ ix_tup (@pv _ 0 _ _ (by rfl) (by first | exact Or.inl rfl | exact Or.inr (Or.inl rfl) | exact Or.inr (Or.inr rfl)) (by decide) (by decide)) pe_int (fun _ _ => rfl)) (@pv _ 1 _ _ (by rfl) (by first | exact Or.inl rfl | exact Or.inr (Or.inl rfl) | exact Or.inr (Or.inr rfl)) (by decide) (by decide)) (@pe_ix _ _ _ _ _ _ _ ix_tup (@pv _ 0 _ _ (by rfl) (by first | exact Or.inl rfl | exact Or.inr (Or.inl rfl) | exact Or.inr (Or.inr rfl)) (by decide) (by decide)) pe_int (fun _ _ => rfl)) (by with_unfolding_all rfl)))))) pss_nil) (@pss_cons _ _ _ _ _ (@ps_if _ _ _ _ _ _ _ _ (@pt_cmpR _ _ _ _ _ _ _ _ op_eq (@pv _ 2 _ _ (by rfl) (by first | exact Or.inl rfl | exact Or.inr (Or.inl rfl) | exact Or.inr (Or.inr rfl)) (by decide) (by decide)) pe_str (nomark _)) (@pss_one _ _ _ (@ps_ret _ _ _ _ (@pe_and _ _ _ _ _ _ _ (@pe_bf _ _ _ _ _ _ _ _ _ _ b_isinstance call_isinst (@pa_cons _ _ _ _ _ (@pv _ 1 _ _ (by rfl) (by first | exact Or.inl rfl | exact Or.inr (Or.inl rfl) | exact Or.inr (Or.inr rfl)) (by decide) (by decide)) (@pa_cons _ _ _ _ _ (@pe_bn _ _ _ _ ("str") b_str (by decide +kernel) (by rfl) (by rfl) (by decide) (by decide)) pa_nil (by rfl)) (by rfl)) (by decide +kernel) (by rfl) (by rfl) (by decide) (by decide) (by rfl) (by rfl)) (@pe_one _ _ _ _ _ (@pe_bf _ _ _ _ _ _ _ _ _ _ b_all (call_all_bools rfl) (@pa_cons _ _ _ _ _ (@pe_lc _ _ _ _ _ _ _ ([none, some 0]) ((["sign", "shape"] : List Str)) _ (gName 0) _ _ (.own (.cap (i := 0) rfl rfl (by first | exact Or.inl rfl | exact Or.inr rfl) .nil)) rfl (@pi_str _ _ _ _ (@pv _ 1 _ _ (by rfl) (by first | exact Or.inl rfl | exact Or.inr (Or.inl rfl) | exact Or.inr (Or.inr rfl)) (by decide) (by decide))) (fun cl C s₀ H₀ fp pn => (@pg_name _ _ (0) _ (show List.Nodup (["sign", "shape"] : List Str) by decide +kernel) rfl (Or.inl rfl) (Or.inr rfl))) (fun cl C s₀ H₀ fp pn => pts_nil) (fun cl C s₀ H₀ fp pn => (@pe_cmpR _ _ _ _ _ _ _ _ op_in_str (@pv _ 0 _ _ (by rfl) (by first | exact Or.inl rfl | exact Or.inr (Or.inl rfl) | exact Or.inr (Or.inr rfl)) (by decide) (by decide)) (@pe_ix _ _ _ _ _ _ _ (ix_tupK (K := g.K)) (@pv _ 1 _ _ (by rfl) (by first | exact Or.inl rfl | exact Or.inr (Or.inl rfl) | exact Or.inr (Or.inr rfl)) (by decide) (by decide)) pe_int (fun _ _ => rfl)) rfl)) (by intro x hx; simp at hx; first | (subst hx; exact Or.inl rfl) | (rcases hx with rfl | rfl <;> exact Or.inl rfl) | (rcases hx with rfl | rfl | rfl <;> exact Or.inl rfl)) (by rfl) (by decide) (by decide +kernel) (by intro _; rfl)) pa_nil (by rfl)) (by decide +kernel) (by rfl) (by rfl) (by decide) (by decide) (by rfl) (by rfl)))))) pss_nil) (@pss_cons _ _ _ _ _ (@ps_if _ _ _ _ _ _ _ _ (@pt_cmpR _ _ _ _ _ _ _ _ op_eq (@pv _ 2 _ _ (by rfl) (by first | exact Or.inl rfl | exact Or.inr (Or.inl rfl) | exact Or.inr (Or.inr rfl)) (by decide) (by decide)) pe_str (nomark _)) (@pss_one _ _ _ (@ps_ret _ _ _ _ (@pe_and _ _ _ _ _ _ _ (@pe_bf _ _ _ _ _ _ _ _ _ _ b_isinstance call_isinst (@pa_cons _ _ _ _ _ (@pv _ 1 _ _ (by rfl) (by first | exact Or.inl rfl | exact Or.inr (Or.inl rfl) | exact Or.inr (Or.inr rfl)) (by decide) (by decide)) (@pa_cons _ _ _ _ _ (@pe_bn _ _ _ _ ("tuple") b_tuple (by decide +kernel) (by rfl) (by rfl) (by decide) (by decide)) pa_nil (by rfl)) (by rfl)) (by decide +kernel) (by rfl) (by rfl) (by decide) (by decide) (by rfl) (by rfl)) (@pe_one _ _ _ _ _ (@pe_cmpR _ _ _ _ _ _ _ _ op_eq (@pe_bf _ _ _ _ _ _ _ _ _ _ b_len call_len_seq (@pa_cons _ _ _ _ _ (@pv _ 1 _ _ (by rfl) (by first | exact Or.inl rfl | exact Or.inr (Or.inl rfl) | exact Or.inr (Or.inr rfl)) (by decide) (by decide)) pa_nil (by rfl)) (by decide +kernel) (by rfl) (by rfl) (by decide) (by decide) (by rfl) (by rfl)) (@pe_bf _ _ _ _ _ _ _ _ _ _ b_len call_len_seq (@pa_cons _ _ _ _ _ (@pe_ix _ _ _ _ _ _ _ ix_tup (@pv _ 0 _ _ (by rfl) (by first | exact Or.inl rfl | exact Or.inr (Or.inl rfl) | exact Or.inr (Or.inr rfl)) (by decide) (by decide)) pe_int (fun _ _ => rfl)) pa_nil (by rfl)) (by decide +kernel) (by rfl) (by rfl) (by decide) (by decide) (by rfl) (by rfl)) (nomark _)))))) pss_nil) (@pss_cons _ _ _ _ _ (@ps_if _ _ _ _ _ _ _ _ (@pt_cmpR _ _ _ _ _ _ _ _ op_eq (@pv _ 2 _ _ (by rfl) (by first | exact Or.inl rfl | exact Or.inr (Or.inl rfl) | exact Or.inr (Or.inr rfl)) (by decide) (by decide)) pe_str (nomark _)) (@pss_one _ _ _ (@ps_ret _ _ _ _ (@pe_fn _ _ _ _ _ _ _ _ _ _ _ _ F_has_mark hr (@pa_cons _ _ _ _ _ (@pe_ix _ _ _ _ _ _ _ ix_tup (@pv _ 0 _ _ (by rfl) (by first | exact Or.inl rfl | exact Or.inr (Or.inl rfl) | exact Or.inr (Or.inr rfl)) (by decide) (by decide)) pe_int (fun _ _ => rfl)) (@pa_cons _ _ _ _ _ (@pv _ 1 _ _ (by rfl) (by first | exact Or.inl rfl | exact Or.inr (Or.inl rfl) | exact Or.inr (Or.inr rfl)) (by decide) (by decide)) pa_nil (by rfl)) (by rfl)) (by omega) (by rfl) (by rfl) (by decide) (by rfl) (by rfl)))) pss_nil) (@pss_cons _ _ _ _ _ (@ps_if _ _ _ _ _ _ _ _ (@pt_cmpR _ _ _ _ _ _ _ _ op_eq (@pv _ 2 _ _ (by rfl) (by first | exact Or.inl rfl | exact Or.inr (Or.inl rfl) | exact Or.inr (Or.inr rfl)) (by decide) (by decide)) pe_str (nomark _)) (@pss_one _ _ _ ps_never) pss_nil) (@pss_cons _ _ _ _ _ (@ps_if _ _ _ _ _ _ _ _ (@pt_cmpR _ _ _ _ _ _ _ _ op_in_seq (@pv _ 2 _ _ (by rfl) (by first | exact Or.inl rfl | exact Or.inr (Or.inl rfl) | exact Or.inr (Or.inr rfl)) (by decide) (by decide)) (@pe_gt _ _ _ _ _ c_OF_ONE_PART (by rfl) (by rfl) (by decide)) rfl) (@pss_one _ _ _ (@ps_ret _ _ _ _ (@pe_bf _ _ _ _ _ _ _ _ _ _ b_isinstance call_isinst (@pa_cons _ _ _ _ _ (@pv _ 1 _ _ (by rfl) (by first | exact Or.inl rfl | exact Or.inr (Or.inl rfl) | exact Or.inr (Or.inr rfl)) (by decide) (by decide)) (@pa_cons _ _ _ _ _ (@pe_bn _ _ _ _ ("list") b_list (by decide +kernel) (by rfl) (by rfl) (by decide) (by decide)) pa_nil (by rfl)) (by rfl)) (by decide +kernel) (by rfl) (by rfl) (by decide) (by decide) (by rfl) (by rfl)))) pss_nil) (@pss_one _ _ _ (@ps_ret _ _ _ _ pe_bl))))))))), ?_⟩
  have q0 := q H (.refl H)
  have ty := hv.ty (K := g.K)
  cases hx with
  | @whole a lo hi ha =>
    walk_at "rd"
    refine ⟨_, ha, _, atI30 _ _ _, ?_⟩
    walk_at "rd"
    refine ⟨v, d, rfl, hv, _, rfl, ?_⟩
    cases hv with
    | int i =>
      refine iteT ⟨_, ha, _, atI31 _ _ _, _, rfl, _, rfl, ?_⟩
      refine ite2 (fun c => ?_) (fun c => ?_)
      · refine ⟨_, ha, _, atI32 _ _ _, _, rfl, _, rfl, ?_⟩
        simp only [form, decide_eq_true c, Bool.true_and] at q0; exact q0
      · simp only [form, decide_eq_false c, Bool.false_and] at q0; exact q0
    | _ => exact iteF q0
  | @text a signs ha hn =>
    walk_at "rd"
    refine ⟨_, ha, _, atI20 _ _, ?_⟩
    walk_at "rd"
    refine iteN (by decide) ?_
    cases hv with
    | str l h hl =>
      refine ⟨_, rfl, _, .str _, true, rfl, iteT ?_⟩
      refine tLC_str (l := l) ((l.map fun c => decide (c ∈ signs)).map V.bl) (fun R r => by walk_at "rd"; exact r) (by simp) (by omega) ?_ ?_
      · intro i c y H' hc hy sm R r
        rw [List.getElem?_map, List.getElem?_map, hc] at hy
        have : V.bl (decide (c ∈ signs)) = y := Option.some.inj hy
        subst this
        walk_at "rd"
        refine ⟨_, sm.tup ha, _, atI21 _ _, ?_⟩
        walk_at "rd"
        rw [in_sign]
        exact r H' (.refl H')
      · intro D H' hD sm hd
        refine ⟨D, rfl, _, SqL.of hd, ?_⟩
        have := q H' sm
        simp only [form, S_list] at this
        simpa [List.all_map] using this
    | _ => exact ⟨_, rfl, _, ty, false, rfl, iteF q0⟩
  | @row a b vs ps ha hb hs hn =>
    walk_at "rd"
    refine ⟨_, ha, _, atI20 _ _, ?_⟩
    walk_at "rd"
    refine iteN (by decide) (iteN (by decide) ?_)
    cases hv with
    | @tup c us ds h hl hds =>
      refine ⟨_, rfl, _, ty, true, rfl, iteT ⟨_, rfl, _, .inr (SqT.of h), _, ha, _, atI21 _ _, _, rfl, _, .inr hb, ?_⟩⟩
      have e1 := hds.length
      have e2 := hs.length
      rw [show decide ((us.length : Int) = (vs.length : Int)) = form (.row ps) (.tuple ds) from decide_eq_decide.mpr (by omega)]
      exact q0
    | _ => exact ⟨_, rfl, _, ty, false, rfl, iteF q0⟩
  | @many a v' p ha hp =>
    walk_at "rd"
    refine ⟨_, ha, _, atI20 _ _, ?_⟩
    walk_at "rd"
    refine iteN (by decide) (iteN (by decide) (iteN (by decide) (iteN (by decide) (iteN (by decide) fun c hc => ⟨_, .inr hc, rfl, rfl, iteY (by decide +kernel) ?_⟩))))
    cases hv with
    | lst h hl hds => exact ⟨_, rfl, _, ty, true, rfl, q0⟩
    | _ => exact ⟨_, rfl, _, ty, false, rfl, q0⟩
  | @pick a b as ms us ps ha hb hbr hs hn =>
    walk_at "rd"
    refine ⟨_, ha, _, atI20 _ _, ?_⟩
    walk_at "rd"
    refine iteN (by decide) (iteN (by decide) (iteN (by decide) ?_))
    refine ⟨_, ha, _, atI21 _ _, b, as, ms, us, v, d, rfl, hb, hbr, hv, fun H' s' => ?_⟩
    rw [has_mk_form ps]
    exact q H' s'
  | @use a nm ha =>
    walk_at "rd"
    refine ⟨_, ha, _, atI20 _ _, ?_⟩
    walk_at "rd"
    refine iteN (by decide) (iteN (by decide) (iteN (by decide) (iteN (by decide) (iteN (by decide) fun c hc => ⟨_, .inr hc, rfl, rfl, iteN (by decide +kernel) ?_⟩))))
    exact q0
def Pairs (K : PySem.W.Frag) (H0 H : Hp) (as : List Addr) (ws : List (Sh × PyData)) : Prop := as.length = ws.length ∧ ∀ (j : Nat) a w, as[j]? = some a → ws[j]? = some w → ∃ y z, H a = some (.tup [y, z]) ∧ ShAt K H0 y w.1 ∧ Vd H0 z w.2
def sp_things_within (K : PySem.W.Frag) : Sp := fun vs H Q _ => ∃ (bk : Bk) (b x v : V) (sh : Sh) (d : PyData) (H0 : Hp), vs = [b, x, v] ∧ Same H0 H ∧ BkAt K H0 b bk ∧ Fnd bk sh ∧ ShAt K H0 x sh ∧ Vd H0 v d ∧ form sh d = true ∧ ∀ l as H', Same H H' → H l = none → H' l = some (.lst (as.map V.ref)) → Pairs K H0 H' as (within bk sh d) → Q (.ref l) H'
theorem within_whole (bk : Bk) (lo hi : Int) (d : PyData) : within bk (.whole lo hi) d = [] := by cases d <;> rfl
theorem within_text (bk : Bk) (s : List Nat) (d : PyData) : within bk (.text s) d = [] := by cases d <;> rfl
theorem pairs_nil (K : PySem.W.Frag) (H0 H : Hp) : Pairs K H0 H [] [] := ⟨rfl, fun j a w h => by simp at h⟩
variable {bk : Bk}
theorem ok_things_within {k : Nat}  (R : g.Raw "things_within" "things_within" s_things_within ["book", "shape", "value"]) (F_shape_of : g.Fn k "shape_of" ["book", "name"] (sp_shape_of g.K)) (F_branch_place : g.Fn k "branch_place" ["branches", "mark"] (sp_branch_place g.K)) (b_list : g.mg "list" = none) (b_zip : g.mg "zip" = none) (c_OF_ONE_PART : g.ConT "OF_ONE_PART" ([.str "many", .str "rising", .str "unlike"])) : g.Fn (k + 1) "things_within" ["book", "shape", "value"] (sp_things_within g.K) := by
  refine R.fn sc_things_within (fun vs H Q E h => by obtain ⟨bk, b, x, v, sh, d, H0, rfl, s0, hbk, hfd, hx, hv, hf, q⟩ := h; rfl) fun f_ cdv A outer s H vs Q E hr h => ?_
  obtain ⟨bk, b, x, v, sh, d, H0, rfl, s0, hbk, hfd, hx, hv, hf, q⟩ := h
  refine ⟨_, (@pss_cons _ _ _ _ _ (@ps_set _ _ (3) _ _ _ _ sc_things_within.nd rfl (Or.inl rfl) (@pe_ix _ _ _ _ _ _ _ ix_tup (@pv _ 1 _ _ (by rfl) (by first | exact Or.inl rfl | exact Or.inr (Or.inl rfl) | exact Or.inr (Or.inr rfl)) (by decide) (by decide)) pe_int (fun _ _ => rfl)) (by rfl) (by first | exact .inl rfl | exact .inr rfl | assumption)) (@pss_cons _ _ _ _ _ (@ps_if _ _ _ _ _ _ _ _ (@pt_cmpR _ _ _ _ _ _ _ _ op_eq (@pv _ 3 _ _ (by rfl) (by first | exact Or.inl rfl | exact Or.inr (Or.inl rfl) | exact Or.inr (Or.inr rfl)) (by decide) (by decide)) pe_str (nomark _)) (@pss_one _ _ _ (@ps_ret _ _ _ _ (@pe_list_zip _ _ _ _ _ _ _ _ rfl b_list rfl b_zip (@pa_cons _ _ _ _ _ (@pe_ix _ _ _ _ _ _ _ ix_tup (@pv _ 1 _ _ (by rfl) (by first | exact Or.inl rfl | exact Or.inr (Or.inl rfl) | exact Or.inr (Or.inr rfl)) (by decide) (by decide)) pe_int (fun _ _ => rfl)) (@pa_cons _ _ _ _ _ (@pv _ 2 _ _ (by rfl) (by first | exact Or.inl rfl | exact Or.inr (Or.inl rfl) | exact Or.inr (Or.inr rfl)) (by decide) (by decide)) pa_nil (by rfl)) (by rfl)) (by rfl) (by rfl) (by rfl)))) pss_nil) (@pss_cons _ _ _ _ _ (@ps_if _ _ _ _ _ _ _ _ (@pt_cmpR _ _ _ _ _ _ _ _ op_eq (@pv _ 3 _ _ (by rfl) (by first | exact Or.inl rfl | exact Or.inr (Or.inl rfl) | exact Or.inr (Or.inr rfl)) (by decide) (by decide)) pe_str (nomark _)) (@pss_one _ _ _ (@ps_ret _ _ _ _ (@pe_lst _ _ _ _ (@pa_cons _ _ _ _ _ (@pe_tup _ _ _ _ _ (@pa_cons _ _ _ _ _ (@pe_ix _ _ _ _ _ _ _ ix_tup (@pe_ix _ _ _ _ _ _ _ ix_tup (@pe_ix _ _ _ _ _ _ _ ix_tup (@pv _ 1 _ _ (by rfl) (by first | exact Or.inl rfl | exact Or.inr (Or.inl rfl) | exact Or.inr (Or.inr rfl)) (by decide) (by decide)) pe_int (fun _ _ => rfl)) (@pe_fn _ _ _ _ _ _ _ _ _ _ _ _ F_branch_place hr (@pa_cons _ _ _ _ _ (@pe_ix _ _ _ _ _ _ _ ix_tup (@pv _ 1 _ _ (by rfl) (by first | exact Or.inl rfl | exact Or.inr (Or.inl rfl) | exact Or.inr (Or.inr rfl)) (by decide) (by decide)) pe_int (fun _ _ => rfl)) (@pa_cons _ _ _ _ _ (@pe_ix _ _ _ _ _ _ _ ix_tup (@pv _ 2 _ _ (by rfl) (by first | exact Or.inl rfl | exact Or.inr (Or.inl rfl) | exact Or.inr (Or.inr rfl)) (by decide) (by decide)) pe_int (fun _ _ => rfl)) pa_nil (by rfl)) (by rfl)) (by omega) (by rfl) (by rfl) (by decide) (by rfl) (by rfl)) (fun _ _ => rfl)) pe_int (fun _ _ => rfl)) (@pa_cons _ _ _ _ _ (@pe_ix _ _ _ _ _ _ _ ix_tup (@pv _ 2 _ _ (by rfl) (by first | exact Or.inl rfl | exact Or.inr (Or.inl rfl) | exact Or.inr (Or.inr rfl)) (by decide) (by decide)) pe_int (fun _ _ => rfl)) pa_nil (by rfl)) (by rfl))) pa_nil (star_tup _ _ _ _ _))))) pss_nil) (@pss_cons _ _ _ _ _ (@ps_if _ _ _ _ _ _ _ _ (@pt_cmpR _ _ _ _ _ _ _ _ op_eq (@pv _ 3 _ _ (by rfl) (by first | exact Or.inl rfl | exact Or.inr (Or.inl rfl) | exact Or.inr (Or.inr rfl)) (by decide) (by decide)) pe_str (nomark _)) (@pss_one _ _ _ (@ps_ret _ _ _ _ (@pe_lst _ _ _ _ (@pa_cons _ _ _ _ _ (@pe_tup _ _ _ _ _ (@pa_cons _ _ _ _ _ (@pe_fn _ _ _ _ _ _ _ _ _ _ _ _ F_shape_of hr (@pa_cons _ _ _ _ _ (@pv _ 0 _ _ (by rfl) (by first | exact Or.inl rfl | exact Or.inr (Or.inl rfl) | exact Or.inr (Or.inr rfl)) (by decide) (by decide)) (@pa_cons _ _ _ _ _ (@pe_ix _ _ _ _ _ _ _ ix_tup (@pv _ 1 _ _ (by rfl) (by first | exact Or.inl rfl | exact Or.inr (Or.inl rfl) | exact Or.inr (Or.inr rfl)) (by decide) (by decide)) pe_int (fun _ _ => rfl)) pa_nil (by rfl)) (by rfl)) (by omega) (by rfl) (by rfl) (by decide) (by rfl) (by rfl)) (@pa_cons _ _ _ _ _ (@pv _ 2 _ _ (by rfl) (by first | exact Or.inl rfl | exact Or.inr (Or.inl rfl) | exact Or.inr (Or.inr rfl)) (by decide) (by decide)) pa_nil (by rfl)) (by rfl))) pa_nil (star_tup _ _ _ _ _))))) pss_nil) (@pss_cons _ _ _ _ _ (@ps_if _ _ _ _ _ _ _ _ (@pw_or _ _ _ _ _ _ _ (@pt_cmpR _ _ _ _ _ _ _ _ op_eq (@pv _ 3 _ _ (by rfl) (by first | exact Or.inl rfl | exact Or.inr (Or.inl rfl) | exact Or.inr (Or.inr rfl)) (by decide) (by decide)) pe_str (nomark _)) (@pw_or1 _ _ _ _ (@pt_cmpR _ _ _ _ _ _ _ _ op_in_seq (@pv _ 3 _ _ (by rfl) (by first | exact Or.inl rfl | exact Or.inr (Or.inl rfl) | exact Or.inr (Or.inr rfl)) (by decide) (by decide)) (@pe_gt _ _ _ _ _ c_OF_ONE_PART (by rfl) (by rfl) (by decide)) rfl))).pt (@pss_one _ _ _ (@ps_ret _ _ _ _ (@pe_lc _ _ _ _ _ _ _ ([none, some 1]) ((["thing", "shape"] : List Str)) _ (gName 0) _ _ (.own (.cap (i := 1) rfl rfl (by first | exact Or.inl rfl | exact Or.inr rfl) .nil)) rfl (@pi_list _ _ _ _ (@pv _ 2 _ _ (by rfl) (by first | exact Or.inl rfl | exact Or.inr (Or.inl rfl) | exact Or.inr (Or.inr rfl)) (by decide) (by decide))) (fun cl C s₀ H₀ fp pn => (@pg_name _ _ (0) _ (show List.Nodup (["thing", "shape"] : List Str) by decide +kernel) rfl (Or.inl rfl) (Or.inr rfl))) (fun cl C s₀ H₀ fp pn => pts_nil) (fun cl C s₀ H₀ fp pn => (@pe_tup _ _ _ _ _ (@pa_cons _ _ _ _ _ (@pe_ix _ _ _ _ _ _ _ (ix_tupK (K := g.K)) (@pv _ 1 _ _ (by rfl) (by first | exact Or.inl rfl | exact Or.inr (Or.inl rfl) | exact Or.inr (Or.inr rfl)) (by decide) (by decide)) pe_int (fun _ _ => rfl)) (@pa_cons _ _ _ _ _ (@pv _ 0 _ _ (by rfl) (by first | exact Or.inl rfl | exact Or.inr (Or.inl rfl) | exact Or.inr (Or.inr rfl)) (by decide) (by decide)) pa_nil (by rfl)) (by rfl)))) (by intro x hx; simp at hx; first | (subst hx; exact Or.inl rfl) | (rcases hx with rfl | rfl <;> exact Or.inl rfl) | (rcases hx with rfl | rfl | rfl <;> exact Or.inl rfl)) (by rfl) (by decide) (by decide +kernel) (by intro _; rfl)))) pss_nil) (@pss_one _ _ _ (@ps_ret _ _ _ _ (@pe_lst _ _ _ _ pa_nil)))))))), ?_⟩
  cases hx with
  | @whole a lo hi ha =>
    walk_at "rd"
    refine ⟨_, s0.tup ha, _, atI30 _ _ _, ?_⟩
    walk_at "rd"
    rw [within_whole] at q
    exact iteN (by decide) (iteN (by decide) (iteN (by decide) (iteN (by decide) fun c hc => ⟨_, .inr hc, rfl, rfl, iteN (by decide +kernel) ⟨few (by decide), fun p hp => q p [] _ (.upd_new hp _) hp upd_same (pairs_nil _ _ _)⟩⟩)))
  | @text a signs ha hn =>
    walk_at "rd"
    refine ⟨_, s0.tup ha, _, atI20 _ _, ?_⟩
    walk_at "rd"
    rw [within_text] at q
    exact iteN (by decide) (iteN (by decide) (iteN (by decide) (iteN (by decide) fun c hc => ⟨_, .inr hc, rfl, rfl, iteN (by decide +kernel) ⟨few (by decide), fun p hp => q p [] _ (.upd_new hp _) hp upd_same (pairs_nil _ _ _)⟩⟩)))
  | @row a b vs ps ha hb hs hn =>
    walk_at "rd"
    refine ⟨_, s0.tup ha, _, atI20 _ _, ?_⟩
    walk_at "rd"
    cases hv with
    | @tup c us ds h hl hds =>
      have e1 := hds.length
      have e2 := hs.length
      have e3 : ds.length = ps.length := of_decide_eq_true hf
      refine ⟨_, s0.tup ha, _, atI21 _ _, _, rfl, _, rfl, _, s0.tup hb, _, SqT.of (s0 _ _ h), by omega, fun l as H2 hl' sm hlst hal hpr => q l as H2 sm hl' hlst ⟨?_, fun j a w h1 h2 => ?_⟩⟩
      · show as.length = (ps.zip ds).length
        rw [List.length_zip]; omega
      · obtain ⟨k1, k2⟩ := List.getElem?_zip_eq_some.mp (show (ps.zip ds)[j]? = some w from h2)
        have hj := (List.getElem?_eq_some_iff.mp h1).1
        have f1 : vs[j]? = some (vs[j]'(by omega)) := List.getElem?_eq_getElem _
        have f2 : us[j]? = some (us[j]'(by omega)) := List.getElem?_eq_getElem _
        obtain ⟨p1, g1, s1⟩ := hs.at f1
        obtain ⟨d1, g2, s2⟩ := hds.at f2
        rw [k1] at g1
        rw [k2] at g2
        cases g1
        cases g2
        exact ⟨_, _, (hpr j a _ _ h1 f1 f2).2, s1, s2⟩
    | _ => cases hf
  | @many a v' p ha hp =>
    walk_at "rd"
    refine ⟨_, s0.tup ha, _, atI20 _ _, ?_⟩
    walk_at "rd"
    refine iteN (by decide) (iteN (by decide) (iteN (by decide) (iteN (by decide) fun c hc => ⟨_, .inr hc, rfl, rfl, iteY (by decide +kernel) ?_⟩)))
    cases hv with
    | @lst c' us ds h hl hds =>
      have e1 := hds.length
      refine tLC_tups (K := g.K) (xs := us) (us.map fun u => [v', u]) (fun R r => by walk_at "rd"; exact r c' H (.refl H) (SqL.of (s0 _ _ h))) (by simp) (by omega) ?_ ?_
      · intro i x t H' hx ht sm R r
        rw [List.getElem?_map, hx] at ht
        have : [v', x] = t := Option.some.inj ht
        subst this
        walk_at "rd"
        exact ⟨_, (s0.trans sm).tup ha, _, atI21 _ _, few (by decide), fun a' ha' => r a' _ (.upd_new ha' _) upd_same⟩
      · intro D as H' hD sm hd hal hts
        refine q D as H' sm hD hd ⟨?_, fun j a w h1 h2 => ?_⟩
        · show as.length = (ds.map fun d => (p, d)).length
          rw [List.length_map]; omega
        · have h2' : (ds.map fun d => (p, d))[j]? = some w := h2
          have hj := (List.getElem?_eq_some_iff.mp h1).1
          have f2 : us[j]? = some (us[j]'(by omega)) := List.getElem?_eq_getElem _
          obtain ⟨d1, g2, s2⟩ := hds.at f2
          rw [List.getElem?_map, g2] at h2'
          have : (p, d1) = w := Option.some.inj h2'
          subst this
          exact ⟨v', _, hts j a [v', us[j]'(by omega)] h1 (by rw [List.getElem?_map, f2]; rfl), hp, s2⟩
    | _ => cases hf
  | @pick a b' as ms us ps ha hb hbr hs hn =>
    walk_at "rd"
    refine ⟨_, s0.tup ha, _, atI20 _ _, ?_⟩
    walk_at "rd"
    rw [← has_mk_form] at hf
    rw [within_pick] at q
    obtain ⟨x, d', i, rfl, hi⟩ := pick_inv hf
    cases hv with
    | @tup c vs _ h hl hds =>
    cases hds with
    | @cons v1 _ vs1 _ h1 hds1 =>
    cases hds1 with
    | @cons v2 _ vs2 _ h2 hds2 =>
    cases hds2 with
    | nil =>
    cases h1 with
    | str l hs1 hl1 =>
    have hil := plc_at hi
    have e2 := hs.length
    obtain ⟨b1, b2, b3⟩ := hbr
    have fa : as[i]? = some (as[i]'(by omega)) := List.getElem?_eq_getElem _
    have fm : ms[i]? = some (ms[i]'(by omega)) := List.getElem?_eq_getElem _
    have fu : us[i]? = some (us[i]'(by omega)) := List.getElem?_eq_getElem _
    have fp : ps[i]? = some (ps[i]'(by omega)) := List.getElem?_eq_getElem _
    obtain ⟨p1, g1, s1⟩ := hs.at fu
    have ht := b3 i _ _ _ fa fm fu
    have ew : pick_in ms ps (.tuple [.str (S l), d']) = [(p1, d')] := by
      show (((plc ms (S l)).bind fun i => ps[i]?).toList.map fun p => (p, d')) = _
      rw [hi, Option.bind_some, g1]
      rfl
    refine iteN (by decide) ⟨_, s0.tup ha, _, atI21 _ _, _, s0.tup ha, _, atI21 _ _, c, rfl, _, SqT.of (s0 _ _ h), _, atI20 _ _, b', as, ms, us, S l, rfl, s0.tup hb, ⟨b1, b2, fun j a m v h1 h2 h3 => s0.tup (b3 j a m v h1 h2 h3)⟩, fun H' s' => ?_⟩
    have s02 := s0.trans s'
    rw [hi]
    refine ⟨b', rfl, _, _, rfl, s02.tup hb, .ref (as[i]'(by omega)), atI_nat (by rw [List.getElem?_map, fa]; rfl), _, rfl, _, s02.tup ht, _, atI21 _ _, c, rfl, _, SqT.of (s02 _ _ h), _, atI21 _ _, few (by decide), fun p hp => ⟨few (by decide), fun p2 hp2 => ?_⟩⟩
    refine q p2 [p] _ ((s'.trans (.upd_new hp _)).trans (.upd_new hp2 _)) (s'.free ((Same.upd_new hp _).free hp2)) upd_same ?_
    rw [ew]
    refine ⟨rfl, fun j a w h1' h2' => ?_⟩
    cases j with
    | succ j => simp at h1'
    | zero =>
      have e1 : p = a := Option.some.inj h1'
      have e2 : (p1, d') = w := Option.some.inj h2'
      subst e1 e2
      exact ⟨_, _, (Same.upd_new hp2 _) _ _ upd_same, s1, h2⟩
  | @use a nm ha =>
    walk_at "rd"
    refine ⟨_, s0.tup ha, _, atI20 _ _, ?_⟩
    walk_at "rd"
    obtain ⟨i, hi⟩ := hfd
    refine iteN (by decide) (iteN (by decide) ⟨_, s0.tup ha, _, atI21 _ _, b, bk, S nm, i, H0, rfl, s0, hbk, hi, fun y sh hsh hy => ⟨few (by decide), fun p hp => ⟨few (by decide), fun p2 hp2 => ?_⟩⟩⟩)
    refine q p2 [p] _ ((Same.upd_new hp _).trans (.upd_new hp2 _)) ((Same.upd_new hp _).free hp2) upd_same ?_
    rw [within_use, hi, Option.bind_some, hsh]
    refine ⟨rfl, fun j a w h1' h2' => ?_⟩
    cases j with
    | succ j => simp at h1'
    | zero =>
      have e1 : p = a := Option.some.inj h1'
      have e2 : (sh, d) = w := Option.some.inj h2'
      subst e1 e2
      exact ⟨_, _, (Same.upd_new hp2 _) _ _ upd_same, hy, hv⟩
/-- a list of keys, by their sizes -/
def Keyed (H : Hp) (ks : List V) (ns : List Nat) : Prop := ks.length = ns.length ∧ ks.length ≤ 1000 ∧ ∀ (j : Nat) k n, ks[j]? = some k → ns[j]? = some n → ∃ a r, k = .ref a ∧ H a = some (.tup (.int (n : Nat) :: r))
theorem Keyed.keep {H H' : Hp} (e : Same H H') {ks : List V} {ns : List Nat} (h : Keyed H ks ns) : Keyed H' ks ns :=
  ⟨h.1, h.2.1, fun j k n h1 h2 => by obtain ⟨a, r, e1, e2⟩ := h.2.2 j k n h1 h2; exact ⟨a, r, e1, e _ _ e2⟩⟩
theorem atI_c0 (x : V) (r : List V) : atI (x :: r) 0 = some x := by
  have := atI_nat (xs := x :: r) (j := 0) (show (x :: r)[0]? = some x from rfl)
  simpa using this
theorem sum_cast (ns : List Nat) : (ns.map fun (n : Nat) => (n : Int)).sum = ((ns.sum : Nat) : Int) := by
  induction ns with
  | nil => rfl
  | cons n ns ih => simp [ih]
def sp_sum_of_sizes (K : PySem.W.Frag) : Sp := fun vs H Q _ => ∃ b ks ns, vs = [.ref b] ∧ H b = some (.lst ks) ∧ Keyed H ks ns ∧ ∀ H', Same H H' → Q (.int (ns.sum : Nat)) H'
theorem ok_sum_of_sizes  (R : g.Raw "sum_of_sizes" "sum_of_sizes" s_sum_of_sizes ["keys"]) (b_sum : g.mg "sum" = none) : g.Fn (1) "sum_of_sizes" ["keys"] (sp_sum_of_sizes g.K) := by
  refine R.fn sc_sum_of_sizes (fun vs H Q E h => by obtain ⟨b, ks, ns, rfl, hb, hk, q⟩ := h; rfl) fun f_ cdv A outer s H vs Q E hr h => ?_
  obtain ⟨b, ks, ns, rfl, hb, hk, q⟩ := h
  refine ⟨_, (@pss_one _ _ _ (@ps_ret _ _ _ _ (@pe_bf _ _ _ _ _ _ _ _ _ _ b_sum call_sum_ints (@pa_cons _ _ _ _ _ (@pe_lc _ _ _ _ _ _ _ ([none]) ((["key"] : List Str)) _ (gName 0) _ _ (.own .nil) rfl (@pi_list _ _ _ _ (@pv _ 0 _ _ (by rfl) (by first | exact Or.inl rfl | exact Or.inr (Or.inl rfl) | exact Or.inr (Or.inr rfl)) (by decide) (by decide))) (fun cl C s₀ H₀ fp pn => (@pg_name _ _ (0) _ (show List.Nodup (["key"] : List Str) by decide +kernel) rfl (Or.inl rfl) (Or.inr rfl))) (fun cl C s₀ H₀ fp pn => pts_nil) (fun cl C s₀ H₀ fp pn => (@pe_ix _ _ _ _ _ _ _ (ix_tupK (K := g.K)) (@pv _ 0 _ _ (by rfl) (by first | exact Or.inl rfl | exact Or.inr (Or.inl rfl) | exact Or.inr (Or.inr rfl)) (by decide) (by decide)) pe_int (fun _ _ => rfl))) (by intro x hx; simp at hx) (by rfl) (by decide) (by decide +kernel) (by intro _; rfl)) pa_nil (by rfl)) (by decide +kernel) (by rfl) (by rfl) (by decide) (by decide) (by rfl) (by rfl)))), ?_⟩
  walk_at "rd"
  obtain ⟨hk1, hk2, hk3⟩ := hk
  refine tLC_listN (K := g.K) (xs := ks) ((ns.map fun (n : Nat) => (n : Int)).map V.int) (fun R r => by walk_at "rd"; exact r b H (.refl H) (SqL.of hb)) (by simp [hk1]) (by omega) ?_ ?_
  · intro i x y H' hx hy sm R r
    have hj := (List.getElem?_eq_some_iff.mp hx).1
    have f2 : ns[i]? = some (ns[i]'(by omega)) := List.getElem?_eq_getElem _
    obtain ⟨a, r', rfl, e2⟩ := hk3 i x _ hx f2
    rw [List.getElem?_map, List.getElem?_map, f2] at hy
    have : V.int ((ns[i]'(by omega) : Nat) : Int) = y := Option.some.inj hy
    subst this
    walk_at "rd"
    exact ⟨_, SqT.of (sm _ _ e2), _, atI_c0 _ _, r H' (.refl H')⟩
  · intro D H' hD sm hd
    refine ⟨D, rfl, _, SqL.of hd, ?_⟩
    rw [sum_cast]
    exact q H' sm
end KW
set_option maxHeartbeats 8000000
namespace KW
open PySem L2

variable {g : Gx}
variable {bk : Bk}
variable {m : Nat}
local macro_rules | `(tactic| walk_at "gn") => `(tactic| simp only [gName, List.set_cons_zero, List.set_cons_succ])

local macro_rules | `(tactic| walk_at "rd") => `(tactic| simp (config := { failIfUnchanged := false, maxSteps := 10000000 }) only [L2.start, cxOf_K, nox_K, List.map_cons, List.map_nil, List.length_cons, List.length_nil, List.cons_append, List.nil_append, List.replicate_succ, List.replicate_zero, Nat.zero_add, Nat.reduceAdd, Nat.reduceSub, Nat.sub_self, tSeq, tIfS, tTest, tOp, tC, tVar, rI0, rI, rU, tUn, tRet, tRetN, tDrop, tNext, tBreak, tCont, tAsg, gName, gNil, gCons, tCons, tNil, tCB, tCall, tTry, tTryAs, tRaise, sFld, tFld, tMake, tMeth, Ends.gone, caught_K, tB, tAnd, tOr, tNot, tAndV, tOrV, tNotV, tIf, tChain, tNoPart, tPart, tSl, tNever, tAug, rIxL, rIxT, rSlL, tLst, tTup, gTup, tRev, tLZ, tConT, tDict0, rBits, rFind, rIn, tBM, tBM0, rAppend, rReverse, rEq, rNe, scal_ii, scal_ss, rCat, rSetL, gSub, ipI, capSt, List.getD_cons_zero, List.getD_cons_succ, decide_true, not_true_eq_false, not_false_eq_true,
  exists_eq_left', exists_eq_left, exists_eq', exists_eq, exists_and_left, and_assoc, Option.some.injEq, V.int.injEq, V.bl.injEq, V.ref.injEq, V.str.injEq, List.getElem?_cons_zero, List.getElem?_cons_succ, List.set_cons_zero, List.set_cons_succ, List.cons.injEq, and_true, true_and, List.append_nil, decide_eq_true_eq, Bool.not_eq_true', decide_eq_false_iff_not, Bool.not_not, Bool.not_true, Bool.not_false, Bool.true_eq_false, Bool.false_eq_true, if_true, if_false, ite_true, ite_false])

/-- the key of a value, as data: its size and what follows -/
def kz : Sh → PyData → List (Nat × List PyData) → Nat × List PyData
  | .whole lo _, .int i, _ => (Builtin.Int.intBits (i - lo), [.int i])
  | .text signs, .str x, _ => (x.length, x.cps.toList.map fun c => .int (signs.findIdx (· == c) : Nat))
  | .row _, _, ks => ((ks.map (·.1)).sum, ks.map fun k => .tuple (.int (k.1 : Nat) :: k.2))
  | .many _, _, ks => (ks.length + (ks.map (·.1)).sum, ks.map fun k => .tuple (.int (k.1 : Nat) :: k.2))
  | .pick ms _, .tuple [.str x, _], k :: _ => (k.1, [.int ((plc ms x).getD 0 : Nat), .tuple (.int (k.1 : Nat) :: k.2)])
  | .use _, _, k :: _ => (1 + k.1, [.tuple (.int (k.1 : Nat) :: k.2)])
  | _, _, _ => (0, [])
/-- something is within, where something must be -/
def fnd (bk : Bk) (sh : Sh) (d : PyData) : Bool := match sh with
  | .use _ => !(within bk sh d).isEmpty
  | .pick _ _ => !(within bk sh d).isEmpty
  | _ => true
def ky (bk : Bk) : Nat → Sh → PyData → Option (Nat × List PyData)
  | 0, _, _ => none
  | n + 1, sh, d => if (form sh d && fnd bk sh d) = true then ((within bk sh d).mapM fun w => ky bk n w.1 w.2).map (kz sh d) else none
/-- a key as a tuple -/
def kt (k : Nat × List PyData) : PyData := .tuple (.int (k.1 : Nat) :: k.2)
theorem mapM_all {α β : Type} {f : α → Option β} {P : β → Prop} : ∀ {l : List α} {r : List β}, l.mapM f = some r → (∀ a ∈ l, ∀ b, f a = some b → P b) → ∀ b ∈ r, P b
  | [], r, h, _ => by
    rw [List.mapM_nil] at h
    cases h
    intro b hb
    cases hb
  | a :: l, r, h, hp => by
    rw [List.mapM_cons] at h
    cases e1 : f a with
    | none => rw [e1] at h; cases h
    | some b =>
      cases e2 : l.mapM f with
      | none => rw [e1, e2] at h; cases h
      | some bs =>
        rw [e1, e2] at h
        cases h
        intro c hc
        rcases List.mem_cons.mp hc with rfl | hc
        · exact hp a (.head _) _ e1
        · exact mapM_all e2 (fun a ha => hp a (.tail _ ha)) c hc
theorem kds_of : ∀ {ds : List PyData}, (∀ d ∈ ds, KD d) → KDs ds
  | [], _ => .nil
  | d :: ds, h => .cons (h d (.head _)) (kds_of fun d hd => h d (.tail _ hd))
theorem ky_kd {bk : Bk} : ∀ {n : Nat} {sh : Sh} {d : PyData} {k : Nat × List PyData}, ky bk n sh d = some k → KD (kt k)
  | 0, _, _, _, h => by cases h
  | n + 1, sh, d, k, h => by
    rw [ky] at h
    by_cases hf : (form sh d && fnd bk sh d) = true
    · rw [if_pos hf] at h
      obtain ⟨ks, hks, rfl⟩ := Option.map_eq_some_iff.mp h
      have hall := mapM_all (P := fun k => KD (kt k)) hks fun w _ b hb => ky_kd hb
      refine .tup (.cons (.int _) ?_)
      unfold kz
      split
      · exact .cons (.int _) .nil
      · exact kds_of fun d hd => by obtain ⟨c, _, rfl⟩ := List.mem_map.mp hd; exact .int _
      · exact kds_of fun d hd => by obtain ⟨c, hc, rfl⟩ := List.mem_map.mp hd; exact hall c hc
      · exact kds_of fun d hd => by obtain ⟨c, hc, rfl⟩ := List.mem_map.mp hd; exact hall c hc
      · exact .cons (.int _) (.cons (hall _ (.head _)) .nil)
      · exact .cons (hall _ (.head _)) .nil
      · exact .nil
    · rw [if_neg hf] at h; cases h
end KW
set_option maxHeartbeats 8000000
namespace KW
open PySem L2

variable {g : Gx}
variable {bk : Bk}
variable {m : Nat}
local macro_rules | `(tactic| walk_at "gn") => `(tactic| simp only [gName, List.set_cons_zero, List.set_cons_succ])

local macro_rules | `(tactic| walk_at "rd") => `(tactic| simp (config := { failIfUnchanged := false, maxSteps := 10000000 }) only [L2.start, cxOf_K, nox_K, List.map_cons, List.map_nil, List.length_cons, List.length_nil, List.cons_append, List.nil_append, List.replicate_succ, List.replicate_zero, Nat.zero_add, Nat.reduceAdd, Nat.reduceSub, Nat.sub_self, tSeq, tIfS, tTest, tOp, tC, tVar, rI0, rI, rU, tUn, tRet, tRetN, tDrop, tNext, tBreak, tCont, tAsg, gName, gNil, gCons, tCons, tNil, tCB, tCall, tTry, tTryAs, tRaise, sFld, tFld, tMake, tMeth, Ends.gone, caught_K, tB, tAnd, tOr, tNot, tAndV, tOrV, tNotV, tIf, tChain, tNoPart, tPart, tSl, tNever, tAug, rIxL, rIxT, rSlL, tLst, tTup, gTup, tRev, tLZ, tConT, tDict0, rBits, rFind, rIn, tBM, tBM0, rAppend, rReverse, rEq, rNe, scal_ii, scal_ss, rCat, rSetL, gSub, ipI, capSt, List.getD_cons_zero, List.getD_cons_succ, decide_true, not_true_eq_false, not_false_eq_true,
  exists_eq_left', exists_eq_left, exists_eq', exists_eq, exists_and_left, and_assoc, Option.some.injEq, V.int.injEq, V.bl.injEq, V.ref.injEq, V.str.injEq, List.getElem?_cons_zero, List.getElem?_cons_succ, List.set_cons_zero, List.set_cons_succ, List.cons.injEq, and_true, true_and, List.append_nil, decide_eq_true_eq, Bool.not_eq_true', decide_eq_false_iff_not, Bool.not_not, Bool.not_true, Bool.not_false, Bool.true_eq_false, Bool.false_eq_true, if_true, if_false, ite_true, ite_false])

theorem kt_inj {k k' : Nat × List PyData} (h : kt k = kt k') : k = k' := by
  obtain ⟨a, l⟩ := k
  obtain ⟨b, m⟩ := k'
  simp only [kt, PyData.tuple.injEq, List.cons.injEq, PyData.int.injEq] at h
  obtain ⟨h1, h2⟩ := h
  have : a = b := by omega
  rw [this, h2]
theorem mapM_cons_some {α β : Type} {f : α → Option β} {a : α} {l : List α} {r : List β} (h : (a :: l).mapM f = some r) : ∃ b bs, f a = some b ∧ l.mapM f = some bs ∧ r = b :: bs := by
  rw [List.mapM_cons] at h
  cases e1 : f a with
  | none => rw [e1] at h; cases h
  | some b =>
    cases e2 : l.mapM f with
    | none => rw [e1, e2] at h; cases h
    | some bs =>
      rw [e1, e2] at h
      cases h
      exact ⟨b, bs, rfl, rfl, rfl⟩
theorem mapM_nil_some {α β : Type} {f : α → Option β} {r : List β} (h : ([] : List α).mapM f = some r) : r = [] := by
  rw [List.mapM_nil] at h
  cases h
  rfl
theorem keys_sim {f : Sh × PyData → Option (Nat × List PyData)} (ih : ∀ sh d d' k k', f (sh, d) = some k → f (sh, d') = some k' → Sim (kt k) (kt k') ∧ (k = k' → d = d')) : ∀ {ws ws' : List (Sh × PyData)} {ks ks' : List (Nat × List PyData)}, ws.mapM f = some ks → ws'.mapM f = some ks' → (∀ (i : Nat) w w', ws[i]? = some w → ws'[i]? = some w' → w.1 = w'.1) → Sims (ks.map kt) (ks'.map kt) ∧ (ks.map kt = ks'.map kt → ws.map (·.2) = ws'.map (·.2))
  | [], [], ks, ks', h, h', _ => by
    cases mapM_nil_some h
    cases mapM_nil_some h'
    exact ⟨.nil, fun _ => rfl⟩
  | [], w :: ws, ks, ks', h, h', _ => by
    cases mapM_nil_some h
    obtain ⟨b, bs, _, _, rfl⟩ := mapM_cons_some h'
    exact ⟨.nil, fun e => by simp at e⟩
  | w :: ws, [], ks, ks', h, h', _ => by
    cases mapM_nil_some h'
    obtain ⟨b, bs, _, _, rfl⟩ := mapM_cons_some h
    exact ⟨.end_, fun e => by simp at e⟩
  | w :: ws, w' :: ws', ks, ks', h, h', hs => by
    obtain ⟨b, bs, e1, e2, rfl⟩ := mapM_cons_some h
    obtain ⟨b', bs', e1', e2', rfl⟩ := mapM_cons_some h'
    have hw : w.1 = w'.1 := hs 0 w w' rfl rfl
    obtain ⟨sh, d⟩ := w
    obtain ⟨sh', d'⟩ := w'
    cases (show sh = sh' from hw)
    obtain ⟨s1, i1⟩ := ih sh d d' b b' e1 e1'
    obtain ⟨s2, i2⟩ := keys_sim ih e2 e2' fun i w w' a c => hs (i + 1) w w' (by simpa using a) (by simpa using c)
    refine ⟨.cons s1 fun _ => s2, fun e => ?_⟩
    simp only [List.map_cons, List.cons.injEq] at e
    simp only [List.map_cons, List.cons.injEq]
    exact ⟨i1 (kt_inj e.1), i2 e.2⟩
end KW
set_option maxHeartbeats 8000000
namespace KW
open PySem L2

variable {g : Gx}
variable {bk : Bk}
variable {m : Nat}
local macro_rules | `(tactic| walk_at "gn") => `(tactic| simp only [gName, List.set_cons_zero, List.set_cons_succ])

local macro_rules | `(tactic| walk_at "rd") => `(tactic| simp (config := { failIfUnchanged := false, maxSteps := 10000000 }) only [L2.start, cxOf_K, nox_K, List.map_cons, List.map_nil, List.length_cons, List.length_nil, List.cons_append, List.nil_append, List.replicate_succ, List.replicate_zero, Nat.zero_add, Nat.reduceAdd, Nat.reduceSub, Nat.sub_self, tSeq, tIfS, tTest, tOp, tC, tVar, rI0, rI, rU, tUn, tRet, tRetN, tDrop, tNext, tBreak, tCont, tAsg, gName, gNil, gCons, tCons, tNil, tCB, tCall, tTry, tTryAs, tRaise, sFld, tFld, tMake, tMeth, Ends.gone, caught_K, tB, tAnd, tOr, tNot, tAndV, tOrV, tNotV, tIf, tChain, tNoPart, tPart, tSl, tNever, tAug, rIxL, rIxT, rSlL, tLst, tTup, gTup, tRev, tLZ, tConT, tDict0, rBits, rFind, rIn, tBM, tBM0, rAppend, rReverse, rEq, rNe, scal_ii, scal_ss, rCat, rSetL, gSub, ipI, capSt, List.getD_cons_zero, List.getD_cons_succ, decide_true, not_true_eq_false, not_false_eq_true,
  exists_eq_left', exists_eq_left, exists_eq', exists_eq, exists_and_left, and_assoc, Option.some.injEq, V.int.injEq, V.bl.injEq, V.ref.injEq, V.str.injEq, List.getElem?_cons_zero, List.getElem?_cons_succ, List.set_cons_zero, List.set_cons_succ, List.cons.injEq, and_true, true_and, List.append_nil, decide_eq_true_eq, Bool.not_eq_true', decide_eq_false_iff_not, Bool.not_not, Bool.not_true, Bool.not_false, Bool.true_eq_false, Bool.false_eq_true, if_true, if_false, ite_true, ite_false])

theorem find_inj {signs : List Nat} {c c' : Nat} (h : c ∈ signs) (h' : c' ∈ signs) (e : signs.findIdx (· == c) = signs.findIdx (· == c')) : c = c' := by
  have l1 : signs.findIdx (· == c) < signs.length := List.findIdx_lt_length_of_exists ⟨c, h, by simp⟩
  have l2 : signs.findIdx (· == c') < signs.length := List.findIdx_lt_length_of_exists ⟨c', h', by simp⟩
  have g1 := List.findIdx_getElem (w := l1)
  have g2 := List.findIdx_getElem (w := l2)
  simp only [beq_iff_eq] at g1 g2
  rw [← g1, ← g2]
  congr 1
theorem sims_ints : ∀ (as bs : List Int), Sims (as.map PyData.int) (bs.map PyData.int)
  | [], _ => .nil
  | _ :: _, [] => .end_
  | a :: as, b :: bs => .cons (.int a b) fun _ => sims_ints as bs
theorem finds_inj {signs : List Nat} : ∀ {as bs : List Nat}, (∀ c ∈ as, c ∈ signs) → (∀ c ∈ bs, c ∈ signs) → as.map (fun c => ((signs.findIdx (· == c) : Nat) : Int)) = bs.map (fun c => ((signs.findIdx (· == c) : Nat) : Int)) → as = bs
  | [], [], _, _, _ => rfl
  | [], _ :: _, _, _, e => by simp at e
  | _ :: _, [], _, _, e => by simp at e
  | a :: as, b :: bs, h, h', e => by
    simp only [List.map_cons, List.cons.injEq] at e
    have h1 := find_inj (h a (.head _)) (h' b (.head _)) (by omega)
    have h2 := finds_inj (fun c hc => h c (.tail _ hc)) (fun c hc => h' c (.tail _ hc)) e.2
    rw [h1, h2]
theorem kz_use {nm : List Nat} {d : PyData} {k : Nat × List PyData} {ks : List (Nat × List PyData)} : kz (.use nm) d (k :: ks) = (1 + k.1, [kt k]) := by cases d <;> rfl
theorem one_some {f : Sh × PyData → Option (Nat × List PyData)} {w : Sh × PyData} {ks : List (Nat × List PyData)} (h : [w].mapM f = some ks) : ∃ b, f w = some b ∧ ks = [b] := by
  obtain ⟨b, bs, e1, e2, rfl⟩ := mapM_cons_some h
  cases mapM_nil_some e2
  exact ⟨b, e1, rfl⟩
theorem ky_sim {bk : Bk} : ∀ {n : Nat} (sh : Sh) (d d' : PyData) (k k' : Nat × List PyData), ky bk n sh d = some k → ky bk n sh d' = some k' → Sim (kt k) (kt k') ∧ (k = k' → d = d')
  | 0, _, _, _, _, _, h, _ => by cases h
  | n + 1, sh, d, d', k, k', h, h' => by
    rw [ky] at h h'
    by_cases hf : (form sh d && fnd bk sh d) = true
    rotate_left
    · rw [if_neg hf] at h; cases h
    by_cases hf' : (form sh d' && fnd bk sh d') = true
    rotate_left
    · rw [if_neg hf'] at h'; cases h'
    rw [if_pos hf] at h
    rw [if_pos hf'] at h'
    rw [Bool.and_eq_true] at hf hf'
    obtain ⟨hf, hn⟩ := hf
    obtain ⟨hf', hn'⟩ := hf'
    obtain ⟨ks, hks, rfl⟩ := Option.map_eq_some_iff.mp h
    obtain ⟨ks', hks', rfl⟩ := Option.map_eq_some_iff.mp h'
    have ih := fun sh d d' k k' => ky_sim (bk := bk) (n := n) sh d d' k k'
    cases sh with
    | whole lo hi =>
      cases d <;> simp only [form, Bool.false_eq_true] at hf
      cases d' <;> simp only [form, Bool.false_eq_true] at hf'
      refine ⟨.tup (.cons (.int _ _) fun _ => .cons (.int _ _) fun _ => .nil), fun e => ?_⟩
      simp only [kz, Prod.mk.injEq, List.cons.injEq, and_true] at e
      exact e.2
    | many p =>
      cases d <;> simp only [form, Bool.false_eq_true] at hf
      cases d' <;> simp only [form, Bool.false_eq_true] at hf'
      rename_i ds ds'
      obtain ⟨s1, i1⟩ := keys_sim ih hks hks' fun i w w' a b => by
        simp only [within, List.getElem?_map] at a b
        obtain ⟨_, _, rfl⟩ := Option.map_eq_some_iff.mp a
        obtain ⟨_, _, rfl⟩ := Option.map_eq_some_iff.mp b
        rfl
      refine ⟨.tup (.cons (.int _ _) fun _ => s1), fun e => ?_⟩
      simp only [kz, Prod.mk.injEq] at e
      have := i1 e.2
      simp only [within, List.map_map, Function.comp_def, List.map_id'] at this
      rw [this]
    | row ps =>
      cases d <;> simp only [form, Bool.false_eq_true] at hf
      cases d' <;> simp only [form, Bool.false_eq_true] at hf'
      rename_i ds ds'
      have l1 := of_decide_eq_true hf
      have l2 := of_decide_eq_true hf'
      obtain ⟨s1, i1⟩ := keys_sim ih hks hks' fun i w w' a b => by
        simp only [within, List.getElem?_zip_eq_some] at a b
        exact Option.some.inj (a.1.symm.trans b.1)
      refine ⟨.tup (.cons (.int _ _) fun _ => s1), fun e => ?_⟩
      simp only [kz, Prod.mk.injEq] at e
      have := i1 e.2
      simp only [within] at this
      rw [show (ps.zip ds).map (·.2) = ds from List.map_snd_zip (by omega), show (ps.zip ds').map (·.2) = ds' from List.map_snd_zip (by omega)] at this
      rw [this]
    | text signs =>
      cases d <;> simp only [form, Bool.false_eq_true] at hf
      cases d' <;> simp only [form, Bool.false_eq_true] at hf'
      rename_i x x'
      have q1 : ∀ c ∈ x.cps.toList, c ∈ signs := fun c hc => of_decide_eq_true (List.all_eq_true.mp hf c hc)
      have q2 : ∀ c ∈ x'.cps.toList, c ∈ signs := fun c hc => of_decide_eq_true (List.all_eq_true.mp hf' c hc)
      have e1 : ∀ y : Str, (y.cps.toList.map fun c => PyData.int (signs.findIdx (· == c) : Nat)) = (y.cps.toList.map fun c => ((signs.findIdx (· == c) : Nat) : Int)).map PyData.int := fun y => by rw [List.map_map]; rfl
      refine ⟨.tup (.cons (.int _ _) fun _ => ?_), fun e => ?_⟩
      · simp only [kz]
        rw [e1, e1]
        exact sims_ints _ _
      · simp only [kz, Prod.mk.injEq] at e
        rw [e1, e1] at e
        have e2 := (List.map_inj_right (fun a b h => PyData.int.inj h)).mp e.2
        have e3 := finds_inj q1 q2 e2
        have : x = x' := by
          obtain ⟨c⟩ := x
          obtain ⟨c'⟩ := x'
          simp only [Array.toList_inj] at e3
          rw [e3]
        rw [this]
    | use nm =>
      cases ho : (plc (bk.map (·.1)) (S nm)).bind fun i => (bk.map (·.2))[i]? with
      | none =>
        simp only [fnd] at hn
        rw [within_use, ho] at hn
        simp at hn
      | some p =>
        rw [within_use, ho] at hks hks'
        obtain ⟨b, e1, rfl⟩ := one_some (w := (p, d)) hks
        obtain ⟨b', e1', rfl⟩ := one_some (w := (p, d')) hks'
        obtain ⟨s1, i1⟩ := ih p d d' b b' e1 e1'
        rw [kz_use, kz_use]
        refine ⟨.tup (.cons (.int _ _) fun _ => .cons s1 fun _ => .nil), fun e => ?_⟩
        simp only [Prod.mk.injEq, List.cons.injEq, and_true] at e
        exact i1 (kt_inj e.2)
    | pick ms ps =>
      obtain ⟨x, e, i, rfl, hx⟩ := pick_inv (ms := ms) (d := d) (by rw [has_mk_form ps]; exact hf)
      obtain ⟨x', e', i', rfl, hx'⟩ := pick_inv (ms := ms) (d := d') (by rw [has_mk_form ps]; exact hf')
      have w1 : within bk (.pick ms ps) (.tuple [.str x, e]) = (ps[i]?).toList.map fun p => (p, e) := by
        rw [within_pick]; show (((plc ms x).bind fun i => ps[i]?).toList.map fun p => (p, e)) = _; rw [hx]; rfl
      have w2 : within bk (.pick ms ps) (.tuple [.str x', e']) = (ps[i']?).toList.map fun p => (p, e') := by
        rw [within_pick]; show (((plc ms x').bind fun i => ps[i]?).toList.map fun p => (p, e')) = _; rw [hx']; rfl
      simp only [fnd] at hn hn'
      rw [w1] at hn hks
      rw [w2] at hn' hks'
      cases hp : ps[i]? with
      | none => rw [hp] at hn; simp at hn
      | some p =>
      cases hp' : ps[i']? with
      | none => rw [hp'] at hn'; simp at hn'
      | some p' =>
      rw [hp] at hks
      rw [hp'] at hks'
      obtain ⟨b, e1, rfl⟩ := one_some (w := (p, e)) hks
      obtain ⟨b', e1', rfl⟩ := one_some (w := (p', e')) hks'
      simp only [kz, hx, hx', Option.getD_some]
      have same : i = i' → Sim (kt b) (kt b') ∧ (b = b' → e = e') := fun z => by
        subst z
        rw [hp] at hp'
        cases hp'
        exact ih p e e' b b' e1 e1'
      refine ⟨.tup (.cons (.int _ _) fun _ => .cons (.int _ _) fun z => .cons (same (by have := PyData.int.inj z; omega)).1 fun _ => .nil), fun z => ?_⟩
      simp only [Prod.mk.injEq, List.cons.injEq, and_true, PyData.int.injEq] at z
      have hi : i = i' := by omega
      have he := (same hi).2 (kt_inj z.2.2)
      subst hi
      have hxx : x = x' := by
        rw [plc, List.findIdx?_eq_some_iff_getElem] at hx hx'
        exact (of_decide_eq_true hx.2.1).symm.trans (of_decide_eq_true hx'.2.1)
      rw [he, hxx]
end KW
set_option maxHeartbeats 8000000
namespace KW
open PySem L2

variable {g : Gx}
variable {bk : Bk}
variable {m : Nat}
local macro_rules | `(tactic| walk_at "gn") => `(tactic| simp only [gName, List.set_cons_zero, List.set_cons_succ])

local macro_rules | `(tactic| walk_at "rd") => `(tactic| simp (config := { failIfUnchanged := false, maxSteps := 10000000 }) only [L2.start, cxOf_K, nox_K, List.map_cons, List.map_nil, List.length_cons, List.length_nil, List.cons_append, List.nil_append, List.replicate_succ, List.replicate_zero, Nat.zero_add, Nat.reduceAdd, Nat.reduceSub, Nat.sub_self, tSeq, tIfS, tTest, tOp, tC, tVar, rI0, rI, rU, tUn, tRet, tRetN, tDrop, tNext, tBreak, tCont, tAsg, gName, gNil, gCons, tCons, tNil, tCB, tCall, tTry, tTryAs, tRaise, sFld, tFld, tMake, tMeth, Ends.gone, caught_K, tB, tAnd, tOr, tNot, tAndV, tOrV, tNotV, tIf, tChain, tNoPart, tPart, tSl, tNever, tAug, rIxL, rIxT, rSlL, tLst, tTup, gTup, tRev, tLZ, tConT, tDict0, rBits, rFind, rIn, tBM, tBM0, rAppend, rReverse, rEq, rNe, scal_ii, scal_ss, rCat, rSetL, gSub, ipI, capSt, List.getD_cons_zero, List.getD_cons_succ, decide_true, not_true_eq_false, not_false_eq_true,
  exists_eq_left', exists_eq_left, exists_eq', exists_eq, exists_and_left, and_assoc, Option.some.injEq, V.int.injEq, V.bl.injEq, V.ref.injEq, V.str.injEq, List.getElem?_cons_zero, List.getElem?_cons_succ, List.set_cons_zero, List.set_cons_succ, List.cons.injEq, and_true, true_and, List.append_nil, decide_eq_true_eq, Bool.not_eq_true', decide_eq_false_iff_not, Bool.not_not, Bool.not_true, Bool.not_false, Bool.true_eq_false, Bool.false_eq_true, if_true, if_false, ite_true, ite_false])

mutual
/-- a key in the heap: ints and tuples of keys -/
inductive KAt (H : Hp) : V → PyData → Prop
  | int (i : Int) : KAt H (.int i) (.int i)
  | tup {a : Addr} {vs : List V} {ds : List PyData} : H a = some (.tup vs) → KAts H vs ds → KAt H (.ref a) (.tuple ds)
inductive KAts (H : Hp) : List V → List PyData → Prop
  | nil : KAts H [] []
  | cons {v : V} {d : PyData} {vs : List V} {ds : List PyData} : KAt H v d → KAts H vs ds → KAts H (v :: vs) (d :: ds)
end
/-- tuples stay -/
def Tps (H H' : Hp) : Prop := ∀ a vs, H a = some (.tup vs) → H' a = some (.tup vs)
theorem tps_of {H H' : Hp} (s : Same H H') : Tps H H' := fun a vs h => s a _ h
theorem Tps.trans {H H' H'' : Hp} (s : Tps H H') (t : Tps H' H'') : Tps H H'' := fun a vs h => t a vs (s a vs h)
theorem Tps.upd_lst {H : Hp} {p : Addr} {xs ys : List V} (h : H p = some (.lst xs)) : Tps H (upd H p (.lst ys)) := fun a vs ha => by
  rw [upd_ne (ne_of ha h (by intro z; cases z))]; exact ha
mutual
theorem KAt.keep {H H' : Hp} (e : Tps H H') : ∀ {v : V} {d : PyData}, KAt H v d → KAt H' v d
  | _, _, .int i => .int i
  | _, _, .tup h hs => .tup (e _ _ h) (hs.keep e)
theorem KAts.keep {H H' : Hp} (e : Tps H H') : ∀ {vs : List V} {ds : List PyData}, KAts H vs ds → KAts H' vs ds
  | _, _, .nil => .nil
  | _, _, .cons h hs => .cons (h.keep e) (hs.keep e)
end
mutual
theorem KAt.den {K : PySem.W.Frag} {H : Hp} : ∀ {v : V} {d : PyData}, KAt H v d → Den K H v d
  | _, _, .int i => .int i
  | _, _, .tup h hs => .tup (SqT.of h) hs.den
theorem KAts.den {K : PySem.W.Frag} {H : Hp} : ∀ {vs : List V} {ds : List PyData}, KAts H vs ds → Dens K H vs ds
  | _, _, .nil => .nil
  | _, _, .cons h hs => .cons h.den hs.den
end
theorem KAts.length {H : Hp} : ∀ {vs : List V} {ds : List PyData}, KAts H vs ds → vs.length = ds.length
  | _, _, .nil => rfl
  | _, _, .cons _ hs => congrArg (· + 1) hs.length
theorem KAts.append {H : Hp} {vs' : List V} {ds' : List PyData} : ∀ {vs : List V} {ds : List PyData}, KAts H vs ds → KAts H vs' ds' → KAts H (vs ++ vs') (ds ++ ds')
  | _, _, .nil, h => h
  | _, _, .cons a b, h => .cons a (b.append h)
/-- keys, by what they are -/
abbrev KeyD (H : Hp) (ks : List V) (kk : List (Nat × List PyData)) : Prop := KAts H ks (kk.map kt)
theorem key_inv {H : Hp} {v : V} {k : Nat × List PyData} (h : KAt H v (kt k)) : ∃ a r, v = .ref a ∧ H a = some (.tup (.int (k.1 : Nat) :: r)) := by
  generalize hd : kt k = d at h
  cases h with
  | int i => simp [kt] at hd
  | @tup a vs ds h hs =>
    have : ds = .int (k.1 : Nat) :: k.2 := by simpa [kt] using hd.symm
    subst this
    cases hs with
    | cons h1 h2 =>
      cases h1
      exact ⟨a, _, rfl, h⟩
theorem KeyD.keyed {H : Hp} : ∀ {ks : List V} {kk : List (Nat × List PyData)}, KeyD H ks kk → ks.length ≤ 1000 → Keyed H ks (kk.map (·.1))
  | ks, kk, h, hl => by
    have hlen := h.length
    rw [List.length_map] at hlen
    refine ⟨by rw [List.length_map]; exact hlen, hl, fun j k n h1 h2 => ?_⟩
    clear hl hlen
    induction kk generalizing ks j with
    | nil => simp at h2
    | cons k0 kk ih =>
      cases h with
      | cons a b =>
        cases j with
        | zero =>
          have e1 : _ = k := Option.some.inj h1
          have e2 : k0.1 = n := Option.some.inj h2
          subst e1 e2
          exact key_inv a
        | succ j => exact ih _ b j (by simpa using h1) (by simpa using h2)
/-- where a form is had, something is within -/
theorem fnd_of {bk : Bk} {K : PySem.W.Frag} {H : Hp} {x : V} {sh : Sh} {d : PyData} (hx : ShAt K H x sh) (hf : form sh d = true) (hF : Fnd bk sh) : fnd bk sh d = true := by
  cases hx with
  | whole | text | row | many => rfl
  | @pick a b' as ms us ps ha hb' hbr hs hn =>
    rw [← has_mk_form] at hf
    obtain ⟨x, d', i, rfl, hi⟩ := pick_inv hf
    have hil := plc_at hi
    have e2 := hs.length
    have b2 := hbr.2.1
    have fp : ps[i]? = some (ps[i]'(by omega)) := List.getElem?_eq_getElem _
    unfold fnd
    dsimp only
    rw [within_pick, show pick_in ms ps (.tuple [.str x, d']) = [(ps[i]'(by omega), d')] from by
      show (((plc ms x).bind fun i => ps[i]?).toList.map fun p => (p, d')) = _
      rw [hi, Option.bind_some, fp]
      rfl]
    rfl
  | @use a nm ha =>
    obtain ⟨i, hi⟩ := hF
    have hil := plc_at hi
    rw [List.length_map] at hil
    have fp : (bk.map (·.2))[i]? = some ((bk.map (·.2))[i]'(by rw [List.length_map]; exact hil)) := List.getElem?_eq_getElem _
    unfold fnd
    dsimp only
    rw [within_use, hi, Option.bind_some, fp]
    rfl
def sp_list_key (K : PySem.W.Frag) : Sp := fun vs H Q _ => ∃ x p b ks ns, vs = [x, .ref b] ∧ ShAt K H x (.many p) ∧ H b = some (.lst ks) ∧ Keyed H ks ns ∧ ∀ t H', Same H H' → H' t = some (.tup (.int ((ns.length + ns.sum : Nat) : Int) :: ks)) → Q (.ref t) H'
theorem ok_list_key {k : Nat}  (R : g.Raw "list_key" "list_key" s_list_key ["shape", "keys"]) (F_sum_of_sizes : g.Fn k "sum_of_sizes" ["keys"] (sp_sum_of_sizes g.K)) (b_len : g.mg "len" = none) (b_tuple : g.mg "tuple" = none) : g.Fn (k + 1) "list_key" ["shape", "keys"] (sp_list_key g.K) := by
  refine R.fn sc_list_key (fun vs H Q E h => by obtain ⟨x, p, b, ks, ns, rfl, hx, hb, hk, q⟩ := h; rfl) fun f_ cdv A outer s H vs Q E hr h => ?_
  obtain ⟨x, p, b, ks, ns, rfl, hx, hb, hk, q⟩ := h
  refine ⟨_, (@pss_cons _ _ _ _ _ (@ps_set _ _ (2) _ _ _ _ sc_list_key.nd rfl (Or.inl rfl) (@pe_ix _ _ _ _ _ _ _ ix_tup (@pv _ 0 _ _ (by rfl) (by first | exact Or.inl rfl | exact Or.inr (Or.inl rfl) | exact Or.inr (Or.inr rfl)) (by decide) (by decide)) pe_int (fun _ _ => rfl)) (by rfl) (by first | exact .inl rfl | exact .inr rfl | assumption)) (@pss_cons _ _ _ _ _ (@ps_set _ _ (3) _ _ _ _ sc_list_key.nd rfl (Or.inl rfl) (@pe_op _ _ _ _ _ _ _ _ op_add (@pe_bf _ _ _ _ _ _ _ _ _ _ b_len call_len_seq (@pa_cons _ _ _ _ _ (@pv _ 1 _ _ (by rfl) (by first | exact Or.inl rfl | exact Or.inr (Or.inl rfl) | exact Or.inr (Or.inr rfl)) (by decide) (by decide)) pa_nil (by rfl)) (by decide +kernel) (by rfl) (by rfl) (by decide) (by decide) (by rfl) (by rfl)) (@pe_fn _ _ _ _ _ _ _ _ _ _ _ _ F_sum_of_sizes hr (@pa_cons _ _ _ _ _ (@pv _ 1 _ _ (by rfl) (by first | exact Or.inl rfl | exact Or.inr (Or.inl rfl) | exact Or.inr (Or.inr rfl)) (by decide) (by decide)) pa_nil (by rfl)) (by omega) (by rfl) (by rfl) (by decide) (by rfl) (by rfl))) (by rfl) (by first | exact .inl rfl | exact .inr rfl | assumption)) (@pss_cons _ _ _ _ _ (@ps_if _ _ _ _ _ _ _ _ (@pt_cmpR _ _ _ _ _ _ _ _ op_eq (@pv _ 2 _ _ (by rfl) (by first | exact Or.inl rfl | exact Or.inr (Or.inl rfl) | exact Or.inr (Or.inr rfl)) (by decide) (by decide)) pe_str (nomark _)) (@pss_one _ _ _ (@ps_ret _ _ _ _ (@pe_bt _ _ _ _ _ _ _ _ _ _ b_tuple call_tuple_of (@pa_cons _ _ _ _ _ (@pe_op _ _ _ _ _ _ _ _ op_cat (@pe_lst _ _ _ _ (@pa_cons _ _ _ _ _ (@pv _ 3 _ _ (by rfl) (by first | exact Or.inl rfl | exact Or.inr (Or.inl rfl) | exact Or.inr (Or.inr rfl)) (by decide) (by decide)) pa_nil (by rfl))) (@pv _ 1 _ _ (by rfl) (by first | exact Or.inl rfl | exact Or.inr (Or.inl rfl) | exact Or.inr (Or.inr rfl)) (by decide) (by decide))) pa_nil (by rfl)) (by decide +kernel) (by rfl) (by rfl) (by decide) (by decide) (by rfl) (by rfl)))) pss_nil) (@pss_cons _ _ _ _ _ ps_never (@pss_cons _ _ _ _ _ ps_never (@pss_one _ _ _ ps_never)))))), ?_⟩
  cases hx with
  | @many a v' p ha hp =>
    walk_at "rd"
    refine ⟨_, ha, _, atI20 _ _, ?_⟩
    walk_at "rd"
    refine ⟨_, .inl (SqL.of hb), b, ks, ns, rfl, hb, hk, fun H2 s2 => ⟨_, rfl, few (by decide), fun p hp => ?_⟩⟩
    have h6 : 10000 < sizeLine := by decide
    have h7 := hk.2.1
    refine ⟨_, upd_same, _, (Same.upd_new hp _) _ _ (s2 _ _ hb), by simp; omega, fun p1 hp1 => ⟨_, .inl ⟨SqL.of upd_same, fun l hl => q l _ (((s2.trans (.upd_new hp _)).trans (.upd_new hp1 _)).trans (.upd_new hl _)) ?_⟩⟩⟩
    rw [upd_same]
    show some (HO.tup (V.int ((ks.length : Int) + (ns.sum : Int)) :: ks)) = _
    rw [hk.1, ← Int.natCast_add]
def sp_key_made (K : PySem.W.Frag) : Sp := fun vs H Q _ => ∃ (bk : Bk) (x v : V) (sh : Sh) (d : PyData) (b : Addr) (ks : List V) (kk : List (Nat × List PyData)), vs = [x, v, .ref b] ∧ ShAt K H x sh ∧ Vd H v d ∧ form sh d = true ∧ Fnd bk sh ∧ H b = some (.lst ks) ∧ ks.length ≤ 1000 ∧ KeyD H ks kk ∧ kk.length = (within bk sh d).length ∧
  ∀ t H', Same H H' → KAt H' (.ref t) (kt (kz sh d kk)) → Q (.ref t) H'
theorem ok_key_made {k : Nat}  (R : g.Raw "key_made" "key_made" s_key_made ["shape", "value", "keys"]) (F_branch_place : g.Fn k "branch_place" ["branches", "mark"] (sp_branch_place g.K)) (F_sum_of_sizes : g.Fn k "sum_of_sizes" ["keys"] (sp_sum_of_sizes g.K)) (F_list_key : g.Fn k "list_key" ["shape", "keys"] (sp_list_key g.K)) (b_len : g.mg "len" = none) (b_tuple : g.mg "tuple" = none) : g.Fn (k + 1) "key_made" ["shape", "value", "keys"] (sp_key_made g.K) := by
  refine R.fn sc_key_made (fun vs H Q E h => by obtain ⟨bk, x, v, sh, d, b, ks, kk, rfl, hx, hv, hf, hfd, hb, hkl, hkd, hnl, q⟩ := h; rfl) fun f_ cdv A outer s H vs Q E hr h => ?_
  obtain ⟨bk, x, v, sh, d, b, ks, kk, rfl, hx, hv, hf, hfd, hb, hkl, hkd, hnl, q⟩ := h
  refine ⟨_, (@pss_cons _ _ _ _ _ (@ps_set _ _ (3) _ _ _ _ sc_key_made.nd rfl (Or.inl rfl) (@pe_ix _ _ _ _ _ _ _ ix_tup (@pv _ 0 _ _ (by rfl) (by first | exact Or.inl rfl | exact Or.inr (Or.inl rfl) | exact Or.inr (Or.inr rfl)) (by decide) (by decide)) pe_int (fun _ _ => rfl)) (by rfl) (by first | exact .inl rfl | exact .inr rfl | assumption)) (@pss_cons _ _ _ _ _ (@ps_if _ _ _ _ _ _ _ _ (@pt_cmpR _ _ _ _ _ _ _ _ op_eq (@pv _ 3 _ _ (by rfl) (by first | exact Or.inl rfl | exact Or.inr (Or.inl rfl) | exact Or.inr (Or.inr rfl)) (by decide) (by decide)) pe_str (nomark _)) (@pss_one _ _ _ (@ps_ret _ _ _ _ (@pe_tup _ _ _ _ _ (@pa_cons _ _ _ _ _ (@pe_bm0 _ _ _ _ _ _ _ _ _ PySem.F.plainAttrs_int PySem.F.slot_int_bit_length PySem.F.type_int_bit_length mt_bits (@pe_op _ _ _ _ _ _ _ _ op_sub (@pv _ 1 _ _ (by rfl) (by first | exact Or.inl rfl | exact Or.inr (Or.inl rfl) | exact Or.inr (Or.inr rfl)) (by decide) (by decide)) (@pe_ix _ _ _ _ _ _ _ ix_tup (@pv _ 0 _ _ (by rfl) (by first | exact Or.inl rfl | exact Or.inr (Or.inl rfl) | exact Or.inr (Or.inr rfl)) (by decide) (by decide)) pe_int (fun _ _ => rfl))) (by rfl) (by rfl)) (@pa_cons _ _ _ _ _ (@pv _ 1 _ _ (by rfl) (by first | exact Or.inl rfl | exact Or.inr (Or.inl rfl) | exact Or.inr (Or.inr rfl)) (by decide) (by decide)) pa_nil (by rfl)) (by rfl))))) pss_nil) (@pss_cons _ _ _ _ _ (@ps_if _ _ _ _ _ _ _ _ (@pt_cmpR _ _ _ _ _ _ _ _ op_eq (@pv _ 3 _ _ (by rfl) (by first | exact Or.inl rfl | exact Or.inr (Or.inl rfl) | exact Or.inr (Or.inr rfl)) (by decide) (by decide)) pe_str (nomark _)) (@pss_one _ _ _ (@ps_ret _ _ _ _ (@pe_bt _ _ _ _ _ _ _ _ _ _ b_tuple call_tuple_of (@pa_cons _ _ _ _ _ (@pe_op _ _ _ _ _ _ _ _ op_cat (@pe_lst _ _ _ _ (@pa_cons _ _ _ _ _ (@pe_bf _ _ _ _ _ _ _ _ _ _ b_len call_len_str (@pa_cons _ _ _ _ _ (@pv _ 1 _ _ (by rfl) (by first | exact Or.inl rfl | exact Or.inr (Or.inl rfl) | exact Or.inr (Or.inr rfl)) (by decide) (by decide)) pa_nil (by rfl)) (by decide +kernel) (by rfl) (by rfl) (by decide) (by decide) (by rfl) (by rfl)) pa_nil (by rfl))) (@pe_lc _ _ _ _ _ _ _ ([none, some 0]) ((["sign", "shape"] : List Str)) _ (gName 0) _ _ (.own (.cap (i := 0) rfl rfl (by first | exact Or.inl rfl | exact Or.inr rfl) .nil)) rfl (@pi_str _ _ _ _ (@pv _ 1 _ _ (by rfl) (by first | exact Or.inl rfl | exact Or.inr (Or.inl rfl) | exact Or.inr (Or.inr rfl)) (by decide) (by decide))) (fun cl C s₀ H₀ fp pn => (@pg_name _ _ (0) _ (show List.Nodup (["sign", "shape"] : List Str) by decide +kernel) rfl (Or.inl rfl) (Or.inr rfl))) (fun cl C s₀ H₀ fp pn => pts_nil) (fun cl C s₀ H₀ fp pn => (@pe_bmK _ (g.K) _ _ _ _ _ _ _ _ _ _ _ PySem.F.plainAttrs_str PySem.F.slot_str_find PySem.F.type_str_find mt_find (@pe_ix _ _ _ _ _ _ _ (ix_tupK (K := g.K)) (@pv _ 1 _ _ (by rfl) (by first | exact Or.inl rfl | exact Or.inr (Or.inl rfl) | exact Or.inr (Or.inr rfl)) (by decide) (by decide)) pe_int (fun _ _ => rfl)) (@pa_cons _ _ _ _ _ (@pv _ 0 _ _ (by rfl) (by first | exact Or.inl rfl | exact Or.inr (Or.inl rfl) | exact Or.inr (Or.inr rfl)) (by decide) (by decide)) pa_nil (by rfl)) (by rfl) (by rfl) (by rfl) (by rfl) (by rfl) (by rfl))) (by intro x hx; simp at hx; first | (subst hx; exact Or.inl rfl) | (rcases hx with rfl | rfl <;> exact Or.inl rfl) | (rcases hx with rfl | rfl | rfl <;> exact Or.inl rfl)) (by rfl) (by decide) (by decide +kernel) (by intro _; rfl))) pa_nil (by rfl)) (by decide +kernel) (by rfl) (by rfl) (by decide) (by decide) (by rfl) (by rfl)))) pss_nil) (@pss_cons _ _ _ _ _ (@ps_if _ _ _ _ _ _ _ _ (@pt_cmpR _ _ _ _ _ _ _ _ op_eq (@pv _ 3 _ _ (by rfl) (by first | exact Or.inl rfl | exact Or.inr (Or.inl rfl) | exact Or.inr (Or.inr rfl)) (by decide) (by decide)) pe_str (nomark _)) (@pss_one _ _ _ (@ps_ret _ _ _ _ (@pe_bt _ _ _ _ _ _ _ _ _ _ b_tuple call_tuple_of (@pa_cons _ _ _ _ _ (@pe_op _ _ _ _ _ _ _ _ op_cat (@pe_lst _ _ _ _ (@pa_cons _ _ _ _ _ (@pe_fn _ _ _ _ _ _ _ _ _ _ _ _ F_sum_of_sizes hr (@pa_cons _ _ _ _ _ (@pv _ 2 _ _ (by rfl) (by first | exact Or.inl rfl | exact Or.inr (Or.inl rfl) | exact Or.inr (Or.inr rfl)) (by decide) (by decide)) pa_nil (by rfl)) (by omega) (by rfl) (by rfl) (by decide) (by rfl) (by rfl)) pa_nil (by rfl))) (@pv _ 2 _ _ (by rfl) (by first | exact Or.inl rfl | exact Or.inr (Or.inl rfl) | exact Or.inr (Or.inr rfl)) (by decide) (by decide))) pa_nil (by rfl)) (by decide +kernel) (by rfl) (by rfl) (by decide) (by decide) (by rfl) (by rfl)))) pss_nil) (@pss_cons _ _ _ _ _ (@ps_if _ _ _ _ _ _ _ _ (@pt_cmpR _ _ _ _ _ _ _ _ op_eq (@pv _ 3 _ _ (by rfl) (by first | exact Or.inl rfl | exact Or.inr (Or.inl rfl) | exact Or.inr (Or.inr rfl)) (by decide) (by decide)) pe_str (nomark _)) (@pss_one _ _ _ (@ps_ret _ _ _ _ (@pe_tup _ _ _ _ _ (@pa_cons _ _ _ _ _ (@pe_ix _ _ _ _ _ _ _ ix_tup (@pe_ix _ _ _ _ _ _ _ ix_list (@pv _ 2 _ _ (by rfl) (by first | exact Or.inl rfl | exact Or.inr (Or.inl rfl) | exact Or.inr (Or.inr rfl)) (by decide) (by decide)) pe_int (fun _ _ => rfl)) pe_int (fun _ _ => rfl)) (@pa_cons _ _ _ _ _ (@pe_fn _ _ _ _ _ _ _ _ _ _ _ _ F_branch_place hr (@pa_cons _ _ _ _ _ (@pe_ix _ _ _ _ _ _ _ ix_tup (@pv _ 0 _ _ (by rfl) (by first | exact Or.inl rfl | exact Or.inr (Or.inl rfl) | exact Or.inr (Or.inr rfl)) (by decide) (by decide)) pe_int (fun _ _ => rfl)) (@pa_cons _ _ _ _ _ (@pe_ix _ _ _ _ _ _ _ ix_tup (@pv _ 1 _ _ (by rfl) (by first | exact Or.inl rfl | exact Or.inr (Or.inl rfl) | exact Or.inr (Or.inr rfl)) (by decide) (by decide)) pe_int (fun _ _ => rfl)) pa_nil (by rfl)) (by rfl)) (by omega) (by rfl) (by rfl) (by decide) (by rfl) (by rfl)) (@pa_cons _ _ _ _ _ (@pe_ix _ _ _ _ _ _ _ ix_list (@pv _ 2 _ _ (by rfl) (by first | exact Or.inl rfl | exact Or.inr (Or.inl rfl) | exact Or.inr (Or.inr rfl)) (by decide) (by decide)) pe_int (fun _ _ => rfl)) pa_nil (by rfl)) (by rfl)) (by rfl))))) pss_nil) (@pss_cons _ _ _ _ _ (@ps_if _ _ _ _ _ _ _ _ (@pt_cmpR _ _ _ _ _ _ _ _ op_eq (@pv _ 3 _ _ (by rfl) (by first | exact Or.inl rfl | exact Or.inr (Or.inl rfl) | exact Or.inr (Or.inr rfl)) (by decide) (by decide)) pe_str (nomark _)) (@pss_one _ _ _ (@ps_ret _ _ _ _ (@pe_tup _ _ _ _ _ (@pa_cons _ _ _ _ _ (@pe_op _ _ _ _ _ _ _ _ op_add pe_int (@pe_ix _ _ _ _ _ _ _ ix_tup (@pe_ix _ _ _ _ _ _ _ ix_list (@pv _ 2 _ _ (by rfl) (by first | exact Or.inl rfl | exact Or.inr (Or.inl rfl) | exact Or.inr (Or.inr rfl)) (by decide) (by decide)) pe_int (fun _ _ => rfl)) pe_int (fun _ _ => rfl))) (@pa_cons _ _ _ _ _ (@pe_ix _ _ _ _ _ _ _ ix_list (@pv _ 2 _ _ (by rfl) (by first | exact Or.inl rfl | exact Or.inr (Or.inl rfl) | exact Or.inr (Or.inr rfl)) (by decide) (by decide)) pe_int (fun _ _ => rfl)) pa_nil (by rfl)) (by rfl))))) pss_nil) (@pss_one _ _ _ (@ps_ret _ _ _ _ (@pe_fn _ _ _ _ _ _ _ _ _ _ _ _ F_list_key hr (@pa_cons _ _ _ _ _ (@pv _ 0 _ _ (by rfl) (by first | exact Or.inl rfl | exact Or.inr (Or.inl rfl) | exact Or.inr (Or.inr rfl)) (by decide) (by decide)) (@pa_cons _ _ _ _ _ (@pv _ 2 _ _ (by rfl) (by first | exact Or.inl rfl | exact Or.inr (Or.inl rfl) | exact Or.inr (Or.inr rfl)) (by decide) (by decide)) pa_nil (by rfl)) (by rfl)) (by omega) (by rfl) (by rfl) (by decide) (by rfl) (by rfl)))))))))), ?_⟩
  have h6 : 10000 < sizeLine := by decide
  have hk := hkd.keyed hkl
  cases hx with
  | @whole a lo hi ha =>
    walk_at "rd"
    refine ⟨_, ha, _, atI30 _ _ _, ?_⟩
    walk_at "rd"
    cases hv with
    | int i =>
      walk_at "rd"
      exact ⟨_, ha, _, atI31 _ _ _, _, rfl, rfl, few (by decide), fun p hp => q p _ (.upd_new hp _) (.tup upd_same (.cons (.int _) (.cons (.int _) .nil)))⟩
    | _ => cases hf
  | text ha hn => exact hfd.elim
  | @row a b' vs ps ha hb' hs hn =>
    walk_at "rd"
    refine ⟨_, ha, _, atI20 _ _, ?_⟩
    walk_at "rd"
    have ek : kz (.row ps) d kk = ((kk.map (·.1)).sum, kk.map kt) := by cases d <;> rfl
    rw [ek] at q
    refine iteN (by decide) (iteN (by decide) ?_)
    refine ⟨b, ks, _, rfl, hb, hk, fun H2 s2 => ⟨few (by decide), fun p hp => ?_⟩⟩
    refine ⟨_, upd_same, _, (Same.upd_new hp _) _ _ (s2 _ _ hb), by simp; omega, fun p1 hp1 => ⟨_, .inl ⟨SqL.of upd_same, fun l hl => ?_⟩⟩⟩
    refine q l _ (((s2.trans (.upd_new hp _)).trans (.upd_new hp1 _)).trans (.upd_new hl _)) (.tup upd_same (.cons (.int _) (hkd.keep (tps_of ?_))))
    exact (((s2.trans (.upd_new hp _)).trans (.upd_new hp1 _)).trans (.upd_new hl _))
  | @many a v' p ha hp =>
    walk_at "rd"
    refine ⟨_, ha, _, atI20 _ _, ?_⟩
    walk_at "rd"
    have ek : kz (.many p) d kk = (kk.length + (kk.map (·.1)).sum, kk.map kt) := by cases d <;> rfl
    rw [ek] at q
    refine iteN (by decide) (iteN (by decide) (iteN (by decide) (iteN (by decide) (iteN (by decide) ?_))))
    refine ⟨_, p, b, ks, _, rfl, .many ha hp, hb, hk, fun t H' s' ht => q t H' s' (.tup ht (.cons ?_ (hkd.keep (tps_of s'))))⟩
    rw [List.length_map]
    exact .int _
  | @pick a b' as ms us ps ha hb' hbr hs hn =>
    walk_at "rd"
    refine ⟨_, ha, _, atI20 _ _, ?_⟩
    walk_at "rd"
    rw [← has_mk_form] at hf
    rw [within_pick] at hnl
    obtain ⟨x, d', i, rfl, hi⟩ := pick_inv hf
    cases hv with
    | @tup c vs _ h hl hds =>
    cases hds with
    | @cons v1 _ vs1 _ h1 hds1 =>
    cases hds1 with
    | @cons v2 _ vs2 _ h2 hds2 =>
    cases hds2 with
    | nil =>
    cases h1 with
    | str l hs1 hl1 =>
    have hil := plc_at hi
    have e2 := hs.length
    have b2 := hbr.2.1
    have fp : ps[i]? = some (ps[i]'(by omega)) := List.getElem?_eq_getElem _
    have ew : pick_in ms ps (.tuple [.str (S l), d']) = [(ps[i]'(by omega), d')] := by
      show (((plc ms (S l)).bind fun i => ps[i]?).toList.map fun p => (p, d')) = _
      rw [hi, Option.bind_some, fp]
      rfl
    rw [ew] at hnl
    obtain ⟨k0, rfl⟩ : ∃ n, kk = [n] := by
      match kk, hnl with
      | [n], _ => exact ⟨n, rfl⟩
    cases hkd with
    | @cons k _ _ _ hk1 hk2 =>
    cases hk2 with
    | nil =>
    obtain ⟨ka, kr, rfl, hka⟩ := key_inv hk1
    refine iteN (by decide) (iteN (by decide) (iteN (by decide) ⟨_, SqL.of hb, _, atI_c0 _ _, _, rfl, _, SqT.of hka, _, atI_c0 _ _, _, ha, _, atI21 _ _, c, rfl, _, SqT.of h, _, atI20 _ _, b', as, ms, us, S l, rfl, hb', hbr, fun H' s' => ⟨_, SqL.of (s' _ _ hb), _, atI_c0 _ _, few (by decide), fun p hp => ?_⟩⟩))
    have sm := s'.trans (.upd_new hp (.tup [.int (k0.1 : Nat), .int (i : Nat), .ref ka]))
    simp only [kz, hi, Option.getD_some] at q
    rw [hi] at *
    exact q p _ sm (.tup upd_same (.cons (.int _) (.cons (.int _) (.cons (hk1.keep (tps_of sm)) .nil))))
  | @use a nm ha =>
    walk_at "rd"
    refine ⟨_, ha, _, atI20 _ _, ?_⟩
    walk_at "rd"
    obtain ⟨i, hi⟩ := hfd
    have hil := plc_at hi
    rw [List.length_map] at hil
    have fp : (bk.map (·.2))[i]? = some ((bk.map (·.2))[i]'(by rw [List.length_map]; exact hil)) := List.getElem?_eq_getElem _
    rw [within_use, hi, Option.bind_some, fp] at hnl
    obtain ⟨k0, rfl⟩ : ∃ n, kk = [n] := by
      match kk, hnl with
      | [n], _ => exact ⟨n, rfl⟩
    cases hkd with
    | @cons k _ _ _ hk1 hk2 =>
    cases hk2 with
    | nil =>
    obtain ⟨ka, kr, rfl, hka⟩ := key_inv hk1
    rw [kz_use] at q
    refine iteN (by decide) (iteN (by decide) (iteN (by decide) (iteN (by decide) ⟨_, SqL.of hb, _, atI_c0 _ _, _, rfl, _, SqT.of hka, _, atI_c0 _ _, _, rfl, _, SqL.of hb, _, atI_c0 _ _, few (by decide), fun p hp => q p _ (.upd_new hp _) (.tup upd_same (.cons ?_ (.cons (hk1.keep (tps_of (Same.upd_new hp _))) .nil)))⟩)))
    rw [Int.natCast_add]
    exact .int _
end KW
set_option maxHeartbeats 8000000
namespace KW
open PySem L2

variable {g : Gx}
variable {bk : Bk}
variable {m : Nat}
local macro_rules | `(tactic| walk_at "gn") => `(tactic| simp only [gName, List.set_cons_zero, List.set_cons_succ])

local macro_rules | `(tactic| walk_at "rd") => `(tactic| simp (config := { failIfUnchanged := false, maxSteps := 10000000 }) only [L2.start, cxOf_K, nox_K, List.map_cons, List.map_nil, List.length_cons, List.length_nil, List.cons_append, List.nil_append, List.replicate_succ, List.replicate_zero, Nat.zero_add, Nat.reduceAdd, Nat.reduceSub, Nat.sub_self, tSeq, tIfS, tTest, tOp, tC, tVar, rI0, rI, rU, tUn, tRet, tRetN, tDrop, tNext, tBreak, tCont, tAsg, gName, gNil, gCons, tCons, tNil, tCB, tCall, tTry, tTryAs, tRaise, sFld, tFld, tMake, tMeth, Ends.gone, caught_K, tB, tAnd, tOr, tNot, tAndV, tOrV, tNotV, tIf, tChain, tNoPart, tPart, tSl, tNever, tAug, rIxL, rIxT, rSlL, tLst, tTup, gTup, tRev, tLZ, tConT, tDict0, rBits, rFind, rIn, tBM, tBM0, rAppend, rReverse, rEq, rNe, scal_ii, scal_ss, rCat, rSetL, gSub, ipI, capSt, List.getD_cons_zero, List.getD_cons_succ, decide_true, not_true_eq_false, not_false_eq_true,
  exists_eq_left', exists_eq_left, exists_eq', exists_eq, exists_and_left, and_assoc, Option.some.injEq, V.int.injEq, V.bl.injEq, V.ref.injEq, V.str.injEq, List.getElem?_cons_zero, List.getElem?_cons_succ, List.set_cons_zero, List.set_cons_succ, List.cons.injEq, and_true, true_and, List.append_nil, decide_eq_true_eq, Bool.not_eq_true', decide_eq_false_iff_not, Bool.not_not, Bool.not_true, Bool.not_false, Bool.true_eq_false, Bool.false_eq_true, if_true, if_false, ite_true, ite_false])

theorem tFor_listG {K : PySem.W.Frag} {tl : TE} {g : TG} {tb : TS} {D : Ends} {σ : St} {H : Hp} (G : Addr → List V → Hp → Prop) (ha : ∀ R : V → Hp → Prop, (∀ a xs H1, SqL K H1 a xs → G a xs H1 → R (.ref a) H1) → tl σ H R)
    (hb : ∀ a xs H1, SqL K H1 a xs → G a xs H1 → ∃ Pv : Nat → St → Hp → Prop, Pv 0 σ H1 ∧ (∀ i σ H, i ≤ xs.length → Pv i σ H → SqL K H a xs) ∧ (∀ (i : Nat) x σ H, xs[i]? = some x → Pv i σ H → g x σ H fun σ2 H2 => tb { D with nx := Pv (i + 1), ct := Pv (i + 1), bk := D.nx } σ2 H2) ∧ (∀ σ H, Pv xs.length σ H → D.nx σ H)) :
    tFor (iList K tl) g tb D σ H :=
  ha _ fun a xs H1 hS hG => by
    obtain ⟨Pv, h0, hl, hs, hd⟩ := hb a xs H1 hS hG
    exact ⟨a, rfl, ⟨xs, hS⟩, for_list Pv h0 hl hs hd⟩
theorem within_len {H : Hp} {v : V} {d : PyData} {sh : Sh} (h : Vd H v d) : (within bk sh d).length ≤ 1000 := by
  by_cases hu : ∃ nm, sh = .use nm
  · obtain ⟨nm, rfl⟩ := hu
    have e : (within bk (.use nm) d).length ≤ 1 := by
      cases d <;> (show ((Option.toList _).map _).length ≤ 1; rw [List.length_map]; cases (plc (bk.map (·.1)) (S nm)).bind _ <;> simp)
    omega
  by_cases hp : ∃ ms ps, sh = .pick ms ps
  · obtain ⟨ms, ps, rfl⟩ := hp; rw [within_pick]; exact pick_in_len
  cases h with
  | @lst a vs ds h hl hs =>
    have := hs.length
    cases sh <;> first | exact (hp ⟨_, _, rfl⟩).elim | exact (hu ⟨_, rfl⟩).elim | (simp [within] <;> omega)
  | @tup a vs ds h hl hs =>
    have := hs.length
    cases sh <;> first | exact (hp ⟨_, _, rfl⟩).elim | exact (hu ⟨_, rfl⟩).elim | (simp [within] <;> omega)
  | _ => cases sh <;> first | exact (hp ⟨_, _, rfl⟩).elim | exact (hu ⟨_, rfl⟩).elim | simp [within]
theorem mapM_none {α β : Type} {f : α → Option β} : ∀ {l : List α} {w : α}, w ∈ l → f w = none → l.mapM f = none
  | x :: l, w, hw, hn => by
    rw [List.mapM_cons]
    rcases List.mem_cons.mp hw with rfl | hw
    · rw [hn]; rfl
    · rw [mapM_none hw hn]
      cases f x <;> rfl
variable {m : Nat}
/-- levels of weighed -/
abbrev LV : Nat := 60
def sp_weighed (K : PySem.W.Frag) (m : Nat) : Sp := fun vs H Q _ => ∃ (bk : Bk) (b x v : V) (sh : Sh) (d : PyData), vs = [b, x, v] ∧ BkAt K H b bk ∧ ShAt K H x sh ∧ Enf bk m sh d ∧ Vd H v d ∧
  (∀ k, ky bk m sh d = some k → ∀ p H', Same H H' → KAt H' (.ref p) (kt k) → Q (.ref p) H') ∧ (ky bk m sh d = none → ∀ H', Same H H' → Q .non H')
theorem no_weighed {K : PySem.W.Frag} {vs : List V} {H : Hp} {Q : VK} {E : XK} (h : sp_weighed K 0 vs H Q E) : False := by
  obtain ⟨bk, b, x, v, sh, d, _, _, _, h, _⟩ := h
  exact h
theorem ok_weighed {k : Nat}  (R : g.Raw "weighed" "weighed" s_weighed ["book", "shape", "value"]) (F_has_form : g.Fn k "has_form" ["shape", "value"] (sp_has_form g.K)) (F_things_within : g.Fn k "things_within" ["book", "shape", "value"] (sp_things_within g.K)) (F_key_made : g.Fn k "key_made" ["shape", "value", "keys"] (sp_key_made g.K)) (F_weighed : g.Fn k "weighed" ["book", "shape", "value"] (sp_weighed g.K m)) : g.Fn (k + 1) "weighed" ["book", "shape", "value"] (sp_weighed g.K (m + 1)) := by
  refine R.fn sc_weighed (fun vs H Q E h => by obtain ⟨bk, b, x, v, sh, d, rfl, hbk, hx, hft, hv, q1, q2⟩ := h; rfl) fun f_ cdv A outer s H vs Q E hr h => ?_
  obtain ⟨bk, b, x, v, sh, d, rfl, hbk, hx, hft, hv, q1, q2⟩ := h
  refine ⟨_, (@pss_cons _ _ _ _ _ (@ps_if _ _ _ _ _ _ _ _ (@pt_not _ _ _ _ (@pt_val _ _ _ (@pe_fn _ _ _ _ _ _ _ _ _ _ _ _ F_has_form hr (@pa_cons _ _ _ _ _ (@pv _ 1 _ _ (by rfl) (by first | exact Or.inl rfl | exact Or.inr (Or.inl rfl) | exact Or.inr (Or.inr rfl)) (by decide) (by decide)) (@pa_cons _ _ _ _ _ (@pv _ 2 _ _ (by rfl) (by first | exact Or.inl rfl | exact Or.inr (Or.inl rfl) | exact Or.inr (Or.inr rfl)) (by decide) (by decide)) pa_nil (by rfl)) (by rfl)) (by omega) (by rfl) (by rfl) (by decide) (by rfl) (by rfl)) (by intro _; rfl))) (@pss_one _ _ _ (@ps_ret _ _ _ _ pe_non)) pss_nil) (@pss_cons _ _ _ _ _ (@ps_set _ _ (3) _ _ _ _ sc_weighed.nd rfl (Or.inl rfl) (@pe_lst _ _ _ _ pa_nil) (by rfl) (by first | exact .inl rfl | exact .inr rfl | assumption)) (@pss_cons _ _ _ _ _ (@ps_for _ _ _ _ _ _ _ _ PassesOwn.never rfl (@pi_list _ _ _ _ (@pe_fn _ _ _ _ _ _ _ _ _ _ _ _ F_things_within hr (@pa_cons _ _ _ _ _ (@pv _ 0 _ _ (by rfl) (by first | exact Or.inl rfl | exact Or.inr (Or.inl rfl) | exact Or.inr (Or.inr rfl)) (by decide) (by decide)) (@pa_cons _ _ _ _ _ (@pv _ 1 _ _ (by rfl) (by first | exact Or.inl rfl | exact Or.inr (Or.inl rfl) | exact Or.inr (Or.inr rfl)) (by decide) (by decide)) (@pa_cons _ _ _ _ _ (@pv _ 2 _ _ (by rfl) (by first | exact Or.inl rfl | exact Or.inr (Or.inl rfl) | exact Or.inr (Or.inr rfl)) (by decide) (by decide)) pa_nil (by rfl)) (by rfl)) (by rfl)) (by omega) (by rfl) (by rfl) (by decide) (by rfl) (by rfl))) (@pg_tup _ _ _ _ _ (2) rfl (@pgs_cons _ _ _ _ _ (@pg_name _ _ (4) _ sc_weighed.nd rfl (Or.inl rfl) (by first | exact .inl rfl | exact .inr rfl | assumption)) (@pgs_cons _ _ _ _ _ (@pg_name _ _ (5) _ sc_weighed.nd rfl (Or.inl rfl) (by first | exact .inl rfl | exact .inr rfl | assumption)) pgs_nil (by rfl)) (by rfl)) (by rfl) (by rfl)) (@pss_cons _ _ _ _ _ (@ps_set _ _ (6) _ _ _ _ sc_weighed.nd rfl (Or.inl rfl) (@pe_fn _ _ _ _ _ _ _ _ _ _ _ _ F_weighed hr (@pa_cons _ _ _ _ _ (@pv _ 0 _ _ (by rfl) (by first | exact Or.inl rfl | exact Or.inr (Or.inl rfl) | exact Or.inr (Or.inr rfl)) (by decide) (by decide)) (@pa_cons _ _ _ _ _ (@pv _ 4 _ _ (by rfl) (by first | exact Or.inl rfl | exact Or.inr (Or.inl rfl) | exact Or.inr (Or.inr rfl)) (by decide) (by decide)) (@pa_cons _ _ _ _ _ (@pv _ 5 _ _ (by rfl) (by first | exact Or.inl rfl | exact Or.inr (Or.inl rfl) | exact Or.inr (Or.inr rfl)) (by decide) (by decide)) pa_nil (by rfl)) (by rfl)) (by rfl)) (by omega) (by rfl) (by rfl) (by decide) (by rfl) (by rfl)) (by rfl) (by first | exact .inl rfl | exact .inr rfl | assumption)) (@pss_cons _ _ _ _ _ (@ps_if _ _ _ _ _ _ _ _ (@pt_cmpR _ _ _ _ _ _ _ _ op_isN (@pv _ 6 _ _ (by rfl) (by first | exact Or.inl rfl | exact Or.inr (Or.inl rfl) | exact Or.inr (Or.inr rfl)) (by decide) (by decide)) pe_non (nomark _)) (@pss_one _ _ _ (@ps_ret _ _ _ _ pe_non)) pss_nil) (@pss_one _ _ _ (@ps_expr _ _ _ _ (@pe_bm _ _ _ _ _ _ _ _ _ _ _ _ PySem.F.plainAttrs_list PySem.F.slot_list_append PySem.F.type_list_append mt_append (@pv _ 3 _ _ (by rfl) (by first | exact Or.inl rfl | exact Or.inr (Or.inl rfl) | exact Or.inr (Or.inr rfl)) (by decide) (by decide)) (@pa_cons _ _ _ _ _ (@pv _ 6 _ _ (by rfl) (by first | exact Or.inl rfl | exact Or.inr (Or.inl rfl) | exact Or.inr (Or.inr rfl)) (by decide) (by decide)) pa_nil (by rfl)) (by rfl) (by rfl) (by rfl) (by rfl) (by rfl)) (by rfl))))) (by intro _; rfl)) (@pss_one _ _ _ (@ps_ret _ _ _ _ (@pe_fn _ _ _ _ _ _ _ _ _ _ _ _ F_key_made hr (@pa_cons _ _ _ _ _ (@pv _ 1 _ _ (by rfl) (by first | exact Or.inl rfl | exact Or.inr (Or.inl rfl) | exact Or.inr (Or.inr rfl)) (by decide) (by decide)) (@pa_cons _ _ _ _ _ (@pv _ 2 _ _ (by rfl) (by first | exact Or.inl rfl | exact Or.inr (Or.inl rfl) | exact Or.inr (Or.inr rfl)) (by decide) (by decide)) (@pa_cons _ _ _ _ _ (@pv _ 3 _ _ (by rfl) (by first | exact Or.inl rfl | exact Or.inr (Or.inl rfl) | exact Or.inr (Or.inr rfl)) (by decide) (by decide)) pa_nil (by rfl)) (by rfl)) (by rfl)) (by omega) (by rfl) (by rfl) (by decide) (by rfl) (by rfl))))))), ?_⟩
  have h6 : 10000 < sizeLine := by decide
  refine cut1 (fun σ H' => σ = [some b, some x, some v, none, none, none, none] ∧ Same H H' ∧ form sh d = true) ?_ ?_
  · rintro σ H1 ⟨rfl, sm, hf⟩
    have hff : (form sh d && fnd bk sh d) = true := by rw [hf, fnd_of hx hf (hft hf).1]; rfl
    walk_at "rd"
    refine ⟨few (by decide), fun p hp => ?_⟩
    have s1 := Same.upd_new hp (.lst [])
    have hx1 := hx.keep sm
    have hv1 := hv.keep sm
    refine tFor_listG (fun l xs H2 => ∃ as, xs = as.map V.ref ∧ l ≠ p ∧ Same (upd H1 p (.lst [])) H2 ∧ H2 l = some (.lst (as.map V.ref)) ∧ Pairs g.K H1 H2 as (within bk sh d)) (fun R r => ?_) ?_
    · walk_at "rd"
      exact ⟨bk, b, x, v, sh, d, H1, rfl, s1, hbk.keep sm, (hft hf).1, hx1, hv1, hf, fun l as H' s' hl0 hl hpr => r l _ H' (SqL.of hl) ⟨as, rfl, fun e => by (rw [e, upd_same] at hl0; cases hl0), s', hl, hpr⟩⟩
    · rintro l xs H2 hS ⟨as, rfl, hlp, s2, hl, hpr⟩
      refine ⟨fun i σ H' => ∃ o4 o5 o6 ks kk, σ = [some b, some x, some v, some (.ref p), o4, o5, o6] ∧ Same H1 H' ∧ H' p = some (.lst ks) ∧ H' l = some (.lst (as.map V.ref)) ∧ Pairs g.K H1 H' as (within bk sh d) ∧ KeyD H' ks kk ∧ ks.length = i ∧ ((within bk sh d).take i).mapM (fun w => ky bk m w.1 w.2) = some kk, ?_, ?_, ?_, ?_⟩
      · exact ⟨none, none, none, [], [], rfl, s1.trans s2, s2 _ _ upd_same, hl, hpr, .nil, rfl, by simp⟩
      · rintro i σ H' hi ⟨o4, o5, o6, ks, ns, rfl, e1, e2, e3, _⟩
        exact SqL.of e3
      · rintro i y σ H' hy ⟨o4, o5, o6, ks, kk, rfl, e1, e2, e3, e4, e5, e6, e7⟩
        have hi : i < as.length := by simpa using (List.getElem?_eq_some_iff.mp hy).1
        have ha : as[i]? = some as[i] := List.getElem?_eq_getElem hi
        rw [List.getElem?_map, ha] at hy
        have : V.ref as[i] = y := Option.some.inj hy
        subst this
        have hw : (within bk sh d)[i]? = some ((within bk sh d)[i]'(by rw [← e4.1]; exact hi)) := List.getElem?_eq_getElem _
        generalize (within bk sh d)[i]'(by rw [← e4.1]; exact hi) = w at hw
        have hwm := List.mem_of_getElem? hw
        obtain ⟨y', z, ht, hsy, hvz⟩ := e4.2 i _ w ha hw
        walk_at "rd"
        refine ⟨_, SqT.of ht, rfl, ?_⟩
        walk_at "rd"
        refine ⟨bk, b, y', z, w.1, w.2, rfl, hbk.keep (sm.trans e1), hsy.keep e1, (hft hf).2 w hwm, hvz.keep e1, fun n hn t H4 s4 ht4 => ?_, fun hn H4 s4 => ?_⟩
        · walk_at "rd"
          have s14 := e1.trans s4
          have hwl := within_len (bk := bk) (sh := sh) hv
          have e41 := e4.1
          have tp : Tps H4 (upd H4 p (.lst (ks ++ [.ref t]))) := .upd_lst (s4 _ _ e2)
          refine iteN (by simp) ⟨.inl ⟨rfl, _, SqL.of (s4 _ _ e2)⟩, ks, s4 _ _ e2, by omega, .upd_over hp s14 _, _, upd_same, ?_, ⟨e4.1, fun j a w h1 h2 => ?_⟩, kk ++ [n], ?_, by simp [e6], ?_⟩
          · rw [upd_ne hlp]; exact s4 _ _ e3
          · obtain ⟨y, z, g1, g2, g3⟩ := e4.2 j a w h1 h2
            exact ⟨y, z, by rw [upd_ne (ne_of (s4 _ _ g1) (s4 _ _ e2) (by intro z; cases z))]; exact s4 _ _ g1, g2, g3⟩
          · rw [KeyD, List.map_append]
            exact (e5.keep ((tps_of s4).trans tp)).append (.cons (ht4.keep tp) .nil)
          · rw [take_snoc hw, List.mapM_append, e7]
            simp [hn]
        · exact q2 (by
            rw [ky, mapM_none (f := fun w => ky bk m w.1 w.2) hwm hn]
            split <;> rfl) H4 ((sm.trans e1).trans s4)
      · rintro σ H' ⟨o4, o5, o6, ks, kk, rfl, e1, e2, e3, e4, e5, e6, e7⟩
        walk_at "rd"
        rw [List.length_map, e4.1, List.take_length] at e7
        have hwl := within_len (bk := bk) (sh := sh) hv
        have e41 := e4.1
        have hkn := e5.length
        rw [List.length_map] at e6 hkn
        refine ⟨bk, x, v, sh, d, p, ks, kk, rfl, hx1.keep e1, hv1.keep e1, hf, (hft hf).1, e2, by omega, e5, by omega, fun t H4 s4 ht => ?_⟩
        exact q1 (kz sh d kk) (by rw [ky, if_pos hff, e7]; rfl) t H4 ((sm.trans e1).trans s4) ht
  · intro N hN
    walk_at "rd"
    refine ⟨x, v, sh, d, rfl, hx, hv, fun H' s' => ⟨_, rfl, ?_⟩⟩
    by_cases hf : form sh d = true
    · rw [hf]
      exact iteN (by simp) (hN _ _ ⟨rfl, s', hf⟩)
    · have hf' := Bool.eq_false_iff.mpr hf
      rw [hf']
      exact iteY rfl (q2 (by rw [ky, if_neg (by rw [hf']; simp)]) H' s')
def sp_key_or_refusal (K : PySem.W.Frag) : Sp := fun vs H Q _ => ∃ (bk : Bk) (b x v : V) (sh : Sh) (d : PyData) (k : Nat × List PyData), vs = [b, x, v] ∧ BkAt K H b bk ∧ ShAt K H x sh ∧ Enf bk LV sh d ∧ Vd H v d ∧ ky bk LV sh d = some k ∧ ∀ p H', Same H H' → KAt H' (.ref p) (kt k) → Q (.ref p) H'
theorem ok_key_or_refusal {k : Nat}  (R : g.Raw "key_or_refusal" "key_or_refusal" s_key_or_refusal ["book", "shape", "value"]) (F_weighed : g.Fn k "weighed" ["book", "shape", "value"] (sp_weighed g.K LV)) : g.Fn (k + 1) "key_or_refusal" ["book", "shape", "value"] (sp_key_or_refusal g.K) := by
  refine R.fn sc_key_or_refusal (fun vs H Q E h => by obtain ⟨bk, b, x, v, sh, d, k, rfl, hbk, hx, hft, hv, hn, q⟩ := h; rfl) fun f_ cdv A outer s H vs Q E hr h => ?_
  obtain ⟨bk, b, x, v, sh, d, k, rfl, hbk, hx, hft, hv, hn, q⟩ := h
  refine ⟨_, (@pss_cons _ _ _ _ _ (@ps_set _ _ (3) _ _ _ _ sc_key_or_refusal.nd rfl (Or.inl rfl) (@pe_fn _ _ _ _ _ _ _ _ _ _ _ _ F_weighed hr (@pa_cons _ _ _ _ _ (@pv _ 0 _ _ (by rfl) (by first | exact Or.inl rfl | exact Or.inr (Or.inl rfl) | exact Or.inr (Or.inr rfl)) (by decide) (by decide)) (@pa_cons _ _ _ _ _ (@pv _ 1 _ _ (by rfl) (by first | exact Or.inl rfl | exact Or.inr (Or.inl rfl) | exact Or.inr (Or.inr rfl)) (by decide) (by decide)) (@pa_cons _ _ _ _ _ (@pv _ 2 _ _ (by rfl) (by first | exact Or.inl rfl | exact Or.inr (Or.inl rfl) | exact Or.inr (Or.inr rfl)) (by decide) (by decide)) pa_nil (by rfl)) (by rfl)) (by rfl)) (by omega) (by rfl) (by rfl) (by decide) (by rfl) (by rfl)) (by rfl) (by first | exact .inl rfl | exact .inr rfl | assumption)) (@pss_cons _ _ _ _ _ (@ps_if _ _ _ _ _ _ _ _ (@pt_cmpR _ _ _ _ _ _ _ _ op_isN (@pv _ 3 _ _ (by rfl) (by first | exact Or.inl rfl | exact Or.inr (Or.inl rfl) | exact Or.inr (Or.inr rfl)) (by decide) (by decide)) pe_non (nomark _)) (@pss_one _ _ _ ps_never) pss_nil) (@pss_one _ _ _ (@ps_ret _ _ _ _ (@pv _ 3 _ _ (by rfl) (by first | exact Or.inl rfl | exact Or.inr (Or.inl rfl) | exact Or.inr (Or.inr rfl)) (by decide) (by decide)))))), ?_⟩
  walk_at "rd"
  refine ⟨bk, b, x, v, sh, d, rfl, hbk, hx, hft, hv, fun n' hn' p H' s' hp => ?_, fun hn' H' s' => ?_⟩
  · rw [hn] at hn'
    cases hn'
    walk_at "rd"
    exact iteN (by simp) (q p H' s' hp)
  · rw [hn] at hn'; cases hn'
end KW
set_option maxHeartbeats 8000000
namespace KW
open PySem L2

variable {g : Gx}
variable {bk : Bk}
variable {m : Nat}
local macro_rules | `(tactic| walk_at "gn") => `(tactic| simp only [gName, List.set_cons_zero, List.set_cons_succ])

local macro_rules | `(tactic| walk_at "rd") => `(tactic| simp (config := { failIfUnchanged := false, maxSteps := 10000000 }) only [L2.start, cxOf_K, nox_K, List.map_cons, List.map_nil, List.length_cons, List.length_nil, List.cons_append, List.nil_append, List.replicate_succ, List.replicate_zero, Nat.zero_add, Nat.reduceAdd, Nat.reduceSub, Nat.sub_self, tSeq, tIfS, tTest, tOp, tC, tVar, rI0, rI, rU, tUn, tRet, tRetN, tDrop, tNext, tBreak, tCont, tAsg, gName, gNil, gCons, tCons, tNil, tCB, tCall, tTry, tTryAs, tRaise, sFld, tFld, tMake, tMeth, Ends.gone, caught_K, tB, tAnd, tOr, tNot, tAndV, tOrV, tNotV, tIf, tChain, tNoPart, tPart, tSl, tNever, tAug, rIxL, rIxT, rSlL, tLst, tTup, gTup, tRev, tLZ, tConT, tDict0, rBits, rFind, rIn, tBM, tBM0, rAppend, rReverse, rEq, rNe, scal_ii, scal_ss, rCat, rSetL, gSub, ipI, capSt, List.getD_cons_zero, List.getD_cons_succ, decide_true, not_true_eq_false, not_false_eq_true,
  exists_eq_left', exists_eq_left, exists_eq', exists_eq, exists_and_left, and_assoc, Option.some.injEq, V.int.injEq, V.bl.injEq, V.ref.injEq, V.str.injEq, List.getElem?_cons_zero, List.getElem?_cons_succ, List.set_cons_zero, List.set_cons_succ, List.cons.injEq, and_true, true_and, List.append_nil, decide_eq_true_eq, Bool.not_eq_true', decide_eq_false_iff_not, Bool.not_not, Bool.not_true, Bool.not_false, Bool.true_eq_false, Bool.false_eq_true, if_true, if_false, ite_true, ite_false])

theorem depth_all {ds : List PyData} {n : Nat} (h : ∀ d ∈ ds, d.depth ≤ n) : PyData.depthAll ds ≤ n := by
  induction ds with
  | nil => simp [PyData.depthAll]
  | cons d ds ih =>
    have h1 := h d (.head _)
    have h2 := ih fun d hd => h d (.tail _ hd)
    simp only [PyData.depthAll]
    omega
theorem ky_depth {bk : Bk} : ∀ {n : Nat} {sh : Sh} {d : PyData} {k : Nat × List PyData}, ky bk n sh d = some k → (kt k).depth ≤ n + 1
  | 0, _, _, _, h => by cases h
  | n + 1, sh, d, k, h => by
    rw [ky] at h
    by_cases hf : (form sh d && fnd bk sh d) = true
    · rw [if_pos hf] at h
      obtain ⟨ks, hks, rfl⟩ := Option.map_eq_some_iff.mp h
      have hall := mapM_all (P := fun k => (kt k).depth ≤ n + 1) hks fun w _ b hb => ky_depth hb
      have hi : ∀ i : Int, (PyData.int i).depth ≤ n + 1 := fun i => by simp [PyData.depth]
      rw [kt, PyData.depth]
      have key : PyData.depthAll (.int ((kz sh d ks).1 : Nat) :: (kz sh d ks).2) ≤ n + 1 := by
        refine depth_all fun e he => ?_
        rcases List.mem_cons.mp he with rfl | he
        · exact hi _
        unfold kz at he
        split at he
        · rw [List.mem_singleton] at he; subst he; exact hi _
        · obtain ⟨c, _, rfl⟩ := List.mem_map.mp he; exact hi _
        · obtain ⟨c, hc, rfl⟩ := List.mem_map.mp he; exact hall c hc
        · obtain ⟨c, hc, rfl⟩ := List.mem_map.mp he; exact hall c hc
        · rcases List.mem_cons.mp he with rfl | he
          · exact hi _
          · rw [List.mem_singleton] at he; subst he; exact hall _ (.head _)
        · rw [List.mem_singleton] at he; subst he; exact hall _ (.head _)
        · cases he
      omega
    · rw [if_neg hf] at h; cases h
open Classical in
/-- what compared answers of two keys -/
noncomputable def cmpZ (k k' : Nat × List PyData) : Int := if k = k' then 0 else if KLt (kt k) (kt k') then -1 else 1
theorem cmp_self (k : Nat × List PyData) : cmpZ k k = 0 := by unfold cmpZ; rw [if_pos rfl]
theorem cmp_lt {k k' : Nat × List PyData} (h : KLt (kt k) (kt k')) : cmpZ k k' = -1 := by
  unfold cmpZ
  rw [if_neg (fun e => h.irr (by rw [e])), if_pos h]
theorem cmp_gt {k k' : Nat × List PyData} (h : KLt (kt k') (kt k)) : cmpZ k k' = 1 := by
  unfold cmpZ
  rw [if_neg (fun e => h.irr (by rw [e])), if_neg (fun e => (h.trans e).irr rfl)]
theorem cmp_cases {k k' : Nat × List PyData} (h : KD (kt k)) (h' : KD (kt k')) : (k = k' ∧ cmpZ k k' = 0 ∧ cmpZ k' k = 0) ∨ (k ≠ k' ∧ KLt (kt k) (kt k') ∧ cmpZ k k' = -1 ∧ cmpZ k' k = 1) ∨ (k ≠ k' ∧ KLt (kt k') (kt k) ∧ cmpZ k k' = 1 ∧ cmpZ k' k = -1) := by
  rcases h.tri h' with c | c | c
  · exact .inr (.inl ⟨fun e => c.irr (by rw [e]), c, cmp_lt c, cmp_gt c⟩)
  · have := kt_inj c
    subst this
    exact .inl ⟨rfl, cmp_self _, cmp_self _⟩
  · exact .inr (.inr ⟨fun e => c.irr (by rw [e]), c, cmp_gt c, cmp_lt c⟩)
theorem cmp_size {k k' : Nat × List PyData} (h : k.1 < k'.1) : cmpZ k k' = -1 := cmp_lt (.tup (.here (.int (by omega))))
theorem cmp_trans {a b c : Nat × List PyData} (ha : KD (kt a)) (hb : KD (kt b)) (hc : KD (kt c)) (h1 : cmpZ a b ≤ 0) (h2 : cmpZ b c ≤ 0) : cmpZ a c ≤ 0 := by
  rcases cmp_cases ha hb with ⟨rfl, _⟩ | ⟨_, l1, _⟩ | ⟨_, _, e, _⟩
  · exact h2
  · rcases cmp_cases hb hc with ⟨rfl, _⟩ | ⟨_, l2, _⟩ | ⟨_, _, e, _⟩
    · exact h1
    · rw [cmp_lt (l1.trans l2)]; decide
    · omega
  · omega
def sp_compared (K : PySem.W.Frag) : Sp := fun vs H Q _ => ∃ (bk : Bk) (b x v v' : V) (sh : Sh) (d d' : PyData) (k k' : Nat × List PyData), vs = [b, x, v, v'] ∧ BkAt K H b bk ∧ ShAt K H x sh ∧ Enf bk LV sh d ∧ Enf bk LV sh d' ∧ Vd H v d ∧ Vd H v' d' ∧ ky bk LV sh d = some k ∧ ky bk LV sh d' = some k' ∧ ∀ H', Same H H' → Q (.int (cmpZ k k')) H'
theorem ok_compared {k : Nat}  (R : g.Raw "compared" "compared" s_compared ["book", "shape", "one", "other"]) (F_key_or_refusal : g.Fn k "key_or_refusal" ["book", "shape", "value"] (sp_key_or_refusal g.K)) : g.Fn (k + 1) "compared" ["book", "shape", "one", "other"] (sp_compared g.K) := by
  refine R.fn sc_compared (fun vs H Q E h => by obtain ⟨bk, b, x, v, v', sh, d, d', k, k', rfl, hbk, hx, hft, hft', hv, hv', hk, hk', q⟩ := h; rfl) fun f_ cdv A outer s H vs Q E hr h => ?_
  obtain ⟨bk, b, x, v, v', sh, d, d', k, k', rfl, hbk, hx, hft, hft', hv, hv', hk, hk', q⟩ := h
  refine ⟨_, (@pss_cons _ _ _ _ _ (@ps_set _ _ (4) _ _ _ _ sc_compared.nd rfl (Or.inl rfl) (@pe_fn _ _ _ _ _ _ _ _ _ _ _ _ F_key_or_refusal hr (@pa_cons _ _ _ _ _ (@pv _ 0 _ _ (by rfl) (by first | exact Or.inl rfl | exact Or.inr (Or.inl rfl) | exact Or.inr (Or.inr rfl)) (by decide) (by decide)) (@pa_cons _ _ _ _ _ (@pv _ 1 _ _ (by rfl) (by first | exact Or.inl rfl | exact Or.inr (Or.inl rfl) | exact Or.inr (Or.inr rfl)) (by decide) (by decide)) (@pa_cons _ _ _ _ _ (@pv _ 2 _ _ (by rfl) (by first | exact Or.inl rfl | exact Or.inr (Or.inl rfl) | exact Or.inr (Or.inr rfl)) (by decide) (by decide)) pa_nil (by rfl)) (by rfl)) (by rfl)) (by omega) (by rfl) (by rfl) (by decide) (by rfl) (by rfl)) (by rfl) (by first | exact .inl rfl | exact .inr rfl | assumption)) (@pss_cons _ _ _ _ _ (@ps_set _ _ (5) _ _ _ _ sc_compared.nd rfl (Or.inl rfl) (@pe_fn _ _ _ _ _ _ _ _ _ _ _ _ F_key_or_refusal hr (@pa_cons _ _ _ _ _ (@pv _ 0 _ _ (by rfl) (by first | exact Or.inl rfl | exact Or.inr (Or.inl rfl) | exact Or.inr (Or.inr rfl)) (by decide) (by decide)) (@pa_cons _ _ _ _ _ (@pv _ 1 _ _ (by rfl) (by first | exact Or.inl rfl | exact Or.inr (Or.inl rfl) | exact Or.inr (Or.inr rfl)) (by decide) (by decide)) (@pa_cons _ _ _ _ _ (@pv _ 3 _ _ (by rfl) (by first | exact Or.inl rfl | exact Or.inr (Or.inl rfl) | exact Or.inr (Or.inr rfl)) (by decide) (by decide)) pa_nil (by rfl)) (by rfl)) (by rfl)) (by omega) (by rfl) (by rfl) (by decide) (by rfl) (by rfl)) (by rfl) (by first | exact .inl rfl | exact .inr rfl | assumption)) (@pss_cons _ _ _ _ _ (@ps_if _ _ _ _ _ _ _ _ (@pt_cmpR _ _ _ _ _ _ _ _ (op_eqD hr.units) (@pv _ 4 _ _ (by rfl) (by first | exact Or.inl rfl | exact Or.inr (Or.inl rfl) | exact Or.inr (Or.inr rfl)) (by decide) (by decide)) (@pv _ 5 _ _ (by rfl) (by first | exact Or.inl rfl | exact Or.inr (Or.inl rfl) | exact Or.inr (Or.inr rfl)) (by decide) (by decide)) (nomark _)) (@pss_one _ _ _ (@ps_ret _ _ _ _ pe_int)) pss_nil) (@pss_one _ _ _ (@ps_ret _ _ _ _ (@pe_ifExp _ _ _ _ _ _ _ _ (@pt_cmpR _ _ _ _ _ _ _ _ (op_ltD hr.units66) (@pv _ 4 _ _ (by rfl) (by first | exact Or.inl rfl | exact Or.inr (Or.inl rfl) | exact Or.inr (Or.inr rfl)) (by decide) (by decide)) (@pv _ 5 _ _ (by rfl) (by first | exact Or.inl rfl | exact Or.inr (Or.inl rfl) | exact Or.inr (Or.inr rfl)) (by decide) (by decide)) (nomark _)) (@pe_un _ _ _ _ _ _ un_neg pe_int) pe_int)))))), ?_⟩
  walk_at "rd"
  refine ⟨bk, b, x, v, sh, d, k, rfl, hbk, hx, hft, hv, hk, fun p H1 s1 hp => ?_⟩
  refine ⟨bk, b, x, v', sh, d', k', rfl, hbk.keep s1, hx.keep s1, hft', hv'.keep s1, hk', fun p2 H2 s2 hp2 => ?_⟩
  have hp1 := hp.keep (tps_of s2)
  have q := q _ (s1.trans s2)
  have kd := ky_kd hk
  have kd' := ky_kd hk'
  have dp := ky_depth hk
  obtain ⟨bb, hlt, hbb⟩ := (ky_sim sh d d' k k' hk hk').1.answer kd kd'
  refine ⟨_, hp1.den, _, hp2.den, by have : LV = 60 := rfl; omega, ?_⟩
  refine ite2 (fun c => ?_) fun c => ?_
  · have := kt_inj ((kd.eqv kd').mp c)
    subst this
    rw [cmp_self] at q
    exact q
  · refine ⟨_, hp1.den, _, hp2.den, _, hlt, by have : LV = 60 := rfl; omega, ?_⟩
    refine ite2 (fun c2 => ?_) fun c2 => ?_
    · rw [cmp_lt (hbb.mp c2)] at q
      exact q
    · rcases cmp_cases kd kd' with ⟨rfl, _⟩ | ⟨_, l, _⟩ | ⟨_, _, e, _⟩
      · exact (c ((kd.eqv kd').mpr rfl)).elim
      · exact (c2 (hbb.mpr l)).elim
      · rw [e] at q
        exact q
end KW
set_option maxHeartbeats 8000000
namespace KW
open PySem L2

variable {g : Gx}
variable {bk : Bk}
variable {m : Nat}
local macro_rules | `(tactic| walk_at "gn") => `(tactic| simp only [gName, List.set_cons_zero, List.set_cons_succ])

local macro_rules | `(tactic| walk_at "rd") => `(tactic| simp (config := { failIfUnchanged := false, maxSteps := 10000000 }) only [L2.start, cxOf_K, nox_K, List.map_cons, List.map_nil, List.length_cons, List.length_nil, List.cons_append, List.nil_append, List.replicate_succ, List.replicate_zero, Nat.zero_add, Nat.reduceAdd, Nat.reduceSub, Nat.sub_self, tSeq, tIfS, tTest, tOp, tC, tVar, rI0, rI, rU, tUn, tRet, tRetN, tDrop, tNext, tBreak, tCont, tAsg, gName, gNil, gCons, tCons, tNil, tCB, tCall, tTry, tTryAs, tRaise, sFld, tFld, tMake, tMeth, Ends.gone, caught_K, tB, tAnd, tOr, tNot, tAndV, tOrV, tNotV, tIf, tChain, tNoPart, tPart, tSl, tNever, tAug, rIxL, rIxT, rSlL, tLst, tTup, gTup, tRev, tLZ, tConT, tDict0, rBits, rFind, rIn, tBM, tBM0, rAppend, rReverse, rEq, rNe, scal_ii, scal_ss, rCat, rSetL, gSub, ipI, capSt, List.getD_cons_zero, List.getD_cons_succ, decide_true, not_true_eq_false, not_false_eq_true,
  exists_eq_left', exists_eq_left, exists_eq', exists_eq, exists_and_left, and_assoc, Option.some.injEq, V.int.injEq, V.bl.injEq, V.ref.injEq, V.str.injEq, List.getElem?_cons_zero, List.getElem?_cons_succ, List.set_cons_zero, List.set_cons_succ, List.cons.injEq, and_true, true_and, List.append_nil, decide_eq_true_eq, Bool.not_eq_true', decide_eq_false_iff_not, Bool.not_not, Bool.not_true, Bool.not_false, Bool.true_eq_false, Bool.false_eq_true, if_true, if_false, ite_true, ite_false])

theorem str_ok {l : List Nat} (h : ∀ c ∈ l, c < 1000) : PyData.strOk (S l) = true := by
  simp only [PyData.strOk, S, Array.all_eq_true', decide_eq_true_eq]
  intro c hc
  have := h c (by simpa using hc)
  omega
theorem at_code {l : List Nat} {i c : Nat} (h : l[i]? = some c) : atI (S l).cps.toList (i : Int) = some c := by rw [S_list]; exact atI_nat h
def NL : List Nat := [97, 98, 99, 100, 101, 102, 103, 104, 105, 106, 107, 108, 109, 110, 111, 112, 113, 114, 115, 116, 117, 118, 119, 120, 121, 122]
theorem nl_str : Str.ofString "abcdefghijklmnopqrstuvwxyz" = S NL := by decide +kernel
theorem nl_len : NL.length = 26 := rfl
theorem nl_inj : ∀ i j : Fin 26, NL.getD i.val 0 = NL.getD j.val 0 → i = j := by decide +kernel
theorem nl_ok : ∀ c ∈ NL, c < 1000 := by decide +kernel
/-- the letter at a place of a name -/
def nmL (c : Int) (k j : Nat) : Nat := NL.getD ((if (j : Int) = c / 8 % (1 + c % 8) then c / (64 * ((j : Int) + 1)) + (j : Int) * (j : Int) + (k : Int) else c / (64 * ((j : Int) + 1)) + (j : Int) * (j : Int)) % 26).toNat 0
def nm (c : Int) (k : Nat) : List Nat := (List.range (1 + c % 8).toNat).map (nmL c k)
theorem nm_len (c : Int) (k : Nat) : (nm c k).length = (1 + c % 8).toNat := by rw [nm, List.length_map, List.length_range]
theorem nm_inj {c : Int} {k k' : Nat} (h1 : k < 26) (h2 : k' < 26) (h : nm c k = nm c k') : k = k' := by
  have ha0 : 0 ≤ c / 8 % (1 + c % 8) := Int.emod_nonneg _ (by omega)
  have ha1 : c / 8 % (1 + c % 8) < 1 + c % 8 := Int.emod_lt_of_pos _ (by omega)
  generalize hat : c / 8 % (1 + c % 8) = at_ at ha0 ha1
  have hj : at_.toNat < (1 + c % 8).toNat := by omega
  have h3 := congrArg (fun l => l[at_.toNat]?) h
  simp only [nm, List.getElem?_map, List.getElem?_range hj, Option.map_some, Option.some.injEq] at h3
  unfold nmL at h3
  rw [hat, show ((at_.toNat : Nat) : Int) = at_ by omega, if_pos rfl, if_pos rfl] at h3
  generalize c / (64 * (at_ + 1)) + at_ * at_ = z at h3
  have h4 := nl_inj ⟨((z + k) % 26).toNat, by omega⟩ ⟨((z + k') % 26).toNat, by omega⟩ h3
  have h5 : ((z + k) % 26).toNat = ((z + k') % 26).toNat := congrArg Fin.val h4
  omega
theorem nm_ok (c : Int) (k : Nat) : ∀ z ∈ nm c k, z < 1000 := by
  intro z hz
  rw [nm, List.mem_map] at hz
  obtain ⟨j, _, rfl⟩ := hz
  unfold nmL
  refine nl_ok _ ?_
  rw [List.getD_eq_getElem?_getD, List.getElem?_eq_getElem (by rw [nl_len]; omega)]
  exact List.getElem_mem _
def sp_law_name : Sp := fun vs H Q _ => ∃ (c : Int) (k : Nat), vs = [.int c, .int k] ∧ Q (.str (S (nm c k))) H
theorem ok_law_name  (R : g.Raw "_law_name" "_law_name" s_law_name ["_law_cell", "_law_k"]) (b_range : g.mg "range" = none) : g.Fn (1) "_law_name" ["_law_cell", "_law_k"] (sp_law_name) := by
  refine R.fn sc_law_name (fun vs H Q E h => by obtain ⟨c, k, rfl, q⟩ := h; rfl) fun f_ cdv A outer s H vs Q E hr h => ?_
  obtain ⟨c, k, rfl, q⟩ := h
  refine ⟨_, (@pss_cons _ _ _ _ _ (@ps_set _ _ (2) _ _ _ _ sc_law_name.nd rfl (Or.inl rfl) pe_str (by rfl) (by first | exact .inl rfl | exact .inr rfl | assumption)) (@pss_cons _ _ _ _ _ (@ps_set _ _ (3) _ _ _ _ sc_law_name.nd rfl (Or.inl rfl) (@pe_op _ _ _ _ _ _ _ _ op_add pe_int (@pe_op _ _ _ _ _ _ _ _ op_mod (@pv _ 0 _ _ (by rfl) (by first | exact Or.inl rfl | exact Or.inr (Or.inl rfl) | exact Or.inr (Or.inr rfl)) (by decide) (by decide)) pe_int)) (by rfl) (by first | exact .inl rfl | exact .inr rfl | assumption)) (@pss_cons _ _ _ _ _ (@ps_set _ _ (4) _ _ _ _ sc_law_name.nd rfl (Or.inl rfl) (@pe_op _ _ _ _ _ _ _ _ op_mod (@pe_op _ _ _ _ _ _ _ _ op_fdivL (@pv _ 0 _ _ (by rfl) (by first | exact Or.inl rfl | exact Or.inr (Or.inl rfl) | exact Or.inr (Or.inr rfl)) (by decide) (by decide)) pe_int) (@pv _ 3 _ _ (by rfl) (by first | exact Or.inl rfl | exact Or.inr (Or.inl rfl) | exact Or.inr (Or.inr rfl)) (by decide) (by decide))) (by rfl) (by first | exact .inl rfl | exact .inr rfl | assumption)) (@pss_cons _ _ _ _ _ (@ps_set _ _ (5) _ _ _ _ sc_law_name.nd rfl (Or.inl rfl) pe_str (by rfl) (by first | exact .inl rfl | exact .inr rfl | assumption)) (@pss_cons _ _ _ _ _ (@ps_for _ _ _ _ _ _ _ _ PassesOwn.never rfl (@pi_range1 _ _ _ _ _ _ rfl b_range (@pa_cons _ _ _ _ _ (@pv _ 3 _ _ (by rfl) (by first | exact Or.inl rfl | exact Or.inr (Or.inl rfl) | exact Or.inr (Or.inr rfl)) (by decide) (by decide)) pa_nil (by rfl)) (by rfl)) (@pg_name _ _ (6) _ sc_law_name.nd rfl (Or.inl rfl) (by first | exact .inl rfl | exact .inr rfl | assumption)) (@pss_cons _ _ _ _ _ (@ps_set _ _ (7) _ _ _ _ sc_law_name.nd rfl (Or.inl rfl) (@pe_op _ _ _ _ _ _ _ _ op_add (@pe_op _ _ _ _ _ _ _ _ op_fdivL (@pv _ 0 _ _ (by rfl) (by first | exact Or.inl rfl | exact Or.inr (Or.inl rfl) | exact Or.inr (Or.inr rfl)) (by decide) (by decide)) (@pe_op _ _ _ _ _ _ _ _ op_mulC pe_int (@pe_op _ _ _ _ _ _ _ _ op_add (@pv _ 6 _ _ (by rfl) (by first | exact Or.inl rfl | exact Or.inr (Or.inl rfl) | exact Or.inr (Or.inr rfl)) (by decide) (by decide)) pe_int))) (@pe_op _ _ _ _ _ _ _ _ op_mulC (@pv _ 6 _ _ (by rfl) (by first | exact Or.inl rfl | exact Or.inr (Or.inl rfl) | exact Or.inr (Or.inr rfl)) (by decide) (by decide)) (@pv _ 6 _ _ (by rfl) (by first | exact Or.inl rfl | exact Or.inr (Or.inl rfl) | exact Or.inr (Or.inr rfl)) (by decide) (by decide)))) (by rfl) (by first | exact .inl rfl | exact .inr rfl | assumption)) (@pss_cons _ _ _ _ _ (@ps_if _ _ _ _ _ _ _ _ (@pt_cmpR _ _ _ _ _ _ _ _ op_eq (@pv _ 6 _ _ (by rfl) (by first | exact Or.inl rfl | exact Or.inr (Or.inl rfl) | exact Or.inr (Or.inr rfl)) (by decide) (by decide)) (@pv _ 4 _ _ (by rfl) (by first | exact Or.inl rfl | exact Or.inr (Or.inl rfl) | exact Or.inr (Or.inr rfl)) (by decide) (by decide)) (nomark _)) (@pss_one _ _ _ (@ps_set _ _ (7) _ _ _ _ sc_law_name.nd rfl (Or.inl rfl) (@pe_op _ _ _ _ _ _ _ _ op_add (@pv _ 7 _ _ (by rfl) (by first | exact Or.inl rfl | exact Or.inr (Or.inl rfl) | exact Or.inr (Or.inr rfl)) (by decide) (by decide)) (@pv _ 1 _ _ (by rfl) (by first | exact Or.inl rfl | exact Or.inr (Or.inl rfl) | exact Or.inr (Or.inr rfl)) (by decide) (by decide))) (by rfl) (by first | exact .inl rfl | exact .inr rfl | assumption))) pss_nil) (@pss_one _ _ _ (@ps_set _ _ (5) _ _ _ _ sc_law_name.nd rfl (Or.inl rfl) (@pe_op _ _ _ _ _ _ _ _ op_add_str (@pv _ 5 _ _ (by rfl) (by first | exact Or.inl rfl | exact Or.inr (Or.inl rfl) | exact Or.inr (Or.inr rfl)) (by decide) (by decide)) (@pe_ix _ _ _ _ _ _ _ ix_str (@pv _ 2 _ _ (by rfl) (by first | exact Or.inl rfl | exact Or.inr (Or.inl rfl) | exact Or.inr (Or.inr rfl)) (by decide) (by decide)) (@pe_op _ _ _ _ _ _ _ _ op_mod (@pv _ 7 _ _ (by rfl) (by first | exact Or.inl rfl | exact Or.inr (Or.inl rfl) | exact Or.inr (Or.inr rfl)) (by decide) (by decide)) pe_int) (fun _ _ => rfl))) (by rfl) (by first | exact .inl rfl | exact .inr rfl | assumption))))) (by intro _; rfl)) (@pss_one _ _ _ (@ps_ret _ _ _ _ (@pv _ 5 _ _ (by rfl) (by first | exact Or.inl rfl | exact Or.inr (Or.inl rfl) | exact Or.inr (Or.inr rfl)) (by decide) (by decide))))))))), ?_⟩
  have hm0 : 0 ≤ c % 8 := by omega
  obtain ⟨sz, esz, hsz⟩ := mod_nat c (j := 8) (by decide)
  walk_at "rd"
  refine ⟨by decide, small_div (by decide) (by decide), by omega, ?_⟩
  refine tFor_range1 (n := sz + 1) (fun i σ H' => ∃ o6 o7, σ = [some (.int c), some (.int k), some (.str (S NL)), some (.int (1 + c % 8)), some (.int (c / 8 % (1 + c % 8))), some (.str (S ((List.range i).map (nmL c k)))), o6, o7] ∧ H' = H) (fun R r => ?_) (by omega) ⟨_, _, by rw [nl_str]; rfl, rfl⟩ ?_ ?_
  · walk_at "rd"
    rw [show 1 + c % 8 = ((sz + 1 : Nat) : Int) by omega]
    exact r
  · rintro i σ H' hi ⟨o6, o7, rfl, rfl⟩
    have key : ∀ z : Int, nmL c k i = NL.getD (z % 26).toNat 0 → rIxS (V.str (S NL)) (V.int (z % 26)) H' fun y H2 => ∃ x, y = V.str x ∧ (S (List.map (nmL c k) (List.range i))).length + x.length ≤ sizeLine ∧ S (List.map (nmL c k) (List.range i)) ++ x = S (List.map (nmL c k) (List.range (i + 1))) ∧ H2 = H' := by
      intro z hz
      obtain ⟨r, er, hr⟩ := mod_nat z (j := 26) (by decide)
      rw [er] at hz ⊢
      have h1 : NL[r]? = some (NL.getD r 0) := by rw [List.getD_eq_getElem?_getD, List.getElem?_eq_getElem (show r < NL.length by rw [nl_len]; omega)]; rfl
      rw [Int.toNat_natCast] at hz
      refine ⟨_, _, _, rfl, rfl, few (by rw [S_len]; decide), at_code h1, ?_⟩
      refine ⟨_, rfl, few (by rw [S_len, List.length_map, List.length_range]; show _ + 1 ≤ _; omega), ?_, rfl⟩
      rw [S_one, S_app, List.range_succ, List.map_append, ← hz]
      rfl
    walk_at "rd"
    refine ⟨.inl (cm (m := 7) (n := 10) (by decide) (by omega)), small_div (by omega) (by omega), .inl (cm (m := 10) (n := 10) (by omega) (by omega)), ?_⟩
    refine ite2 (fun c1 => ⟨by decide, key _ ?_⟩) (fun c1 => ⟨by decide, key _ ?_⟩)
    · rw [nmL, if_pos c1]
    · rw [nmL, if_neg c1]
  · rintro σ H' ⟨o6, o7, rfl, rfl⟩
    walk_at "rd"
    have e : sz + 1 = (1 + c % 8).toNat := by omega
    rw [e]
    exact q
theorem S_inj {a b : List Nat} (h : S a = S b) : a = b := by rw [← S_list a, ← S_list b, h]
theorem nm_plc {c : Int} {n i : Nat} (hn : n ≤ 8) (hi : i < n) : plc ((List.range n).map (nm c)) (S (nm c i)) = some i := by
  rw [plc, List.findIdx?_eq_some_iff_getElem]
  refine ⟨by simpa using hi, by simp, fun j hj => ?_⟩
  simp only [List.getElem_map, List.getElem_range, decide_eq_true_eq]
  intro e
  have := nm_inj (by omega) (by omega) (S_inj e)
  omega
theorem getI {ns : List Int} {i : Nat} {x : V} (h : (ns.map V.int)[i]? = some x) : ∃ z, ns[i]? = some z ∧ x = .int z := by
  rw [List.getElem?_map] at h
  cases e : ns[i]? with
  | none => rw [e] at h; cases h
  | some z => rw [e] at h; exact ⟨z, rfl, (Option.some.inj h).symm⟩
end KW
set_option maxHeartbeats 8000000
namespace KW
open PySem L2

variable {g : Gx}
variable {bk : Bk}
variable {m : Nat}
local macro_rules | `(tactic| walk_at "gn") => `(tactic| simp only [gName, List.set_cons_zero, List.set_cons_succ])

local macro_rules | `(tactic| walk_at "rd") => `(tactic| simp (config := { failIfUnchanged := false, maxSteps := 10000000 }) only [L2.start, cxOf_K, nox_K, List.map_cons, List.map_nil, List.length_cons, List.length_nil, List.cons_append, List.nil_append, List.replicate_succ, List.replicate_zero, Nat.zero_add, Nat.reduceAdd, Nat.reduceSub, Nat.sub_self, tSeq, tIfS, tTest, tOp, tC, tVar, rI0, rI, rU, tUn, tRet, tRetN, tDrop, tNext, tBreak, tCont, tAsg, gName, gNil, gCons, tCons, tNil, tCB, tCall, tTry, tTryAs, tRaise, sFld, tFld, tMake, tMeth, Ends.gone, caught_K, tB, tAnd, tOr, tNot, tAndV, tOrV, tNotV, tIf, tChain, tNoPart, tPart, tSl, tNever, tAug, rIxL, rIxT, rSlL, tLst, tTup, gTup, tRev, tLZ, tConT, tDict0, rBits, rFind, rIn, tBM, tBM0, rAppend, rReverse, rEq, rNe, scal_ii, scal_ss, rCat, rSetL, gSub, ipI, capSt, List.getD_cons_zero, List.getD_cons_succ, decide_true, not_true_eq_false, not_false_eq_true,
  exists_eq_left', exists_eq_left, exists_eq', exists_eq, exists_and_left, and_assoc, Option.some.injEq, V.int.injEq, V.bl.injEq, V.ref.injEq, V.str.injEq, List.getElem?_cons_zero, List.getElem?_cons_succ, List.set_cons_zero, List.set_cons_succ, List.cons.injEq, and_true, true_and, List.append_nil, decide_eq_true_eq, Bool.not_eq_true', decide_eq_false_iff_not, Bool.not_not, Bool.not_true, Bool.not_false, Bool.true_eq_false, Bool.false_eq_true, if_true, if_false, ite_true, ite_false])

/-- the law's book -/
def bkOf (m0 m1 m2 n0 : List Nat) (lo hi : Int) : Bk := [(n0, .pick [m0, m1, m2] [.whole lo hi, .row [.use n0, .use n0], .many (.use n0)])]
/-- the branches of the law's book -/
def BrsAt (H : Hp) (br : Addr) (m0 m1 m2 : List Nat) (lo hi : Int) : Prop := ∃ (e0 e1 e2 lf : Addr) (y1 y2 : V), H br = some (.tup [.ref e0, .ref e1, .ref e2]) ∧ H e0 = some (.tup [.str (S m0), .ref lf]) ∧ H lf = some (.tup [.str "whole", .int lo, .int hi]) ∧ H e1 = some (.tup [.str (S m1), y1]) ∧ H e2 = some (.tup [.str (S m2), y2])
theorem BrsAt.keep {H H' : Hp} {br : Addr} {m0 m1 m2 : List Nat} {lo hi : Int} (h : BrsAt H br m0 m1 m2 lo hi) (s : Same H H') : BrsAt H' br m0 m1 m2 lo hi := by
  obtain ⟨e0, e1, e2, lf, y1, y2, h1, h2, h3, h4, h5⟩ := h
  exact ⟨e0, e1, e2, lf, y1, y2, s _ _ h1, s _ _ h2, s _ _ h3, s _ _ h4, s _ _ h5⟩
structure BookAt (K : PySem.W.Frag) (H : Hp) (b br : Addr) (m0 m1 m2 n0 : List Nat) (lo hi : Int) : Prop where
  at_ : BkAt K H (.ref b) (bkOf m0 m1 m2 n0 lo hi)
  path : ∃ (r0 s0 : Addr) (x1 : V), H b = some (.lst [.ref r0]) ∧ H r0 = some (.tup [.str (S n0), .ref s0]) ∧ H s0 = some (.tup [x1, .ref br])
  brs : BrsAt H br m0 m1 m2 lo hi
theorem BookAt.keep {K : PySem.W.Frag} {H H' : Hp} {b br : Addr} {m0 m1 m2 n0 : List Nat} {lo hi : Int} (h : BookAt K H b br m0 m1 m2 n0 lo hi) (s : Same H H') : BookAt K H' b br m0 m1 m2 n0 lo hi := by
  obtain ⟨h1, ⟨r0, s0, x1, p1, p2, p3⟩, h3⟩ := h
  exact ⟨h1.keep s, ⟨r0, s0, x1, s _ _ p1, s _ _ p2, s _ _ p3⟩, h3.keep s⟩
def sp_law_book (K : PySem.W.Frag) : Sp := fun vs H Q _ => ∃ (a : Addr) (ns : List Int), vs = [.ref a] ∧ SqL K H a (ns.map V.int) ∧ ns.length ≤ 63 ∧
  ∀ b br lo hi H', Same H H' → lo ≤ hi → BookAt K H' b br (nm (ns.getD 1 0 / 7) 0) (nm (ns.getD 1 0 / 7) 1) (nm (ns.getD 1 0 / 7) 2) (nm (ns.getD 0 0 / 4) 0) lo hi → Q (.ref b) H'
theorem wide_at (c : Int) : ∃ w : Int, atI [V.int 0, V.int 1, V.int 3, V.int 1000] (c % 4) = some (.int w) ∧ 0 ≤ w := by
  have : c % 4 = 0 ∨ c % 4 = 1 ∨ c % 4 = 2 ∨ c % 4 = 3 := by omega
  rcases this with h | h | h | h <;> rw [h]
  · exact ⟨_, rfl, by decide⟩
  · exact ⟨_, rfl, by decide⟩
  · exact ⟨_, rfl, by decide⟩
  · exact ⟨_, rfl, by decide⟩
theorem ok_law_book {k : Nat}  (R : g.Raw "_law_book" "_law_book" s_law_book ["_law_script"]) (F_law_cell_at : g.Fn k "_law_cell_at" ["_law_script", "_law_k"] (sp_law_cell_at g.K)) (F_law_name : g.Fn k "_law_name" ["_law_cell", "_law_k"] (sp_law_name)) (b_range : g.mg "range" = none) : g.Fn (k + 1) "_law_book" ["_law_script"] (sp_law_book g.K) := by
  refine R.fn sc_law_book (fun vs H Q E h => by obtain ⟨a, ns, rfl, hS, hl, q⟩ := h; rfl) fun f_ cdv A outer s H vs Q E hr h => ?_
  obtain ⟨a, ns, rfl, hS, hl, q⟩ := h
  refine ⟨_, (@pss_cons _ _ _ _ _ (@ps_set _ _ (1) _ _ _ _ sc_law_book.nd rfl (Or.inl rfl) (@pe_fn _ _ _ _ _ _ _ _ _ _ _ _ F_law_cell_at hr (@pa_cons _ _ _ _ _ (@pv _ 0 _ _ (by rfl) (by first | exact Or.inl rfl | exact Or.inr (Or.inl rfl) | exact Or.inr (Or.inr rfl)) (by decide) (by decide)) (@pa_cons _ _ _ _ _ pe_int pa_nil (by rfl)) (by rfl)) (by omega) (by rfl) (by rfl) (by decide) (by rfl) (by rfl)) (by rfl) (by first | exact .inl rfl | exact .inr rfl | assumption)) (@pss_cons _ _ _ _ _ (@ps_set _ _ (2) _ _ _ _ sc_law_book.nd rfl (Or.inl rfl) (@pe_fn _ _ _ _ _ _ _ _ _ _ _ _ F_law_name hr (@pa_cons _ _ _ _ _ (@pe_op _ _ _ _ _ _ _ _ op_fdivL (@pv _ 1 _ _ (by rfl) (by first | exact Or.inl rfl | exact Or.inr (Or.inl rfl) | exact Or.inr (Or.inr rfl)) (by decide) (by decide)) pe_int) (@pa_cons _ _ _ _ _ pe_int pa_nil (by rfl)) (by rfl)) (by omega) (by rfl) (by rfl) (by decide) (by rfl) (by rfl)) (by rfl) (by first | exact .inl rfl | exact .inr rfl | assumption)) (@pss_cons _ _ _ _ _ (@ps_set _ _ (3) _ _ _ _ sc_law_book.nd rfl (Or.inl rfl) (@pe_op _ _ _ _ _ _ _ _ op_sub (@pe_op _ _ _ _ _ _ _ _ op_mod (@pe_fn _ _ _ _ _ _ _ _ _ _ _ _ F_law_cell_at hr (@pa_cons _ _ _ _ _ (@pv _ 0 _ _ (by rfl) (by first | exact Or.inl rfl | exact Or.inr (Or.inl rfl) | exact Or.inr (Or.inr rfl)) (by decide) (by decide)) (@pa_cons _ _ _ _ _ pe_int pa_nil (by rfl)) (by rfl)) (by omega) (by rfl) (by rfl) (by decide) (by rfl) (by rfl)) (@pe_op _ _ _ _ _ _ _ _ op_pow pe_int pe_int)) (@pe_op _ _ _ _ _ _ _ _ op_mulC pe_int (@pe_op _ _ _ _ _ _ _ _ op_pow pe_int pe_int))) (by rfl) (by first | exact .inl rfl | exact .inr rfl | assumption)) (@pss_cons _ _ _ _ _ (@ps_set _ _ (4) _ _ _ _ sc_law_book.nd rfl (Or.inl rfl) (@pe_tup _ _ _ _ _ (@pa_cons _ _ _ _ _ pe_str (@pa_cons _ _ _ _ _ (@pv _ 3 _ _ (by rfl) (by first | exact Or.inl rfl | exact Or.inr (Or.inl rfl) | exact Or.inr (Or.inr rfl)) (by decide) (by decide)) (@pa_cons _ _ _ _ _ (@pe_op _ _ _ _ _ _ _ _ op_add (@pv _ 3 _ _ (by rfl) (by first | exact Or.inl rfl | exact Or.inr (Or.inl rfl) | exact Or.inr (Or.inr rfl)) (by decide) (by decide)) (@pe_ix _ _ _ _ _ _ _ ix_list (@pe_lst _ _ _ _ (@pa_cons _ _ _ _ _ pe_int (@pa_cons _ _ _ _ _ pe_int (@pa_cons _ _ _ _ _ pe_int (@pa_cons _ _ _ _ _ pe_int pa_nil (by rfl)) (by rfl)) (by rfl)) (by rfl))) (@pe_op _ _ _ _ _ _ _ _ op_mod (@pv _ 1 _ _ (by rfl) (by first | exact Or.inl rfl | exact Or.inr (Or.inl rfl) | exact Or.inr (Or.inr rfl)) (by decide) (by decide)) pe_int) (fun _ _ => rfl))) pa_nil (by rfl)) (by rfl)) (by rfl))) (by rfl) (by first | exact .inl rfl | exact .inr rfl | assumption)) (@pss_cons _ _ _ _ _ (@ps_set _ _ (5) _ _ _ _ sc_law_book.nd rfl (Or.inl rfl) (@pe_tup _ _ _ _ _ (@pa_cons _ _ _ _ _ pe_str (@pa_cons _ _ _ _ _ (@pe_tup _ _ _ _ _ (@pa_cons _ _ _ _ _ (@pe_tup _ _ _ _ _ (@pa_cons _ _ _ _ _ pe_str (@pa_cons _ _ _ _ _ (@pv _ 2 _ _ (by rfl) (by first | exact Or.inl rfl | exact Or.inr (Or.inl rfl) | exact Or.inr (Or.inr rfl)) (by decide) (by decide)) pa_nil (by rfl)) (by rfl))) (@pa_cons _ _ _ _ _ (@pe_tup _ _ _ _ _ (@pa_cons _ _ _ _ _ pe_str (@pa_cons _ _ _ _ _ (@pv _ 2 _ _ (by rfl) (by first | exact Or.inl rfl | exact Or.inr (Or.inl rfl) | exact Or.inr (Or.inr rfl)) (by decide) (by decide)) pa_nil (by rfl)) (by rfl))) pa_nil (star_tup _ _ _ _ _)) (star_tup _ _ _ _ _))) pa_nil (star_tup _ _ _ _ _)) (by rfl))) (by rfl) (by first | exact .inl rfl | exact .inr rfl | assumption)) (@pss_cons _ _ _ _ _ (@ps_setC _ (6) _ _ _ _ _ _ _ _ _ ([none, some 0]) ((["_law_k", "_law_script"] : List Str)) _ (gName 0) _ _ sc_law_book.nd rfl (Or.inl rfl) (.own (.cap (i := 0) rfl rfl (by first | exact Or.inl rfl | exact Or.inr rfl) .nil)) rfl (@pi_range1 _ _ _ _ _ _ rfl b_range (@pa_cons _ _ _ _ _ pe_int pa_nil (by rfl)) (by rfl)) (fun cl C s₀ H₀ fp pn => (@pg_name _ _ (0) _ (show List.Nodup (["_law_k", "_law_script"] : List Str) by decide +kernel) rfl (Or.inl rfl) (Or.inr rfl))) (fun cl C s₀ H₀ fp pn => pts_nil) (fun cl C s₀ H₀ fp pn => (@pe_fn _ _ _ _ _ _ _ _ _ _ _ _ F_law_name hr (@pa_cons _ _ _ _ _ (@pe_op _ _ _ _ _ _ _ _ op_fdivL (@pe_fn _ _ _ _ _ _ _ _ _ _ _ _ F_law_cell_at hr (@pa_cons _ _ _ _ _ (@pv _ 1 _ _ (by rfl) (by first | exact Or.inl rfl | exact Or.inr (Or.inl rfl) | exact Or.inr (Or.inr rfl)) (by decide) (by decide)) (@pa_cons _ _ _ _ _ pe_int pa_nil (by rfl)) (by rfl)) (by omega) (by rfl) (by rfl) (by decide) (by rfl) (by rfl)) pe_int) (@pa_cons _ _ _ _ _ (@pv _ 0 _ _ (by rfl) (by first | exact Or.inl rfl | exact Or.inr (Or.inl rfl) | exact Or.inr (Or.inr rfl)) (by decide) (by decide)) pa_nil (by rfl)) (by rfl)) (by omega) (by rfl) (by rfl) (by decide) (by rfl) (by rfl))) (by intro x hx; simp at hx; first | (subst hx; exact Or.inl rfl) | (rcases hx with rfl | rfl <;> exact Or.inl rfl) | (rcases hx with rfl | rfl | rfl <;> exact Or.inl rfl)) (by rfl) (by decide) (by decide +kernel) (by intro _; rfl) (by rfl) (by first | exact .inl rfl | exact .inr rfl | assumption)) (@pss_one _ _ _ (@ps_ret _ _ _ _ (@pe_lst _ _ _ _ (@pa_cons _ _ _ _ _ (@pe_tup _ _ _ _ _ (@pa_cons _ _ _ _ _ (@pv _ 2 _ _ (by rfl) (by first | exact Or.inl rfl | exact Or.inr (Or.inl rfl) | exact Or.inr (Or.inr rfl)) (by decide) (by decide)) (@pa_cons _ _ _ _ _ (@pe_tup _ _ _ _ _ (@pa_cons _ _ _ _ _ pe_str (@pa_cons _ _ _ _ _ (@pe_tup _ _ _ _ _ (@pa_cons _ _ _ _ _ (@pe_tup _ _ _ _ _ (@pa_cons _ _ _ _ _ (@pe_ix _ _ _ _ _ _ _ ix_list (@pv _ 6 _ _ (by rfl) (by first | exact Or.inl rfl | exact Or.inr (Or.inl rfl) | exact Or.inr (Or.inr rfl)) (by decide) (by decide)) pe_int (fun _ _ => rfl)) (@pa_cons _ _ _ _ _ (@pv _ 4 _ _ (by rfl) (by first | exact Or.inl rfl | exact Or.inr (Or.inl rfl) | exact Or.inr (Or.inr rfl)) (by decide) (by decide)) pa_nil (by rfl)) (by rfl))) (@pa_cons _ _ _ _ _ (@pe_tup _ _ _ _ _ (@pa_cons _ _ _ _ _ (@pe_ix _ _ _ _ _ _ _ ix_list (@pv _ 6 _ _ (by rfl) (by first | exact Or.inl rfl | exact Or.inr (Or.inl rfl) | exact Or.inr (Or.inr rfl)) (by decide) (by decide)) pe_int (fun _ _ => rfl)) (@pa_cons _ _ _ _ _ (@pv _ 5 _ _ (by rfl) (by first | exact Or.inl rfl | exact Or.inr (Or.inl rfl) | exact Or.inr (Or.inr rfl)) (by decide) (by decide)) pa_nil (by rfl)) (by rfl))) (@pa_cons _ _ _ _ _ (@pe_tup _ _ _ _ _ (@pa_cons _ _ _ _ _ (@pe_ix _ _ _ _ _ _ _ ix_list (@pv _ 6 _ _ (by rfl) (by first | exact Or.inl rfl | exact Or.inr (Or.inl rfl) | exact Or.inr (Or.inr rfl)) (by decide) (by decide)) pe_int (fun _ _ => rfl)) (@pa_cons _ _ _ _ _ (@pe_tup _ _ _ _ _ (@pa_cons _ _ _ _ _ pe_str (@pa_cons _ _ _ _ _ (@pe_tup _ _ _ _ _ (@pa_cons _ _ _ _ _ pe_str (@pa_cons _ _ _ _ _ (@pv _ 2 _ _ (by rfl) (by first | exact Or.inl rfl | exact Or.inr (Or.inl rfl) | exact Or.inr (Or.inr rfl)) (by decide) (by decide)) pa_nil (by rfl)) (by rfl))) pa_nil (star_tup _ _ _ _ _)) (by rfl))) pa_nil (star_tup _ _ _ _ _)) (by rfl))) pa_nil (star_tup _ _ _ _ _)) (star_tup _ _ _ _ _)) (star_tup _ _ _ _ _))) pa_nil (star_tup _ _ _ _ _)) (by rfl))) pa_nil (star_tup _ _ _ _ _)) (by rfl))) pa_nil (star_tup _ _ _ _ _))))))))))), ?_⟩
  generalize hm0 : nm (ns.getD 1 0 / 7) 0 = m0 at q
  generalize hm1 : nm (ns.getD 1 0 / 7) 1 = m1 at q
  generalize hm2 : nm (ns.getD 1 0 / 7) 2 = m2 at q
  generalize hn0 : nm (ns.getD 0 0 / 4) 0 = n0 at q
  refine cut4 (fun σ H' => ∃ (lf : Addr) (c lo hi : Int), σ = [some (.ref a), some (.int c), some (.str (S n0)), some (.int lo), some (.ref lf), none, none] ∧ Same H H' ∧ lo ≤ hi ∧ H' lf = some (.tup [.str "whole", .int lo, .int hi])) ?_ ?_
  · rintro σ H1 ⟨lf, c, lo, hi, rfl, s1, hlh, hlf⟩
    refine cut2 (fun σ H' => ∃ (D nd : Addr), σ = [some (.ref a), some (.int c), some (.str (S n0)), some (.int lo), some (.ref lf), some (.ref nd), some (.ref D)] ∧ Same H1 H' ∧ H' D = some (.lst [.str (S m0), .str (S m1), .str (S m2)]) ∧ ShAt g.K H' (.ref nd) (.row [.use n0, .use n0])) ?_ ?_
    · rintro σ H2 ⟨D, nd, rfl, s2, hD, hnd⟩
      walk_at "rd"
      refine ⟨_, SqL.of hD, _, rfl, few (by decide), fun p1 hp1 => ?_⟩
      have u1 := Same.upd_new hp1 (.tup [.str (S m0), .ref lf])
      refine ⟨_, SqL.of (u1 _ _ hD), _, rfl, few (by decide), fun p2 hp2 => ?_⟩
      have u2 := Same.upd_new hp2 (.tup [.str (S m1), .ref nd])
      have v2 := u1.trans u2
      refine ⟨_, SqL.of (v2 _ _ hD), _, rfl, few (by decide), fun p3 hp3 => ⟨few (by decide), fun p4 hp4 => ⟨few (by decide), fun p5 hp5 => ⟨few (by decide), fun p6 hp6 => ⟨few (by decide), fun p7 hp7 => ⟨few (by decide), fun p8 hp8 => ⟨few (by decide), fun p9 hp9 => ?_⟩⟩⟩⟩⟩⟩⟩
      have u3 := Same.upd_new hp3 (.tup [.str "use", .str (S n0)])
      have u4 := Same.upd_new hp4 (.tup [.str "many", .ref p3])
      have u5 := Same.upd_new hp5 (.tup [.str (S m2), .ref p4])
      have u6 := Same.upd_new hp6 (.tup [.ref p1, .ref p2, .ref p5])
      have u7 := Same.upd_new hp7 (.tup [.str "pick", .ref p6])
      have u8 := Same.upd_new hp8 (.tup [.str (S n0), .ref p7])
      have u9 := Same.upd_new hp9 (.lst [.ref p8])
      have w8 := u9
      have w7 := u8.trans w8
      have w6 := u7.trans w7
      have w5 := u6.trans w6
      have w4 := u5.trans w5
      have w3 := u4.trans w4
      have w2 := u3.trans w3
      have w1 := u2.trans w2
      have w0 := u1.trans w1
      refine q p9 p6 lo hi _ ((s1.trans s2).trans w0) hlh ⟨⟨p9, [p8], [.ref p7], rfl, SqL.of upd_same, ⟨rfl, rfl, fun j a m v h1 h2 h3 => ?_⟩, .cons (.pick (as := [p1, p2, p5]) (vs := [.ref lf, .ref nd, .ref p4]) (SqT.of (w7 _ _ upd_same)) (SqT.of (w6 _ _ upd_same)) ⟨rfl, rfl, fun j a m v h1 h2 h3 => ?_⟩ (.cons (.whole (SqT.of ((s2.trans w0) _ _ hlf))) (.cons (hnd.keep w0) (.cons (.many (SqT.of (w4 _ _ upd_same)) (.use (SqT.of (w3 _ _ upd_same)))) .nil))) (by simp)) .nil⟩, ⟨p8, p7, _, upd_same, w8 _ _ upd_same, w7 _ _ upd_same⟩, ⟨p1, p2, p5, lf, _, _, w6 _ _ upd_same, w1 _ _ upd_same, (s2.trans w0) _ _ hlf, w2 _ _ upd_same, w5 _ _ upd_same⟩⟩
      · match j with
        | 0 =>
          have e1 : p8 = a := Option.some.inj h1
          have e2 : n0 = m := Option.some.inj h2
          have e3 : V.ref p7 = v := Option.some.inj h3
          subst e1 e2 e3
          exact SqT.of (w8 _ _ upd_same)
        | j + 1 => simp at h1
      · match j with
        | 0 =>
          have e1 : p1 = a := Option.some.inj h1
          have e2 : m0 = m := Option.some.inj h2
          have e3 : V.ref lf = v := Option.some.inj h3
          subst e1 e2 e3
          exact SqT.of (w1 _ _ upd_same)
        | 1 =>
          have e1 : p2 = a := Option.some.inj h1
          have e2 : m1 = m := Option.some.inj h2
          have e3 : V.ref nd = v := Option.some.inj h3
          subst e1 e2 e3
          exact SqT.of (w2 _ _ upd_same)
        | 2 =>
          have e1 : p5 = a := Option.some.inj h1
          have e2 : m2 = m := Option.some.inj h2
          have e3 : V.ref p4 = v := Option.some.inj h3
          subst e1 e2 e3
          exact SqT.of (w5 _ _ upd_same)
        | j + 3 => simp at h1
    · intro N hN
      walk_at "rd"
      refine ⟨few (by decide), fun p2 hp2 => ⟨few (by decide), fun p3 hp3 => ⟨few (by decide), fun p4 hp4 => ⟨few (by decide), fun p5 hp5 => ?_⟩⟩⟩⟩
      have u2 := Same.upd_new hp2 (.tup [.str "use", .str (S n0)])
      have u3 := Same.upd_new hp3 (.tup [.str "use", .str (S n0)])
      have u4 := Same.upd_new hp4 (.tup [.ref p2, .ref p3])
      have u5 := Same.upd_new hp5 (.tup [.str "row", .ref p4])
      have u25 := ((u2.trans u3).trans u4).trans u5
      have hnd : ShAt g.K (upd (upd (upd (upd H1 p2 (.tup [.str "use", .str (S n0)])) p3 (.tup [.str "use", .str (S n0)])) p4 (.tup [.ref p2, .ref p3])) p5 (.tup [.str "row", .ref p4])) (.ref p5) (.row [.use n0, .use n0]) := .row (SqT.of upd_same) (SqT.of (u5 _ _ upd_same)) (.cons (.use (SqT.of (((u3.trans u4).trans u5) _ _ upd_same))) (.cons (.use (SqT.of ((u4.trans u5) _ _ upd_same))) .nil)) (by simp)
      refine tLC_range1 (n := 3) [.str (S m0), .str (S m1), .str (S m2)] (fun R r => by walk_at "rd"; exact r) rfl (by omega) ?_ ?_
      · intro i y H' hi hy sm' R r
        have hy' : V.str (S (nm (ns.getD 1 0 / 7) i)) = y := by
          match i, hi with
          | 0, _ => rw [hm0]; exact Option.some.inj hy
          | 1, _ => rw [hm1]; exact Option.some.inj hy
          | 2, _ => rw [hm2]; exact Option.some.inj hy
        subst hy'
        walk_at "rd"
        exact ⟨a, ns, 1, rfl, ((s1.trans u25).trans sm').seq hS, hl, _, rfl, small_div (by decide) (by decide), _, i, rfl, r H' (.refl H')⟩
      · intro D H' hD sm' hd
        exact hN _ _ ⟨D, p5, rfl, u25.trans sm', hd, hnd.keep sm'⟩
  · intro N hN
    walk_at "rd"
    refine ⟨a, ns, 0, rfl, hS, hl, ?_⟩
    walk_at "rd"
    refine ⟨small_div (by decide) (by decide), _, 0, rfl, a, ns, 1, rfl, hS, hl, cpow, _, rfl, by decide, cpow, .inl (cm (m := 3) (n := 64) (by decide) (by decide)), few (by decide), fun p hp => ?_⟩
    have u1 := Same.upd_new hp (.lst [V.int 0, V.int 1, V.int 3, V.int 1000])
    obtain ⟨w, hw, hw0⟩ := wide_at (ns.getD 0 0)
    refine ⟨by decide, _, SqL.of upd_same, _, hw, w, rfl, few (by decide), fun p1 hp1 => ?_⟩
    rw [hn0]
    exact hN _ _ ⟨p1, _, _, _, rfl, u1.trans (.upd_new hp1 _), by omega, upd_same⟩
end KW
set_option maxHeartbeats 8000000
namespace KW
open PySem L2

variable {g : Gx}
variable {bk : Bk}
variable {m : Nat}
local macro_rules | `(tactic| walk_at "gn") => `(tactic| simp only [gName, List.set_cons_zero, List.set_cons_succ])

local macro_rules | `(tactic| walk_at "rd") => `(tactic| simp (config := { failIfUnchanged := false, maxSteps := 10000000 }) only [L2.start, cxOf_K, nox_K, List.map_cons, List.map_nil, List.length_cons, List.length_nil, List.cons_append, List.nil_append, List.replicate_succ, List.replicate_zero, Nat.zero_add, Nat.reduceAdd, Nat.reduceSub, Nat.sub_self, tSeq, tIfS, tTest, tOp, tC, tVar, rI0, rI, rU, tUn, tRet, tRetN, tDrop, tNext, tBreak, tCont, tAsg, gName, gNil, gCons, tCons, tNil, tCB, tCall, tTry, tTryAs, tRaise, sFld, tFld, tMake, tMeth, Ends.gone, caught_K, tB, tAnd, tOr, tNot, tAndV, tOrV, tNotV, tIf, tChain, tNoPart, tPart, tSl, tNever, tAug, rIxL, rIxT, rSlL, tLst, tTup, gTup, tRev, tLZ, tConT, tDict0, rBits, rFind, rIn, tBM, tBM0, rAppend, rReverse, rEq, rNe, scal_ii, scal_ss, rCat, rSetL, gSub, ipI, capSt, List.getD_cons_zero, List.getD_cons_succ, decide_true, not_true_eq_false, not_false_eq_true,
  exists_eq_left', exists_eq_left, exists_eq', exists_eq, exists_and_left, and_assoc, Option.some.injEq, V.int.injEq, V.bl.injEq, V.ref.injEq, V.str.injEq, List.getElem?_cons_zero, List.getElem?_cons_succ, List.set_cons_zero, List.set_cons_succ, List.cons.injEq, and_true, true_and, List.append_nil, decide_eq_true_eq, Bool.not_eq_true', decide_eq_false_iff_not, Bool.not_not, Bool.not_true, Bool.not_false, Bool.true_eq_false, Bool.false_eq_true, if_true, if_false, ite_true, ite_false])

theorem ky_use {bk : Bk} {nm : List Nat} {i : Nat} {sh : Sh} {d : PyData} {m : Nat} (h : plc (bk.map (·.1)) (S nm) = some i) (hs : (bk.map (·.2))[i]? = some sh) : ky bk (m + 1) (.use nm) d = (ky bk m sh d).map fun k => (1 + k.1, [kt k]) := by
  have hf : (form (.use nm) d && fnd bk (.use nm) d) = true := by
    have h1 : form (.use nm) d = true := by cases d <;> rfl
    rw [h1]
    unfold fnd
    dsimp only
    rw [within_use, h, Option.bind_some, hs]
    rfl
  rw [ky, if_pos hf, within_use, h, Option.bind_some, hs]
  show Option.map _ (List.mapM (fun w : Sh × PyData => ky bk m w.1 w.2) [(sh, d)]) = _
  rw [List.mapM_cons, List.mapM_nil]
  dsimp only
  cases ky bk m sh d with
  | none => rfl
  | some n =>
    show some (kz (.use nm) d [n]) = _
    rw [kz_use]
    rfl
theorem enf_use {bk : Bk} {nm : List Nat} {i : Nat} {sh : Sh} {d : PyData} {m : Nat} (h : plc (bk.map (·.1)) (S nm) = some i) (hs : (bk.map (·.2))[i]? = some sh) (he : Enf bk m sh d) : Enf bk (m + 1) (.use nm) d := by
  intro _
  refine ⟨⟨i, h⟩, fun w hw => ?_⟩
  rw [within_use, h, Option.bind_some, hs] at hw
  have : w = (sh, d) := by simpa using hw
  rw [this]
  exact he
theorem ky_pick {bk : Bk} {ms : List (List Nat)} {ps : List Sh} {i : Nat} {sh : Sh} {x : Str} {d : PyData} {m : Nat} (h : plc ms x = some i) (hp : ps[i]? = some sh) : ky bk (m + 1) (.pick ms ps) (.tuple [.str x, d]) = (ky bk m sh d).map fun k => (k.1, [.int (i : Nat), kt k]) := by
  have ew : pick_in ms ps (.tuple [.str x, d]) = [(sh, d)] := by
    show (((plc ms x).bind fun i => ps[i]?).toList.map fun p => (p, d)) = _
    rw [h, Option.bind_some, hp]
    rfl
  have hf : (form (.pick ms ps) (.tuple [.str x, d]) && fnd bk (.pick ms ps) (.tuple [.str x, d])) = true := by
    rw [← has_mk_form, show has_mk ms (.tuple [.str x, d]) = true from by simp only [has_mk, h, Option.isSome_some]]
    unfold fnd
    dsimp only
    rw [within_pick, ew]
    rfl
  rw [ky, if_pos hf, within_pick, ew, List.mapM_cons, List.mapM_nil]
  dsimp only
  cases ky bk m sh d with
  | none => rfl
  | some n =>
    show some (kz (.pick ms ps) (.tuple [.str x, d]) [n]) = _
    simp only [kz, h, Option.getD_some]
    rfl
theorem enf_pick {bk : Bk} {ms : List (List Nat)} {ps : List Sh} {i : Nat} {sh : Sh} {x : Str} {d : PyData} {m : Nat} (h : plc ms x = some i) (hp : ps[i]? = some sh) (he : Enf bk m sh d) : Enf bk (m + 1) (.pick ms ps) (.tuple [.str x, d]) := by
  intro _
  refine ⟨trivial, fun w hw => ?_⟩
  rw [within_pick] at hw
  have ew : pick_in ms ps (.tuple [.str x, d]) = [(sh, d)] := by
    show (((plc ms x).bind fun i => ps[i]?).toList.map fun p => (p, d)) = _
    rw [h, Option.bind_some, hp]
    rfl
  rw [ew] at hw
  have : w = (sh, d) := by simpa using hw
  rw [this]
  exact he
/-- of a size, by its key -/
def KyN (bk : Bk) (m : Nat) (sh : Sh) (d : PyData) (n : Nat) : Prop := (∃ r, ky bk m sh d = some (n, r)) ∧ Enf bk m sh d
/-- a tree of the law: so many deep, of this size -/
def TR (bk : Bk) (n0 : List Nat) (d : PyData) (n : Nat) (dp : Nat) : Prop := ∀ m, 4 * dp ≤ m → KyN bk m (.use n0) d n
theorem plc0 (a : List Nat) (l : List (List Nat)) : plc (a :: l) (S a) = some 0 := by simp [plc, List.findIdx?_cons]
theorem tr_in {m0 m1 m2 n0 : List Nat} {lo hi : Int} {d : PyData} {x : Str} {i N dp : Nat} {sh : Sh} (h : plc [m0, m1, m2] x = some i) (hp : ([.whole lo hi, .row [.use n0, .use n0], .many (.use n0)] : List Sh)[i]? = some sh)
    (hj : ∀ k, 4 * dp + 1 ≤ k + 1 → KyN (bkOf m0 m1 m2 n0 lo hi) (k + 1) sh d N) : TR (bkOf m0 m1 m2 n0 lo hi) n0 (.tuple [.str x, d]) (1 + N) (1 + dp) := by
  intro m hm
  obtain ⟨k, rfl⟩ : ∃ k, m = k + 1 + 1 + 1 := ⟨m - 3, by omega⟩
  have h0 : plc ((bkOf m0 m1 m2 n0 lo hi).map (·.1)) (S n0) = some 0 := plc0 _ _
  obtain ⟨⟨r, hk⟩, he⟩ := hj k (by omega)
  refine ⟨?_, enf_use h0 rfl (enf_pick h hp he)⟩
  rw [ky_use h0 rfl, ky_pick h hp, hk]
  exact ⟨_, rfl⟩
theorem whole_in {bk : Bk} {lo hi : Int} {st : Nat} (h : lo + (st : Int) ≤ hi) (k : Nat) : KyN bk (k + 1) (.whole lo hi) (.int (lo + st)) (Builtin.Int.intBits (st : Int)) := by
  have hf : (form (.whole lo hi) (.int (lo + st)) && fnd bk (.whole lo hi) (.int (lo + st))) = true := by simp [form, fnd]; omega
  refine ⟨⟨[.int (lo + st)], ?_⟩, fun _ => ⟨trivial, fun w hw => by rw [within_whole] at hw; cases hw⟩⟩
  rw [ky, if_pos hf, within_whole]
  show some (Builtin.Int.intBits (lo + st - lo), _) = _
  rw [show lo + (st : Int) - lo = st by omega]
mutual
/-- data with neither truths nor other numbers: equal, where == says so -/
inductive NB : PyData → Prop
  | int (i : Int) : NB (.int i)
  | str (x : Str) : NB (.str x)
  | lst {ds : List PyData} : NBs ds → NB (.list ds)
  | tup {ds : List PyData} : NBs ds → NB (.tuple ds)
inductive NBs : List PyData → Prop
  | nil : NBs []
  | cons {d : PyData} {ds : List PyData} : NB d → NBs ds → NBs (d :: ds)
end
mutual
theorem NB.eqv : ∀ {d e : PyData}, NB d → NB e → (PyData.eqv d e = true ↔ d = e)
  | _, _, .int i, .int j => by rw [PyData.eqv]; simp
  | _, _, .int i, .str _ => by rw [PyData.eqv]; simp
  | _, _, .int i, .lst _ => by rw [PyData.eqv]; simp
  | _, _, .int i, .tup _ => by rw [PyData.eqv]; simp
  | _, _, .str _, .int i => by rw [PyData.eqv]; simp
  | _, _, .str _, .str _ => by rw [PyData.eqv]; simp
  | _, _, .str _, .lst _ => by rw [PyData.eqv]; simp
  | _, _, .str _, .tup _ => by rw [PyData.eqv]; simp
  | _, _, .lst _, .int i => by rw [PyData.eqv]; simp
  | _, _, .lst _, .str _ => by rw [PyData.eqv]; simp
  | _, _, .lst h, .lst k => by
    rw [PyData.eqv, h.eqv k]
    simp
  | _, _, .lst _, .tup _ => by rw [PyData.eqv]; simp
  | _, _, .tup _, .int i => by rw [PyData.eqv]; simp
  | _, _, .tup _, .str _ => by rw [PyData.eqv]; simp
  | _, _, .tup _, .lst _ => by rw [PyData.eqv]; simp
  | _, _, .tup h, .tup k => by
    rw [PyData.eqv, h.eqv k]
    simp
theorem NBs.eqv : ∀ {ds es : List PyData}, NBs ds → NBs es → (PyData.eqvAll ds es = true ↔ ds = es)
  | _, _, .nil, .nil => by simp [PyData.eqvAll]
  | _, _, .nil, .cons _ _ => by simp [PyData.eqvAll]
  | _, _, .cons _ _, .nil => by simp [PyData.eqvAll]
  | _, _, .cons (d := d) (ds := ds) h hs, .cons (d := e) (ds := es) k ks => by
    rw [PyData.eqvAll, Bool.and_eq_true, h.eqv k, hs.eqv ks]
    simp
end
end KW
set_option maxHeartbeats 8000000
namespace KW
open PySem L2

variable {g : Gx}
variable {bk : Bk}
variable {m : Nat}
local macro_rules | `(tactic| walk_at "gn") => `(tactic| simp only [gName, List.set_cons_zero, List.set_cons_succ])

local macro_rules | `(tactic| walk_at "rd") => `(tactic| simp (config := { failIfUnchanged := false, maxSteps := 10000000 }) only [L2.start, cxOf_K, nox_K, List.map_cons, List.map_nil, List.length_cons, List.length_nil, List.cons_append, List.nil_append, List.replicate_succ, List.replicate_zero, Nat.zero_add, Nat.reduceAdd, Nat.reduceSub, Nat.sub_self, tSeq, tIfS, tTest, tOp, tC, tVar, rI0, rI, rU, tUn, tRet, tRetN, tDrop, tNext, tBreak, tCont, tAsg, gName, gNil, gCons, tCons, tNil, tCB, tCall, tTry, tTryAs, tRaise, sFld, tFld, tMake, tMeth, Ends.gone, caught_K, tB, tAnd, tOr, tNot, tAndV, tOrV, tNotV, tIf, tChain, tNoPart, tPart, tSl, tNever, tAug, rIxL, rIxT, rSlL, tLst, tTup, gTup, tRev, tLZ, tConT, tDict0, rBits, rFind, rIn, tBM, tBM0, rAppend, rReverse, rEq, rNe, scal_ii, scal_ss, rCat, rSetL, gSub, ipI, capSt, List.getD_cons_zero, List.getD_cons_succ, decide_true, not_true_eq_false, not_false_eq_true,
  exists_eq_left', exists_eq_left, exists_eq', exists_eq, exists_and_left, and_assoc, Option.some.injEq, V.int.injEq, V.bl.injEq, V.ref.injEq, V.str.injEq, List.getElem?_cons_zero, List.getElem?_cons_succ, List.set_cons_zero, List.set_cons_succ, List.cons.injEq, and_true, true_and, List.append_nil, decide_eq_true_eq, Bool.not_eq_true', decide_eq_false_iff_not, Bool.not_not, Bool.not_true, Bool.not_false, Bool.true_eq_false, Bool.false_eq_true, if_true, if_false, ite_true, ite_false])

def sp_law_leaf (K : PySem.W.Frag) : Sp := fun vs H Q _ => ∃ (e0 lf : Addr) (m0 : List Nat) (lo hi c : Int), vs = [.ref e0, .int c] ∧ H e0 = some (.tup [.str (S m0), .ref lf]) ∧ H lf = some (.tup [.str "whole", .int lo, .int hi]) ∧ lo ≤ hi ∧ (∀ z ∈ m0, z < 1000) ∧ m0.length ≤ 8 ∧
  ∀ (t p : Addr) i n H', Same H H' → H' t = some (.tup [.ref p, .int (n : Nat), .int 1]) → H' p = some (.tup [.str (S m0), .int i]) → (∀ m1 m2 n0, TR (bkOf m0 m1 m2 n0 lo hi) n0 (.tuple [.str (S m0), .int i]) n 1) → Q (.ref t) H'
theorem ok_law_leaf  (R : g.Raw "_law_leaf" "_law_leaf" s_law_leaf ["_law_branch", "_law_cell"]) : g.Fn (1) "_law_leaf" ["_law_branch", "_law_cell"] (sp_law_leaf g.K) := by
  refine R.fn sc_law_leaf (fun vs H Q E h => by obtain ⟨e0, lf, m0, lo, hi, c, rfl, he0, hlf, hlh, hk0, hl0, q⟩ := h; rfl) fun f_ cdv A outer s H vs Q E hr h => ?_
  obtain ⟨e0, lf, m0, lo, hi, c, rfl, he0, hlf, hlh, hk0, hl0, q⟩ := h
  refine ⟨_, (@pss_cons _ _ _ _ _ (@ps_set _ _ (2) _ _ _ _ sc_law_leaf.nd rfl (Or.inl rfl) (@pe_op _ _ _ _ _ _ _ _ op_mod (@pv _ 1 _ _ (by rfl) (by first | exact Or.inl rfl | exact Or.inr (Or.inl rfl) | exact Or.inr (Or.inr rfl)) (by decide) (by decide)) (@pe_op _ _ _ _ _ _ _ _ op_add (@pe_op _ _ _ _ _ _ _ _ op_sub (@pe_ix _ _ _ _ _ _ _ ix_tup (@pe_ix _ _ _ _ _ _ _ ix_tup (@pv _ 0 _ _ (by rfl) (by first | exact Or.inl rfl | exact Or.inr (Or.inl rfl) | exact Or.inr (Or.inr rfl)) (by decide) (by decide)) pe_int (fun _ _ => rfl)) pe_int (fun _ _ => rfl)) (@pe_ix _ _ _ _ _ _ _ ix_tup (@pe_ix _ _ _ _ _ _ _ ix_tup (@pv _ 0 _ _ (by rfl) (by first | exact Or.inl rfl | exact Or.inr (Or.inl rfl) | exact Or.inr (Or.inr rfl)) (by decide) (by decide)) pe_int (fun _ _ => rfl)) pe_int (fun _ _ => rfl))) pe_int)) (by rfl) (by first | exact .inl rfl | exact .inr rfl | assumption)) (@pss_one _ _ _ (@ps_ret _ _ _ _ (@pe_tup _ _ _ _ _ (@pa_cons _ _ _ _ _ (@pe_tup _ _ _ _ _ (@pa_cons _ _ _ _ _ (@pe_ix _ _ _ _ _ _ _ ix_tup (@pv _ 0 _ _ (by rfl) (by first | exact Or.inl rfl | exact Or.inr (Or.inl rfl) | exact Or.inr (Or.inr rfl)) (by decide) (by decide)) pe_int (fun _ _ => rfl)) (@pa_cons _ _ _ _ _ (@pe_op _ _ _ _ _ _ _ _ op_add (@pe_ix _ _ _ _ _ _ _ ix_tup (@pe_ix _ _ _ _ _ _ _ ix_tup (@pv _ 0 _ _ (by rfl) (by first | exact Or.inl rfl | exact Or.inr (Or.inl rfl) | exact Or.inr (Or.inr rfl)) (by decide) (by decide)) pe_int (fun _ _ => rfl)) pe_int (fun _ _ => rfl)) (@pv _ 2 _ _ (by rfl) (by first | exact Or.inl rfl | exact Or.inr (Or.inl rfl) | exact Or.inr (Or.inr rfl)) (by decide) (by decide))) pa_nil (by rfl)) (by rfl))) (@pa_cons _ _ _ _ _ (@pe_op _ _ _ _ _ _ _ _ op_add pe_int (@pe_bm0 _ _ _ _ _ _ _ _ _ PySem.F.plainAttrs_int PySem.F.slot_int_bit_length PySem.F.type_int_bit_length mt_bits (@pv _ 2 _ _ (by rfl) (by first | exact Or.inl rfl | exact Or.inr (Or.inl rfl) | exact Or.inr (Or.inr rfl)) (by decide) (by decide)) (by rfl) (by rfl))) (@pa_cons _ _ _ _ _ pe_int pa_nil (by rfl)) (by rfl)) (star_tup _ _ _ _ _)))))), ?_⟩
  obtain ⟨st, est, hst⟩ := mod_nat c (j := hi - lo + 1) (by omega)
  walk_at "rd"
  refine ⟨_, SqT.of he0, _, atI21 _ _, _, rfl, _, SqT.of hlf, _, atI32 _ _ _, _, SqT.of he0, _, atI21 _ _, _, rfl, _, SqT.of hlf, _, atI31 _ _ _, _, rfl, _, rfl, by omega, ?_⟩
  rw [est]
  refine ⟨_, SqT.of he0, _, atI20 _ _, _, SqT.of he0, _, atI21 _ _, _, rfl, _, SqT.of hlf, _, atI31 _ _ _, _, rfl, few (by decide), fun p hp => ?_⟩
  refine ⟨rfl, few (by decide), fun p1 hp1 => ?_⟩
  have u1 := Same.upd_new hp (.tup [.str (S m0), .int (lo + st)])
  have u2 := Same.upd_new hp1 (.tup [.ref p, .int (1 + (Builtin.Int.intBits (st : Int) : Nat)), .int 1])
  exact q p1 p _ (1 + Builtin.Int.intBits (st : Int)) _ (u1.trans u2) (upd_same.trans (by rw [Int.natCast_add]; rfl)) (u2 _ _ upd_same) (fun m1 m2 n0 => tr_in (dp := 0) (plc0 _ _) rfl fun k _ => whole_in (by omega) k)
end KW
set_option maxHeartbeats 8000000
namespace KW
open PySem L2

variable {g : Gx}
variable {bk : Bk}
variable {m : Nat}
local macro_rules | `(tactic| walk_at "gn") => `(tactic| simp only [gName, List.set_cons_zero, List.set_cons_succ])

local macro_rules | `(tactic| walk_at "rd") => `(tactic| simp (config := { failIfUnchanged := false, maxSteps := 10000000 }) only [L2.start, cxOf_K, nox_K, List.map_cons, List.map_nil, List.length_cons, List.length_nil, List.cons_append, List.nil_append, List.replicate_succ, List.replicate_zero, Nat.zero_add, Nat.reduceAdd, Nat.reduceSub, Nat.sub_self, tSeq, tIfS, tTest, tOp, tC, tVar, rI0, rI, rU, tUn, tRet, tRetN, tDrop, tNext, tBreak, tCont, tAsg, gName, gNil, gCons, tCons, tNil, tCB, tCall, tTry, tTryAs, tRaise, sFld, tFld, tMake, tMeth, Ends.gone, caught_K, tB, tAnd, tOr, tNot, tAndV, tOrV, tNotV, tIf, tChain, tNoPart, tPart, tSl, tNever, tAug, rIxL, rIxT, rSlL, tLst, tTup, gTup, tRev, tLZ, tConT, tDict0, rBits, rFind, rIn, tBM, tBM0, rAppend, rReverse, rEq, rNe, scal_ii, scal_ss, rCat, rSetL, gSub, ipI, capSt, List.getD_cons_zero, List.getD_cons_succ, decide_true, not_true_eq_false, not_false_eq_true,
  exists_eq_left', exists_eq_left, exists_eq', exists_eq, exists_and_left, and_assoc, Option.some.injEq, V.int.injEq, V.bl.injEq, V.ref.injEq, V.str.injEq, List.getElem?_cons_zero, List.getElem?_cons_succ, List.set_cons_zero, List.set_cons_succ, List.cons.injEq, and_true, true_and, List.append_nil, decide_eq_true_eq, Bool.not_eq_true', decide_eq_false_iff_not, Bool.not_not, Bool.not_true, Bool.not_false, Bool.true_eq_false, Bool.false_eq_true, if_true, if_false, ite_true, ite_false])

/-- an entry of the law's stack: its tuple, the tree, its size, the rest of its key, how deep -/
structure En where
  a : Addr
  v : V
  d : PyData
  n : Nat
  k : List PyData
  dp : Nat
structure En.Ok (bk : Bk) (n0 : List Nat) (H : Hp) (e : En) : Prop where
  at_ : H e.a = some (.tup [e.v, .int (e.n : Nat), .int (e.dp : Nat)])
  vd : Vd H e.v e.d
  nb : NB e.d
  dep : e.d.depth ≤ 2 * e.dp
  lo : 1 ≤ e.dp
  hi : e.dp ≤ 10
  tr : TR bk n0 e.d e.n e.dp
  key : ky bk LV (.use n0) e.d = some (e.n, e.k)
theorem En.Ok.keep {bk : Bk} {n0 : List Nat} {H H' : Hp} {e : En} (h : e.Ok bk n0 H) (s : Same H H') : e.Ok bk n0 H' := ⟨s _ _ h.at_, h.vd.keep s, h.nb, h.dep, h.lo, h.hi, h.tr, h.key⟩
def En.r (e : En) : V := .ref e.a
def En.data (e : En) : PyData := .tuple [e.d, .int (e.n : Nat), .int (e.dp : Nat)]
theorem En.dens {K : PySem.W.Frag} {bk : Bk} {n0 : List Nat} {H : Hp} : ∀ {es : List En}, (∀ e ∈ es, e.Ok bk n0 H) → Dens K H (es.map En.r) (es.map En.data)
  | [], _ => .nil
  | e :: es, h => .cons (.tup (SqT.of (h e (.head _)).at_) (.cons (h e (.head _)).vd.den (.cons (.int _) (.cons (.int _) .nil)))) (En.dens fun e he => h e (.tail _ he))
theorem En.ddep {bk : Bk} {n0 : List Nat} {H : Hp} : ∀ {es : List En}, (∀ e ∈ es, e.Ok bk n0 H) → PyData.depthAll (es.map En.data) ≤ 30
  | [], _ => by simp [PyData.depthAll]
  | e :: es, h => by
    have h1 := (h e (.head _)).dep
    have h3 := (h e (.head _)).hi
    have h2 := En.ddep fun e he => h e (.tail _ he)
    simp only [List.map_cons, PyData.depthAll, En.data, PyData.depth]
    omega
theorem En.vds {bk : Bk} {n0 : List Nat} {H : Hp} : ∀ {es : List En}, (∀ e ∈ es, e.Ok bk n0 H) → Vds H (es.map (·.v)) (es.map (·.d))
  | [], _ => .nil
  | e :: es, h => .cons (h e (.head _)).vd (En.vds fun e he => h e (.tail _ he))
theorem En.nbs {bk : Bk} {n0 : List Nat} {H : Hp} : ∀ {es : List En}, (∀ e ∈ es, e.Ok bk n0 H) → NBs (es.map (·.d))
  | [], _ => .nil
  | e :: es, h => .cons (h e (.head _)).nb (En.nbs fun e he => h e (.tail _ he))
theorem En.vdep {bk : Bk} {n0 : List Nat} {H : Hp} {mx : Nat} : ∀ {es : List En}, (∀ e ∈ es, e.Ok bk n0 H) → (∀ e ∈ es, e.dp ≤ mx) → PyData.depthAll (es.map (·.d)) ≤ 2 * mx
  | [], _, _ => by simp [PyData.depthAll]
  | e :: es, h, hm => by
    have h1 := (h e (.head _)).dep
    have h3 := hm e (.head _)
    have h2 := En.vdep (fun e he => h e (.tail _ he)) (fun e he => hm e (.tail _ he))
    simp only [List.map_cons, PyData.depthAll]
    omega
theorem eqv_nil (ds : List PyData) : PyData.eqv (.list ds) (.list []) = ds.isEmpty := by rw [PyData.eqv]; cases ds <;> simp [PyData.eqvAll]
theorem mapM_kyn {bk : Bk} {sh : Sh} {k : Nat} : ∀ (es : List En), (∀ e ∈ es, KyN bk k sh e.d e.n) → ∃ kk, (es.map fun e => (sh, e.d)).mapM (fun w => ky bk k w.1 w.2) = some kk ∧ kk.map (·.1) = es.map (·.n)
  | [], _ => ⟨[], rfl, rfl⟩
  | e :: es, h => by
    obtain ⟨⟨r, hr⟩, _⟩ := h e (.head _)
    obtain ⟨kk, h1, h2⟩ := mapM_kyn es fun e he => h e (.tail _ he)
    refine ⟨(e.n, r) :: kk, ?_, by rw [List.map_cons, List.map_cons, h2]⟩
    rw [List.map_cons, List.mapM_cons]
    dsimp only
    rw [hr, h1]
    rfl
theorem in_es {bk : Bk} {n0 : List Nat} {sh : Sh} {d : PyData} {es : List En} {k N : Nat} (hf : (form sh d && fnd bk sh d) = true) (hw : within bk sh d = es.map fun e => (.use n0, e.d)) (hfd : Fnd bk sh) (he : ∀ e ∈ es, KyN bk k (.use n0) e.d e.n) (hs : ∀ kk : List (Nat × List PyData), kk.map (·.1) = es.map (·.n) → (kz sh d kk).1 = N) : KyN bk (k + 1) sh d N := by
  refine ⟨?_, fun _ => ⟨hfd, fun w hm => ?_⟩⟩
  · obtain ⟨kk, h1, h2⟩ := mapM_kyn es he
    rw [ky, if_pos hf, hw, h1]
    exact ⟨(kz sh d kk).2, by rw [← hs kk h2]; rfl⟩
  · rw [hw] at hm
    obtain ⟨e, h, rfl⟩ := List.mem_map.mp hm
    exact (he e h).2
theorem tr_es {bk : Bk} {n0 : List Nat} {H : Hp} {es : List En} {mx k : Nat} (h : ∀ e ∈ es, e.Ok bk n0 H) (hm : ∀ e ∈ es, e.dp ≤ mx) (hk : 4 * mx ≤ k) : ∀ e ∈ es, KyN bk k (.use n0) e.d e.n := fun e he => (h e he).tr k (by have := hm e he; omega)
theorem tr_row {m0 m1 m2 n0 : List Nat} {lo hi : Int} {H : Hp} {x : Str} {es : List En} {mx : Nat} (h : plc [m0, m1, m2] x = some 1) (h2 : es.length = 2) (he : ∀ e ∈ es, e.Ok (bkOf m0 m1 m2 n0 lo hi) n0 H) (hm : ∀ e ∈ es, e.dp ≤ mx) : TR (bkOf m0 m1 m2 n0 lo hi) n0 (.tuple [.str x, .tuple (es.map (·.d))]) (1 + (es.map (·.n)).sum) (1 + mx) :=
  tr_in h rfl fun k hk => in_es (n0 := n0) (by simp [form, fnd, h2]) (by
    obtain ⟨a, b, rfl⟩ : ∃ a b, es = [a, b] := by
      match es, h2 with
      | [a, b], _ => exact ⟨a, b, rfl⟩
    rfl) trivial (tr_es he hm (by omega)) fun kk e => by show (kk.map (·.1)).sum = _; rw [e]
theorem tr_many {m0 m1 m2 n0 : List Nat} {lo hi : Int} {H : Hp} {x : Str} {es : List En} {mx : Nat} (h : plc [m0, m1, m2] x = some 2) (he : ∀ e ∈ es, e.Ok (bkOf m0 m1 m2 n0 lo hi) n0 H) (hm : ∀ e ∈ es, e.dp ≤ mx) : TR (bkOf m0 m1 m2 n0 lo hi) n0 (.tuple [.str x, .list (es.map (·.d))]) (1 + (es.length + (es.map (·.n)).sum)) (1 + mx) :=
  tr_in h rfl fun k hk => in_es (n0 := n0) rfl (by simp [within]) trivial (tr_es he hm (by omega)) fun kk e => by
    show kk.length + (kk.map (·.1)).sum = _
    have := congrArg List.length e
    rw [List.length_map, List.length_map] at this
    rw [e, this]
/-- the marks of the law, apart from one another -/
structure Mk (m0 m1 m2 : List Nat) : Prop where
  p1 : plc [m0, m1, m2] (S m1) = some 1
  p2 : plc [m0, m1, m2] (S m2) = some 2
  k0 : ∀ z ∈ m0, z < 1000
  k1 : ∀ z ∈ m1, z < 1000
  k2 : ∀ z ∈ m2, z < 1000
  l0 : m0.length ≤ 8
  l1 : m1.length ≤ 8
  l2 : m2.length ≤ 8
/-- a leaf is an entry -/
theorem leaf_ok {m0 m1 m2 n0 : List Nat} {lo hi : Int} {H : Hp} {t p : Addr} {i : Int} {n : Nat} (mk : Mk m0 m1 m2) (ht : H t = some (.tup [.ref p, .int (n : Nat), .int 1])) (hp : H p = some (.tup [.str (S m0), .int i])) (htr : TR (bkOf m0 m1 m2 n0 lo hi) n0 (.tuple [.str (S m0), .int i]) n 1) : ∃ e : En, e.a = t ∧ e.Ok (bkOf m0 m1 m2 n0 lo hi) n0 H := by
  obtain ⟨⟨rk, hrk⟩, _⟩ := htr LV (by show _ ≤ 60; omega)
  exact ⟨⟨t, .ref p, _, n, rk, 1⟩, rfl, ht, .tup hp (by simp) (.cons (.str m0 (str_ok mk.k0) (by have := mk.l0; omega)) (.cons (.int _) .nil)), .tup (.cons (.str _) (.cons (.int _) .nil)), by simp only [PyData.depth, PyData.depthAll]; omega, Nat.le_refl 1, show 1 ≤ 10 by decide, htr, hrk⟩
theorem sum_en : ∀ es : List En, (es.map fun e => (e.n : Int)).sum = ((es.map (·.n)).sum : Nat)
  | [] => rfl
  | e :: es => by rw [List.map_cons, List.map_cons, List.sum_cons, List.sum_cons, sum_en es, Int.natCast_add]
end KW
set_option maxHeartbeats 8000000
namespace KW
open PySem L2

variable {g : Gx}
variable {bk : Bk}
variable {m : Nat}
local macro_rules | `(tactic| walk_at "gn") => `(tactic| simp only [gName, List.set_cons_zero, List.set_cons_succ])

local macro_rules | `(tactic| walk_at "rd") => `(tactic| simp (config := { failIfUnchanged := false, maxSteps := 10000000 }) only [L2.start, cxOf_K, nox_K, List.map_cons, List.map_nil, List.length_cons, List.length_nil, List.cons_append, List.nil_append, List.replicate_succ, List.replicate_zero, Nat.zero_add, Nat.reduceAdd, Nat.reduceSub, Nat.sub_self, tSeq, tIfS, tTest, tOp, tC, tVar, rI0, rI, rU, tUn, tRet, tRetN, tDrop, tNext, tBreak, tCont, tAsg, gName, gNil, gCons, tCons, tNil, tCB, tCall, tTry, tTryAs, tRaise, sFld, tFld, tMake, tMeth, Ends.gone, caught_K, tB, tAnd, tOr, tNot, tAndV, tOrV, tNotV, tIf, tChain, tNoPart, tPart, tSl, tNever, tAug, rIxL, rIxT, rSlL, tLst, tTup, gTup, tRev, tLZ, tConT, tDict0, rBits, rFind, rIn, tBM, tBM0, rAppend, rReverse, rEq, rNe, scal_ii, scal_ss, rCat, rSetL, gSub, ipI, capSt, List.getD_cons_zero, List.getD_cons_succ, decide_true, not_true_eq_false, not_false_eq_true,
  exists_eq_left', exists_eq_left, exists_eq', exists_eq, exists_and_left, and_assoc, Option.some.injEq, V.int.injEq, V.bl.injEq, V.ref.injEq, V.str.injEq, List.getElem?_cons_zero, List.getElem?_cons_succ, List.set_cons_zero, List.set_cons_succ, List.cons.injEq, and_true, true_and, List.append_nil, decide_eq_true_eq, Bool.not_eq_true', decide_eq_false_iff_not, Bool.not_not, Bool.not_true, Bool.not_false, Bool.true_eq_false, Bool.false_eq_true, if_true, if_false, ite_true, ite_false])

def sp_law_put (K : PySem.W.Frag) : Sp := fun vs H Q _ => ∃ (st br : Addr) (m0 m1 m2 n0 : List Nat) (lo hi c : Int) (es : List En), vs = [.ref st, .ref br, .int c] ∧ Mk m0 m1 m2 ∧ H st = some (.lst (es.map En.r)) ∧ es.length ≤ 63 ∧ (∀ e ∈ es, e.Ok (bkOf m0 m1 m2 n0 lo hi) n0 H) ∧ BrsAt H br m0 m1 m2 lo hi ∧ lo ≤ hi ∧
  ∀ (st' : Addr) (es' : List En) H', Same H H' → H' st' = some (.lst (es'.map En.r)) → es'.length ≤ es.length + 1 → (∀ e ∈ es', e.Ok (bkOf m0 m1 m2 n0 lo hi) n0 H') → Q (.ref st') H'
theorem ok_law_put {k : Nat}  (R : g.Raw "_law_put" "_law_put" s_law_put ["_law_stack", "_law_branches", "_law_cell"]) (F_law_leaf : g.Fn k "_law_leaf" ["_law_branch", "_law_cell"] (sp_law_leaf g.K)) (b_len : g.mg "len" = none) (b_max : g.mg "max" = none) (b_sum : g.mg "sum" = none) (b_tuple : g.mg "tuple" = none) : g.Fn (k + 1) "_law_put" ["_law_stack", "_law_branches", "_law_cell"] (sp_law_put g.K) := by
  refine R.fn sc_law_put (fun vs H Q E h => by obtain ⟨st, br, m0, m1, m2, n0, lo, hi, c, es, rfl, mk, hst, hel, hok, hbr, hlh, q⟩ := h; rfl) fun f_ cdv A outer s H vs Q E hr h => ?_
  obtain ⟨st, br, m0, m1, m2, n0, lo, hi, c, es, rfl, mk, hst, hel, hok, hbr, hlh, q⟩ := h
  refine ⟨_, (@pss_cons _ _ _ _ _ (@ps_set _ _ (3) _ _ _ _ sc_law_put.nd rfl (Or.inl rfl) (@pe_op _ _ _ _ _ _ _ _ op_mod (@pv _ 2 _ _ (by rfl) (by first | exact Or.inl rfl | exact Or.inr (Or.inl rfl) | exact Or.inr (Or.inr rfl)) (by decide) (by decide)) pe_int) (by rfl) (by first | exact .inl rfl | exact .inr rfl | assumption)) (@pss_cons _ _ _ _ _ (@ps_set _ _ (4) _ _ _ _ sc_law_put.nd rfl (Or.inl rfl) (@pe_ix _ _ _ _ _ _ _ ix_list (@pe_lst _ _ _ _ (@pa_cons _ _ _ _ _ pe_int (@pa_cons _ _ _ _ _ pe_int (@pa_cons _ _ _ _ _ pe_int (@pa_cons _ _ _ _ _ (@pe_op _ _ _ _ _ _ _ _ op_mod (@pe_op _ _ _ _ _ _ _ _ op_fdivL (@pv _ 2 _ _ (by rfl) (by first | exact Or.inl rfl | exact Or.inr (Or.inl rfl) | exact Or.inr (Or.inr rfl)) (by decide) (by decide)) pe_int) pe_int) (@pa_cons _ _ _ _ _ pe_int pa_nil (by rfl)) (by rfl)) (by rfl)) (by rfl)) (by rfl))) (@pv _ 3 _ _ (by rfl) (by first | exact Or.inl rfl | exact Or.inr (Or.inl rfl) | exact Or.inr (Or.inr rfl)) (by decide) (by decide)) (fun _ _ => rfl)) (by rfl) (by first | exact .inl rfl | exact .inr rfl | assumption)) (@pss_cons _ _ _ _ _ (@ps_set _ _ (5) _ _ _ _ sc_law_put.nd rfl (Or.inl rfl) (@pe_lst _ _ _ _ pa_nil) (by rfl) (by first | exact .inl rfl | exact .inr rfl | assumption)) (@pss_cons _ _ _ _ _ (@ps_if _ _ _ _ _ _ _ _ (@pt_chain _ _ _ _ _ _ _ _ _ _ _ _ op_lt op_le pe_int (@pv _ 4 _ _ (by rfl) (by first | exact Or.inl rfl | exact Or.inr (Or.inl rfl) | exact Or.inr (Or.inr rfl)) (by decide) (by decide)) (@pe_bf _ _ _ _ _ _ _ _ _ _ b_len call_len_seq (@pa_cons _ _ _ _ _ (@pv _ 0 _ _ (by rfl) (by first | exact Or.inl rfl | exact Or.inr (Or.inl rfl) | exact Or.inr (Or.inr rfl)) (by decide) (by decide)) pa_nil (by rfl)) (by decide +kernel) (by rfl) (by rfl) (by decide) (by decide) (by rfl) (by rfl)) (by with_unfolding_all rfl)) (@pss_one _ _ _ (@ps_set _ _ (5) _ _ _ _ sc_law_put.nd rfl (Or.inl rfl) (@pe_slice _ _ _ _ _ _ _ _ _ _ sl_list (@pv _ 0 _ _ (by rfl) (by first | exact Or.inl rfl | exact Or.inr (Or.inl rfl) | exact Or.inr (Or.inr rfl)) (by decide) (by decide)) (@po_some _ _ _ (@pe_op _ _ _ _ _ _ _ _ op_sub (@pe_bf _ _ _ _ _ _ _ _ _ _ b_len call_len_seq (@pa_cons _ _ _ _ _ (@pv _ 0 _ _ (by rfl) (by first | exact Or.inl rfl | exact Or.inr (Or.inl rfl) | exact Or.inr (Or.inr rfl)) (by decide) (by decide)) pa_nil (by rfl)) (by decide +kernel) (by rfl) (by rfl) (by decide) (by decide) (by rfl) (by rfl)) (@pv _ 4 _ _ (by rfl) (by first | exact Or.inl rfl | exact Or.inr (Or.inl rfl) | exact Or.inr (Or.inr rfl)) (by decide) (by decide)))) po_none) (by rfl) (by first | exact .inl rfl | exact .inr rfl | assumption))) pss_nil) (@pss_cons _ _ _ _ _ (@ps_set _ _ (6) _ _ _ _ sc_law_put.nd rfl (Or.inl rfl) (@pe_op _ _ _ _ _ _ _ _ op_add pe_int (@pe_bf _ _ _ _ _ _ _ _ _ _ b_max call_max_ints (@pa_cons _ _ _ _ _ (@pe_op _ _ _ _ _ _ _ _ op_cat (@pe_lst _ _ _ _ (@pa_cons _ _ _ _ _ pe_int pa_nil (by rfl))) (@pe_lc _ _ _ _ _ _ _ ([none]) ((["_law_tree"] : List Str)) _ (gName 0) _ _ (.own .nil) rfl (@pi_list _ _ _ _ (@pv _ 5 _ _ (by rfl) (by first | exact Or.inl rfl | exact Or.inr (Or.inl rfl) | exact Or.inr (Or.inr rfl)) (by decide) (by decide))) (fun cl C s₀ H₀ fp pn => (@pg_name _ _ (0) _ (show List.Nodup (["_law_tree"] : List Str) by decide +kernel) rfl (Or.inl rfl) (Or.inr rfl))) (fun cl C s₀ H₀ fp pn => pts_nil) (fun cl C s₀ H₀ fp pn => (@pe_ix _ _ _ _ _ _ _ (ix_tupK (K := g.K)) (@pv _ 0 _ _ (by rfl) (by first | exact Or.inl rfl | exact Or.inr (Or.inl rfl) | exact Or.inr (Or.inr rfl)) (by decide) (by decide)) pe_int (fun _ _ => rfl))) (by intro x hx; simp at hx) (by rfl) (by decide) (by decide +kernel) (by intro _; rfl))) pa_nil (by rfl)) (by decide +kernel) (by rfl) (by rfl) (by decide) (by decide) (by rfl) (by rfl))) (by rfl) (by first | exact .inl rfl | exact .inr rfl | assumption)) (@pss_cons _ _ _ _ _ (@ps_if _ _ _ _ _ _ _ _ (@pw_or _ _ _ _ _ _ _ (@pt_cmpR _ _ _ _ _ _ _ _ op_gt (@pv _ 6 _ _ (by rfl) (by first | exact Or.inl rfl | exact Or.inr (Or.inl rfl) | exact Or.inr (Or.inr rfl)) (by decide) (by decide)) pe_int (nomark _)) (@pw_or1 _ _ _ _ (@pw_and _ _ _ _ _ _ _ (@pt_cmpR _ _ _ _ _ _ _ _ (op_eqD hr.units) (@pv _ 5 _ _ (by rfl) (by first | exact Or.inl rfl | exact Or.inr (Or.inl rfl) | exact Or.inr (Or.inr rfl)) (by decide) (by decide)) (@pe_lst _ _ _ _ pa_nil) (nomark _)) (@pw_and1 _ _ _ _ (@pt_cmpR _ _ _ _ _ _ _ _ op_ne (@pv _ 3 _ _ (by rfl) (by first | exact Or.inl rfl | exact Or.inr (Or.inl rfl) | exact Or.inr (Or.inr rfl)) (by decide) (by decide)) pe_int (nomark _)))).pt)).pt (@pss_one _ _ _ (@ps_ret _ _ _ _ (@pe_op _ _ _ _ _ _ _ _ op_cat (@pv _ 0 _ _ (by rfl) (by first | exact Or.inl rfl | exact Or.inr (Or.inl rfl) | exact Or.inr (Or.inr rfl)) (by decide) (by decide)) (@pe_lst _ _ _ _ (@pa_cons _ _ _ _ _ (@pe_fn _ _ _ _ _ _ _ _ _ _ _ _ F_law_leaf hr (@pa_cons _ _ _ _ _ (@pe_ix _ _ _ _ _ _ _ ix_tup (@pv _ 1 _ _ (by rfl) (by first | exact Or.inl rfl | exact Or.inr (Or.inl rfl) | exact Or.inr (Or.inr rfl)) (by decide) (by decide)) pe_int (fun _ _ => rfl)) (@pa_cons _ _ _ _ _ (@pe_op _ _ _ _ _ _ _ _ op_fdivL (@pv _ 2 _ _ (by rfl) (by first | exact Or.inl rfl | exact Or.inr (Or.inl rfl) | exact Or.inr (Or.inr rfl)) (by decide) (by decide)) pe_int) pa_nil (by rfl)) (by rfl)) (by omega) (by rfl) (by rfl) (by decide) (by rfl) (by rfl)) pa_nil (by rfl)))))) pss_nil) (@pss_cons _ _ _ _ _ (@ps_setC _ (7) _ _ _ _ _ _ _ _ _ ([none]) ((["_law_tree"] : List Str)) _ (gName 0) _ _ sc_law_put.nd rfl (Or.inl rfl) (.own .nil) rfl (@pi_list _ _ _ _ (@pv _ 5 _ _ (by rfl) (by first | exact Or.inl rfl | exact Or.inr (Or.inl rfl) | exact Or.inr (Or.inr rfl)) (by decide) (by decide))) (fun cl C s₀ H₀ fp pn => (@pg_name _ _ (0) _ (show List.Nodup (["_law_tree"] : List Str) by decide +kernel) rfl (Or.inl rfl) (Or.inr rfl))) (fun cl C s₀ H₀ fp pn => pts_nil) (fun cl C s₀ H₀ fp pn => (@pe_ix _ _ _ _ _ _ _ (ix_tupK (K := g.K)) (@pv _ 0 _ _ (by rfl) (by first | exact Or.inl rfl | exact Or.inr (Or.inl rfl) | exact Or.inr (Or.inr rfl)) (by decide) (by decide)) pe_int (fun _ _ => rfl))) (by intro x hx; simp at hx) (by rfl) (by decide) (by decide +kernel) (by intro _; rfl) (by rfl) (by first | exact .inl rfl | exact .inr rfl | assumption)) (@pss_cons _ _ _ _ _ (@ps_set _ _ (8) _ _ _ _ sc_law_put.nd rfl (Or.inl rfl) (@pe_op _ _ _ _ _ _ _ _ op_add pe_int (@pe_bf _ _ _ _ _ _ _ _ _ _ b_sum call_sum_ints (@pa_cons _ _ _ _ _ (@pe_lc _ _ _ _ _ _ _ ([none]) ((["_law_tree"] : List Str)) _ (gName 0) _ _ (.own .nil) rfl (@pi_list _ _ _ _ (@pv _ 5 _ _ (by rfl) (by first | exact Or.inl rfl | exact Or.inr (Or.inl rfl) | exact Or.inr (Or.inr rfl)) (by decide) (by decide))) (fun cl C s₀ H₀ fp pn => (@pg_name _ _ (0) _ (show List.Nodup (["_law_tree"] : List Str) by decide +kernel) rfl (Or.inl rfl) (Or.inr rfl))) (fun cl C s₀ H₀ fp pn => pts_nil) (fun cl C s₀ H₀ fp pn => (@pe_ix _ _ _ _ _ _ _ (ix_tupK (K := g.K)) (@pv _ 0 _ _ (by rfl) (by first | exact Or.inl rfl | exact Or.inr (Or.inl rfl) | exact Or.inr (Or.inr rfl)) (by decide) (by decide)) pe_int (fun _ _ => rfl))) (by intro x hx; simp at hx) (by rfl) (by decide) (by decide +kernel) (by intro _; rfl)) pa_nil (by rfl)) (by decide +kernel) (by rfl) (by rfl) (by decide) (by decide) (by rfl) (by rfl))) (by rfl) (by first | exact .inl rfl | exact .inr rfl | assumption)) (@pss_cons _ _ _ _ _ (@ps_set _ _ (9) _ _ _ _ sc_law_put.nd rfl (Or.inl rfl) (@pe_slice _ _ _ _ _ _ _ _ _ _ sl_list (@pv _ 0 _ _ (by rfl) (by first | exact Or.inl rfl | exact Or.inr (Or.inl rfl) | exact Or.inr (Or.inr rfl)) (by decide) (by decide)) po_none (@po_some _ _ _ (@pe_op _ _ _ _ _ _ _ _ op_sub (@pe_bf _ _ _ _ _ _ _ _ _ _ b_len call_len_seq (@pa_cons _ _ _ _ _ (@pv _ 0 _ _ (by rfl) (by first | exact Or.inl rfl | exact Or.inr (Or.inl rfl) | exact Or.inr (Or.inr rfl)) (by decide) (by decide)) pa_nil (by rfl)) (by decide +kernel) (by rfl) (by rfl) (by decide) (by decide) (by rfl) (by rfl)) (@pe_bf _ _ _ _ _ _ _ _ _ _ b_len call_len_seq (@pa_cons _ _ _ _ _ (@pv _ 5 _ _ (by rfl) (by first | exact Or.inl rfl | exact Or.inr (Or.inl rfl) | exact Or.inr (Or.inr rfl)) (by decide) (by decide)) pa_nil (by rfl)) (by decide +kernel) (by rfl) (by rfl) (by decide) (by decide) (by rfl) (by rfl))))) (by rfl) (by first | exact .inl rfl | exact .inr rfl | assumption)) (@pss_cons _ _ _ _ _ (@ps_if _ _ _ _ _ _ _ _ (@pt_cmpR _ _ _ _ _ _ _ _ op_eq (@pv _ 3 _ _ (by rfl) (by first | exact Or.inl rfl | exact Or.inr (Or.inl rfl) | exact Or.inr (Or.inr rfl)) (by decide) (by decide)) pe_int (nomark _)) (@pss_one _ _ _ (@ps_ret _ _ _ _ (@pe_op _ _ _ _ _ _ _ _ op_cat (@pv _ 9 _ _ (by rfl) (by first | exact Or.inl rfl | exact Or.inr (Or.inl rfl) | exact Or.inr (Or.inr rfl)) (by decide) (by decide)) (@pe_lst _ _ _ _ (@pa_cons _ _ _ _ _ (@pe_tup _ _ _ _ _ (@pa_cons _ _ _ _ _ (@pe_tup _ _ _ _ _ (@pa_cons _ _ _ _ _ (@pe_ix _ _ _ _ _ _ _ ix_tup (@pe_ix _ _ _ _ _ _ _ ix_tup (@pv _ 1 _ _ (by rfl) (by first | exact Or.inl rfl | exact Or.inr (Or.inl rfl) | exact Or.inr (Or.inr rfl)) (by decide) (by decide)) pe_int (fun _ _ => rfl)) pe_int (fun _ _ => rfl)) (@pa_cons _ _ _ _ _ (@pv _ 7 _ _ (by rfl) (by first | exact Or.inl rfl | exact Or.inr (Or.inl rfl) | exact Or.inr (Or.inr rfl)) (by decide) (by decide)) pa_nil (by rfl)) (by rfl))) (@pa_cons _ _ _ _ _ (@pe_op _ _ _ _ _ _ _ _ op_add (@pv _ 8 _ _ (by rfl) (by first | exact Or.inl rfl | exact Or.inr (Or.inl rfl) | exact Or.inr (Or.inr rfl)) (by decide) (by decide)) (@pe_bf _ _ _ _ _ _ _ _ _ _ b_len call_len_seq (@pa_cons _ _ _ _ _ (@pv _ 5 _ _ (by rfl) (by first | exact Or.inl rfl | exact Or.inr (Or.inl rfl) | exact Or.inr (Or.inr rfl)) (by decide) (by decide)) pa_nil (by rfl)) (by decide +kernel) (by rfl) (by rfl) (by decide) (by decide) (by rfl) (by rfl))) (@pa_cons _ _ _ _ _ (@pv _ 6 _ _ (by rfl) (by first | exact Or.inl rfl | exact Or.inr (Or.inl rfl) | exact Or.inr (Or.inr rfl)) (by decide) (by decide)) pa_nil (by rfl)) (by rfl)) (star_tup _ _ _ _ _))) pa_nil (star_tup _ _ _ _ _)))))) pss_nil) (@pss_one _ _ _ (@ps_ret _ _ _ _ (@pe_op _ _ _ _ _ _ _ _ op_cat (@pv _ 9 _ _ (by rfl) (by first | exact Or.inl rfl | exact Or.inr (Or.inl rfl) | exact Or.inr (Or.inr rfl)) (by decide) (by decide)) (@pe_lst _ _ _ _ (@pa_cons _ _ _ _ _ (@pe_tup _ _ _ _ _ (@pa_cons _ _ _ _ _ (@pe_tup _ _ _ _ _ (@pa_cons _ _ _ _ _ (@pe_ix _ _ _ _ _ _ _ ix_tup (@pe_ix _ _ _ _ _ _ _ ix_tup (@pv _ 1 _ _ (by rfl) (by first | exact Or.inl rfl | exact Or.inr (Or.inl rfl) | exact Or.inr (Or.inr rfl)) (by decide) (by decide)) pe_int (fun _ _ => rfl)) pe_int (fun _ _ => rfl)) (@pa_cons _ _ _ _ _ (@pe_bt _ _ _ _ _ _ _ _ _ _ b_tuple call_tuple_of (@pa_cons _ _ _ _ _ (@pv _ 7 _ _ (by rfl) (by first | exact Or.inl rfl | exact Or.inr (Or.inl rfl) | exact Or.inr (Or.inr rfl)) (by decide) (by decide)) pa_nil (by rfl)) (by decide +kernel) (by rfl) (by rfl) (by decide) (by decide) (by rfl) (by rfl)) pa_nil (by rfl)) (by rfl))) (@pa_cons _ _ _ _ _ (@pv _ 8 _ _ (by rfl) (by first | exact Or.inl rfl | exact Or.inr (Or.inl rfl) | exact Or.inr (Or.inr rfl)) (by decide) (by decide)) (@pa_cons _ _ _ _ _ (@pv _ 6 _ _ (by rfl) (by first | exact Or.inl rfl | exact Or.inr (Or.inl rfl) | exact Or.inr (Or.inr rfl)) (by decide) (by decide)) pa_nil (by rfl)) (by rfl)) (star_tup _ _ _ _ _))) pa_nil (star_tup _ _ _ _ _)))))))))))))))), ?_⟩
  generalize hw : c % 5 = w
  have hw0 : 0 ≤ w := by omega
  have hw6 : w < 5 := by omega
  refine cut4 (fun σ H' => ∃ (k : Nat) (l : Addr) (mm : V), σ = [some (.ref st), some (.ref br), some (.int c), some (.int w), some mm, some (.ref l), none, none, none, none] ∧ Same H H' ∧ k ≤ es.length ∧ H' l = some (.lst ((es.drop k).map En.r)) ∧ (w ≠ 3 → es.drop k = [] ∨ (es.drop k).length = 2)) ?_ ?_
  · rintro σ H1 ⟨k, l, mm, rfl, s1, hk, hl, h2⟩
    have hok1 : ∀ e ∈ es, e.Ok (bkOf m0 m1 m2 n0 lo hi) n0 H1 := fun e he => (hok e he).keep s1
    have hdl : (es.drop k).length ≤ 63 := by rw [List.length_drop]; omega
    generalize hfs : es.drop k = fs at *
    have hof : ∀ e ∈ fs, e.Ok (bkOf m0 m1 m2 n0 lo hi) n0 H1 := fun e he => hok1 e (by rw [← hfs] at he; exact List.mem_of_mem_drop he)
    refine cut1 (fun σ H' => ∃ (mx : Nat), σ = [some (.ref st), some (.ref br), some (.int c), some (.int w), some mm, some (.ref l), some (.int (1 + (mx : Int))), none, none, none] ∧ Same H1 H' ∧ ∀ e ∈ fs, e.dp ≤ mx) ?_ ?_
    · rintro σ H2 ⟨mx, rfl, s2, hmx⟩
      have hst2 := (s1.trans s2) _ _ hst
      have hl2 := s2 _ _ hl
      have hof2 : ∀ e ∈ fs, e.Ok (bkOf m0 m1 m2 n0 lo hi) n0 H2 := fun e he => (hof e he).keep s2
      refine cut1 (fun σ H' => σ = [some (.ref st), some (.ref br), some (.int c), some (.int w), some mm, some (.ref l), some (.int (1 + (mx : Int))), none, none, none] ∧ Same H2 H' ∧ mx ≤ 9 ∧ (fs = [] → w = 3)) ?_ ?_
      · rintro σ H3 ⟨rfl, s3, hm13, hf0⟩
        have hst3 := s3 _ _ hst2
        have hl3 := s3 _ _ hl2
        have hof3 : ∀ e ∈ fs, e.Ok (bkOf m0 m1 m2 n0 lo hi) n0 H3 := fun e he => (hof2 e he).keep s3
        refine cut3 (fun σ H' => ∃ (th lt : Addr), σ = [some (.ref st), some (.ref br), some (.int c), some (.int w), some mm, some (.ref l), some (.int (1 + (mx : Int))), some (.ref th), some (.int (1 + ((fs.map (·.n)).sum : Nat))), some (.ref lt)] ∧ Same H3 H' ∧ H' th = some (.lst (fs.map (·.v))) ∧ H' lt = some (.lst ((es.take k).map En.r))) ?_ ?_
        · rintro σ H4 ⟨th, lt, rfl, s4, hth, hlt⟩
          have s04 := ((s1.trans s2).trans s3).trans s4
          obtain ⟨e0, e1, e2, lf, y1, y2, b0, b1, b2, b3, b4⟩ := hbr.keep s04
          have hof4 : ∀ e ∈ fs, e.Ok (bkOf m0 m1 m2 n0 lo hi) n0 H4 := fun e he => (hof3 e he).keep s4
          have hvs4 := En.vds hof4
          have hnb4 := En.nbs hof4
          have hvd4 := En.vdep hof4 hmx
          have tail : ∀ (H5 : Hp) (p : Addr) (d : PyData) (M : Nat) (z : Int), Same H4 H5 → Vd H5 (.ref p) d → NB d → d.depth ≤ 2 * (1 + mx) → TR (bkOf m0 m1 m2 n0 lo hi) n0 d M (1 + mx) → z = (M : Int) → (3 ≤ sizeLine ∧ ∀ (p_1 : Addr), H5 p_1 = none → 1 ≤ sizeLine ∧ ∀ (p_2 : Addr), upd H5 p_1 (HO.tup [V.ref p, V.int z, V.int (1 + (mx : Int))]) p_2 = none → ∃ x_2, upd (upd H5 p_1 (HO.tup [V.ref p, V.int z, V.int (1 + (mx : Int))])) p_2 (HO.lst [V.ref p_1]) lt = some (HO.lst x_2) ∧ ∃ x_3, upd (upd H5 p_1 (HO.tup [V.ref p, V.int z, V.int (1 + (mx : Int))])) p_2 (HO.lst [V.ref p_1]) p_2 = some (HO.lst x_3) ∧ x_2.length + x_3.length ≤ sizeLine ∧ ∀ (p_3 : Addr), upd (upd H5 p_1 (HO.tup [V.ref p, V.int z, V.int (1 + (mx : Int))])) p_2 (HO.lst [V.ref p_1]) p_3 = none → Q (V.ref p_3) (upd (upd (upd H5 p_1 (HO.tup [V.ref p, V.int z, V.int (1 + (mx : Int))])) p_2 (HO.lst [V.ref p_1])) p_3 (HO.lst (x_2 ++ x_3)))) := by
            intro H5 p d M z s5 hvd hnb hdd htr hz
            refine ⟨few (by decide), fun p1 hp1 => ⟨few (by decide), fun p2 hp2 => ?_⟩⟩
            have u1 := Same.upd_new hp1 (HO.tup [V.ref p, V.int z, V.int (1 + (mx : Int))])
            have u2 := Same.upd_new hp2 (HO.lst [V.ref p1])
            have htl : (es.take k).length = k := by rw [List.length_take]; omega
            refine ⟨_, ((s5.trans u1).trans u2) _ _ hlt, _, upd_same, few (by rw [List.length_map, htl]; simp; omega), fun p3 hp3 => ?_⟩
            have u3 := Same.upd_new hp3 (HO.lst ((es.take k).map En.r ++ [V.ref p1]))
            have s05 := s04.trans s5
            have s06 := ((u1.trans u2).trans u3)
            obtain ⟨⟨rk, hrk⟩, _⟩ := htr LV (by show _ ≤ 60; omega)
            refine q p3 (es.take k ++ [⟨p1, .ref p, d, M, rk, 1 + mx⟩]) _ (s05.trans s06) (by rw [List.map_append]; exact upd_same) (by rw [List.length_append, htl, List.length_singleton]; omega) fun e he => ?_
            rcases List.mem_append.mp he with h | h
            · exact (hok e (List.mem_of_mem_take h)).keep (s05.trans s06)
            · rw [List.mem_singleton] at h
              subst h
              refine ⟨(u2.trans u3) _ _ (upd_same.trans ?_), hvd.keep s06, hnb, hdd, show 1 ≤ 1 + mx by omega, show 1 + mx ≤ 10 by omega, htr, hrk⟩
              rw [hz, show (1 + (mx : Int)) = ((1 + mx : Nat) : Int) by omega]
          have vm : ∀ {m : List Nat} {H' : Hp}, (∀ z ∈ m, z < 1000) → m.length ≤ 8 → Vd H' (.str (S m)) (.str (S m)) := fun h1 h2 => .str _ (str_ok h1) (by omega)
          walk_at "rd"
          refine ite2 (fun c2 => ?_) fun c2 => ?_
          · refine ⟨_, SqT.of b0, _, atI32 _ _ _, _, rfl, _, SqT.of b4, _, atI20 _ _, few (by decide), fun p1 hp1 => ?_⟩
            have u1 := Same.upd_new hp1 (.tup [.str (S m2), .ref th])
            refine ⟨_, .inl (SqL.of ((s4.trans u1) _ _ hl3)), ?_⟩
            exact tail _ p1 (.tuple [.str (S m2), .list (fs.map (·.d))]) _ _ u1 (.tup upd_same (by simp) (.cons (vm mk.k2 mk.l2) (.cons (.lst (u1 _ _ hth) (by simp; omega) (hvs4.keep u1)) .nil))) (.tup (.cons (.str _) (.cons (.lst hnb4) .nil))) (by simp only [PyData.depth, PyData.depthAll]; omega) (tr_many mk.p2 hof4 hmx) (by rw [List.length_map]; omega)
          · have hl2 : fs.length = 2 := (h2 c2).elim (fun h => by have := hf0 h; omega) id
            refine ⟨_, SqT.of b0, _, atI31 _ _ _, _, rfl, _, SqT.of b3, _, atI20 _ _, _, .inl ⟨SqL.of hth, fun p1 hp1 => ⟨few (by decide), fun p2 hp2 => ?_⟩⟩⟩
            have u1 := Same.upd_new hp1 (.tup (fs.map (·.v)))
            have u2 := Same.upd_new hp2 (.tup [.str (S m1), .ref p1])
            exact tail _ p2 (.tuple [.str (S m1), .tuple (fs.map (·.d))]) _ _ (u1.trans u2) (.tup upd_same (by simp) (.cons (vm mk.k1 mk.l1) (.cons (.tup (u2 _ _ upd_same) (by simp; omega) (hvs4.keep (u1.trans u2))) .nil))) (.tup (.cons (.str _) (.cons (.tup hnb4) .nil))) (by simp only [PyData.depth, PyData.depthAll]; omega) (tr_row mk.p1 hl2 hof4 hmx) (by omega)
        · intro N hN
          walk_at "rd"
          refine tLC_listN (K := g.K) (xs := fs.map En.r) (fs.map (·.v)) (fun R r => by walk_at "rd"; exact r l _ (.refl _) (SqL.of hl3)) (by simp) (by rw [List.length_map]; omega) ?_ ?_
          · intro i v y H' hv hy sm' R r
            rw [List.getElem?_map] at hv
            obtain ⟨e, he, rfl⟩ := Option.map_eq_some_iff.mp hv
            rw [List.getElem?_map, he] at hy
            have : e.v = y := Option.some.inj hy
            subst this
            have ho := (hof3 e (List.mem_of_getElem? he)).keep sm'
            walk_at "rd"
            exact ⟨_, rfl, _, SqT.of ho.at_, _, rfl, r H' (.refl H')⟩
          intro D1 H4 hD1 s4 hd1
          refine tLC_listN (K := g.K) (xs := fs.map En.r) ((fs.map fun e => (e.n : Int)).map V.int) (fun R r => by walk_at "rd"; exact r l _ (.refl _) (SqL.of (s4 _ _ hl3))) (by simp) (by rw [List.length_map]; omega) ?_ ?_
          · intro i v y H' hv hy sm' R r
            rw [List.getElem?_map] at hv
            obtain ⟨e, he, rfl⟩ := Option.map_eq_some_iff.mp hv
            rw [List.getElem?_map, List.getElem?_map, he] at hy
            have : V.int (e.n : Int) = y := Option.some.inj hy
            subst this
            have ho := ((hof3 e (List.mem_of_getElem? he)).keep s4).keep sm'
            walk_at "rd"
            exact ⟨_, rfl, _, SqT.of ho.at_, _, rfl, r H' (.refl H')⟩
          intro D2 H5 hD2 s5 hd2
          have s35 := s4.trans s5
          refine ⟨D2, rfl, _, SqL.of hd2, _, .inl (SqL.of (s35 _ _ hst3)), _, .inl (SqL.of (s35 _ _ hl3)), _, SqL.of (s35 _ _ hst3), fun p2 hp2 => ?_⟩
          rw [sum_en]
          have e : cutV (es.map En.r) none (some (((es.map En.r).length : Int) - ((fs.map En.r).length : Int))) = (es.take k).map En.r := by
            have : fs.length = es.length - k := by rw [← hfs, List.length_drop]
            rw [List.length_map, List.length_map, this, show (es.length : Int) - ((es.length - k : Nat) : Int) = (k : Int) by omega, cutV_hi, List.map_take]
          rw [e]
          have u2 := Same.upd_new hp2 (.lst ((es.take k).map En.r))
          exact hN _ _ ⟨D1, p2, rfl, s35.trans u2, (s5.trans u2) _ _ hd1, upd_same⟩
      · intro N hN
        walk_at "rd"
        have s02 := s1.trans s2
        have leafq : ∀ H3, Same H2 H3 → ∀ R : VK, (∀ (t : Addr) (H4 : Hp) (x : List V), Same H3 H4 → (∀ st' H5 (es' : List En), Same H4 H5 → H5 st' = some (.lst (es.map En.r ++ [.ref t])) → Q (.ref st') H5) → R (.ref t) H4) → ∃ x, SqT g.K H3 br x ∧ ∃ x1, atI x 0 = some x1 ∧ CDivL c 5 ∧ sp_law_leaf g.K [x1, V.int (c / 5)] H3 R E0 := by
          intro H3 s3 R r
          have s03 := s02.trans s3
          obtain ⟨e0, e1, e2, lf, y1, y2, b0, b1, b2, b3, b4⟩ := hbr.keep s03
          refine ⟨_, SqT.of b0, _, atI30 _ _ _, small_div (by decide) (by decide), e0, lf, m0, lo, hi, c / 5, rfl, b1, b2, hlh, mk.k0, mk.l0, fun t p i n H4 s4 ht hp htr => r t H4 [] s4 fun st' H5 _ s5 h5 => ?_⟩
          obtain ⟨e, rfl, hoe⟩ := leaf_ok mk ht hp (htr m1 m2 n0)
          refine q st' (es ++ [e]) _ ((s03.trans s4).trans s5) (by rw [List.map_append]; exact h5) (by simp) fun f he => ?_
          rcases List.mem_append.mp he with h | h
          · exact (hok f h).keep ((s03.trans s4).trans s5)
          · rw [List.mem_singleton] at h
            subst h
            exact hoe.keep s5
        have fin : ∀ H3, Same H2 H3 → ∀ (t : Addr) (H4 : Hp), Same H3 H4 → (∀ st' H5 (es' : List En), Same H4 H5 → H5 st' = some (.lst (es.map En.r ++ [.ref t])) → Q (.ref st') H5) → (1 ≤ sizeLine ∧ ∀ p : Addr, H4 p = none → ∃ x_2, upd H4 p (.lst [.ref t]) st = some (.lst x_2) ∧ ∃ x_3, upd H4 p (.lst [.ref t]) p = some (.lst x_3) ∧ x_2.length + x_3.length ≤ sizeLine ∧ ∀ p_1 : Addr, upd H4 p (.lst [.ref t]) p_1 = none → Q (.ref p_1) (upd (upd H4 p (.lst [.ref t])) p_1 (.lst (x_2 ++ x_3)))) := by
          intro H3 s3 t H4 s4 h
          refine ⟨few (by decide), fun p hp => ?_⟩
          have u1 := Same.upd_new hp (.lst [V.ref t])
          refine ⟨_, (((s02.trans s3).trans s4).trans u1) _ _ hst, _, upd_same, few (by simp; omega), fun p1 hp1 => ?_⟩
          exact h p1 _ [] (u1.trans (.upd_new hp1 _)) upd_same
        refine ite2 (fun _ => leafq H2 (.refl H2) _ fun t H4 _ s4 h => fin H2 (.refl _) t H4 s4 h) fun c1 => ⟨few (by decide), fun p hp => ?_⟩
        have u1 := Same.upd_new hp (.lst [])
        refine ⟨.list (fs.map En.data), .lst (SqL.of (u1 _ _ hl2)) (En.dens fun e he => (hof2 e he).keep u1), .list [], .lst (SqL.of upd_same) .nil, ?_, ?_⟩
        · rw [PyData.depth]; have := En.ddep hof2; omega
        rw [eqv_nil]
        refine ite2 (fun c2 => ite2 (fun _ => leafq _ u1 _ fun t H4 _ s4 h => fin _ u1 t H4 s4 h) fun c3 => ?_) fun c2 => ?_
        · exact hN _ _ ⟨rfl, u1, by omega, fun _ => Decidable.not_not.mp c3⟩
        · exact hN _ _ ⟨rfl, u1, by omega, fun h => by rw [h] at c2; exact (c2 rfl).elim⟩
    · intro N hN
      walk_at "rd"
      refine ⟨few (by decide), fun p hp => ?_⟩
      have u1 := Same.upd_new hp (.lst [V.int 0])
      refine tLC_listN (K := g.K) (xs := fs.map En.r) ((fs.map fun e => (e.dp : Int)).map V.int) (fun R r => by walk_at "rd"; exact r l _ (.refl _) (SqL.of (u1 _ _ hl))) (by simp) (by rw [List.length_map]; omega) ?_ ?_
      · intro i v y H' hv hy sm' R r
        rw [List.getElem?_map] at hv
        obtain ⟨e, he, rfl⟩ := Option.map_eq_some_iff.mp hv
        rw [List.getElem?_map, List.getElem?_map, he] at hy
        have : V.int (e.dp : Int) = y := Option.some.inj hy
        subst this
        have ho := ((hof e (List.mem_of_getElem? he)).keep u1).keep sm'
        walk_at "rd"
        exact ⟨_, rfl, _, SqT.of ho.at_, _, rfl, r H' (.refl H')⟩
      · intro D2 H2 hD2 s2 hd2
        refine ⟨D2, rfl, _, s2 _ _ upd_same, _, hd2, few (by simp; omega), fun p3 hp3 => ⟨0 :: fs.map fun e => (e.dp : Int), SqL.of upd_same, by simp, fun m hm hmm => ?_⟩⟩
        have hm0 : 0 ≤ m := hmm 0 (.head _)
        refine hN _ _ ⟨m.toNat, by rw [Int.toNat_of_nonneg hm0], (u1.trans s2).trans (.upd_new hp3 _), fun e he => ?_⟩
        have := hmm (e.dp : Int) (.tail _ (List.mem_map.mpr ⟨e, he, rfl⟩))
        omega
  · intro N hN
    walk_at "rd"
    rw [hw]
    refine ⟨by decide, small_div (by decide) (by decide), by decide, few (by decide), fun p hp => ?_⟩
    have u1 := Same.upd_new hp (.lst [V.int 0, V.int 2, V.int 2, V.int (c / 5 % 4), V.int 0])
    obtain ⟨x, hx, hx0, hx2⟩ : ∃ x : Nat, atI [V.int 0, V.int 2, V.int 2, V.int (c / 5 % 4), V.int 0] w = some (.int x) ∧ x < 4 ∧ (w ≠ 3 → x = 0 ∨ x = 2) := by
      have : w = 0 ∨ w = 1 ∨ w = 2 ∨ w = 3 ∨ w = 4 := by omega
      rcases this with h | h | h | h | h <;> rw [h]
      · exact ⟨0, rfl, by omega⟩
      · exact ⟨2, rfl, by omega⟩
      · exact ⟨2, rfl, by omega⟩
      · exact ⟨(c / 5 % 4).toNat, by rw [show (((c / 5 % 4).toNat : Nat) : Int) = c / 5 % 4 by omega]; rfl, by omega⟩
      · exact ⟨0, rfl, by omega⟩
    refine ⟨_, SqL.of upd_same, _, hx, few (by decide), fun p1 hp1 => ?_⟩
    have u2 := u1.trans (Same.upd_new hp1 (.lst []))
    have hno : N [some (V.ref st), some (V.ref br), some (V.int c), some (V.int w), some (V.int x), some (V.ref p1), none, none, none, none] (upd (upd H p (HO.lst [V.int 0, V.int 2, V.int 2, V.int (c / 5 % 4), V.int 0])) p1 (HO.lst [])) :=
      hN _ _ ⟨es.length, p1, _, rfl, u2, Nat.le_refl _, by rw [List.drop_length]; exact upd_same, fun _ => .inl List.drop_length⟩
    refine ⟨_, rfl, ite2 (fun c1 => ⟨_, .inl (SqL.of (u2 _ _ hst)), _, rfl, ite2 (fun c2 => ?_) fun _ => hno⟩) fun _ => hno⟩
    rw [List.length_map] at c2
    have hxl : x ≤ es.length := by omega
    refine ⟨_, .inl (SqL.of (u2 _ _ hst)), _, rfl, _, SqL.of (u2 _ _ hst), fun p2 hp2 => ?_⟩
    have e : cutV (es.map En.r) (some (((es.map En.r).length : Int) - (x : Int))) none = (es.drop (es.length - x)).map En.r := by
      rw [List.length_map, show (es.length : Int) - (x : Int) = ((es.length - x : Nat) : Int) by omega, cutV_lo, List.map_drop]
    rw [e]
    have hdl : (es.drop (es.length - x)).length = x := by rw [List.length_drop]; omega
    refine hN _ _ ⟨es.length - x, p2, _, rfl, u2.trans (.upd_new hp2 _), by omega, upd_same, fun h => .inr (by rw [hdl]; have := hx2 h; omega)⟩
end KW
set_option maxHeartbeats 8000000
namespace KW
open PySem L2

variable {g : Gx}
variable {bk : Bk}
variable {m : Nat}
local macro_rules | `(tactic| walk_at "gn") => `(tactic| simp only [gName, List.set_cons_zero, List.set_cons_succ])

local macro_rules | `(tactic| walk_at "rd") => `(tactic| simp (config := { failIfUnchanged := false, maxSteps := 10000000 }) only [L2.start, cxOf_K, nox_K, List.map_cons, List.map_nil, List.length_cons, List.length_nil, List.cons_append, List.nil_append, List.replicate_succ, List.replicate_zero, Nat.zero_add, Nat.reduceAdd, Nat.reduceSub, Nat.sub_self, tSeq, tIfS, tTest, tOp, tC, tVar, rI0, rI, rU, tUn, tRet, tRetN, tDrop, tNext, tBreak, tCont, tAsg, gName, gNil, gCons, tCons, tNil, tCB, tCall, tTry, tTryAs, tRaise, sFld, tFld, tMake, tMeth, Ends.gone, caught_K, tB, tAnd, tOr, tNot, tAndV, tOrV, tNotV, tIf, tChain, tNoPart, tPart, tSl, tNever, tAug, rIxL, rIxT, rSlL, tLst, tTup, gTup, tRev, tLZ, tConT, tDict0, rBits, rFind, rIn, tBM, tBM0, rAppend, rReverse, rEq, rNe, scal_ii, scal_ss, rCat, rSetL, gSub, ipI, capSt, List.getD_cons_zero, List.getD_cons_succ, decide_true, not_true_eq_false, not_false_eq_true,
  exists_eq_left', exists_eq_left, exists_eq', exists_eq, exists_and_left, and_assoc, Option.some.injEq, V.int.injEq, V.bl.injEq, V.ref.injEq, V.str.injEq, List.getElem?_cons_zero, List.getElem?_cons_succ, List.set_cons_zero, List.set_cons_succ, List.cons.injEq, and_true, true_and, List.append_nil, decide_eq_true_eq, Bool.not_eq_true', decide_eq_false_iff_not, Bool.not_not, Bool.not_true, Bool.not_false, Bool.true_eq_false, Bool.false_eq_true, if_true, if_false, ite_true, ite_false])

mutual
/-- values whose objects are all of a kind -/
inductive Vf (P : Addr → Prop) (H : Hp) : V → PyData → Prop
  | non : Vf P H .non .none
  | bl (b : Bool) : Vf P H (.bl b) (.bool b)
  | int (i : Int) : Vf P H (.int i) (.int i)
  | str (l : List Nat) (h : PyData.strOk (S l) = true) (hl : l.length ≤ 1000) : Vf P H (.str (S l)) (.str (S l))
  | lst {a : Addr} {vs : List V} {ds : List PyData} : P a → H a = some (.lst vs) → vs.length ≤ 1000 → Vfs P H vs ds → Vf P H (.ref a) (.list ds)
  | tup {a : Addr} {vs : List V} {ds : List PyData} : P a → H a = some (.tup vs) → vs.length ≤ 1000 → Vfs P H vs ds → Vf P H (.ref a) (.tuple ds)
inductive Vfs (P : Addr → Prop) (H : Hp) : List V → List PyData → Prop
  | nil : Vfs P H [] []
  | cons {v : V} {d : PyData} {vs : List V} {ds : List PyData} : Vf P H v d → Vfs P H vs ds → Vfs P H (v :: vs) (d :: ds)
end
mutual
theorem Vf.map {P P' : Addr → Prop} {H H' : Hp} (e : ∀ a o, P a → H a = some o → P' a ∧ H' a = some o) : ∀ {v : V} {d : PyData}, Vf P H v d → Vf P' H' v d
  | _, _, .non => .non
  | _, _, .bl b => .bl b
  | _, _, .int i => .int i
  | _, _, .str x h hl => .str x h hl
  | _, _, .lst p h hn hs => .lst (e _ _ p h).1 (e _ _ p h).2 hn (hs.map e)
  | _, _, .tup p h hn hs => .tup (e _ _ p h).1 (e _ _ p h).2 hn (hs.map e)
theorem Vfs.map {P P' : Addr → Prop} {H H' : Hp} (e : ∀ a o, P a → H a = some o → P' a ∧ H' a = some o) : ∀ {vs : List V} {ds : List PyData}, Vfs P H vs ds → Vfs P' H' vs ds
  | _, _, .nil => .nil
  | _, _, .cons h hs => .cons (h.map e) (hs.map e)
end
mutual
theorem Vf.vd {P : Addr → Prop} {H : Hp} : ∀ {v : V} {d : PyData}, Vf P H v d → Vd H v d
  | _, _, .non => .non
  | _, _, .bl b => .bl b
  | _, _, .int i => .int i
  | _, _, .str x h hl => .str x h hl
  | _, _, .lst p h hn hs => .lst h hn hs.vds
  | _, _, .tup p h hn hs => .tup h hn hs.vds
theorem Vfs.vds {P : Addr → Prop} {H : Hp} : ∀ {vs : List V} {ds : List PyData}, Vfs P H vs ds → Vds H vs ds
  | _, _, .nil => .nil
  | _, _, .cons h hs => .cons h.vd hs.vds
end
theorem vfs_of {P : Addr → Prop} {H : Hp} : ∀ {vs : List V} {ds : List PyData}, vs.length = ds.length → (∀ (j : Nat) v d, vs[j]? = some v → ds[j]? = some d → Vf P H v d) → Vfs P H vs ds
  | [], [], _, _ => .nil
  | [], _ :: _, h, _ => by simp at h
  | _ :: _, [], h, _ => by simp at h
  | v :: vs, d :: ds, h, hj => .cons (hj 0 v d rfl rfl) (vfs_of (by simpa using h) fun j v d h1 h2 => hj (j + 1) v d (by simpa using h1) (by simpa using h2))
theorem mem_depth {d : PyData} : ∀ {ds : List PyData}, d ∈ ds → d.depth ≤ PyData.depthAll ds
  | e :: ds, h => by
    simp only [PyData.depthAll]
    rcases List.mem_cons.mp h with rfl | h
    · omega
    · have := mem_depth h; omega
def sp_law_copy (m : Nat) : Sp := fun vs H Q _ => ∃ v d, vs = [v] ∧ Vd H v d ∧ d.depth < m ∧ ∀ v' H', Same H H' → Vf (fun a => H a = none) H' v' d → Q v' H'
theorem no_copy {vs : List V} {H : Hp} {Q : VK} {E : XK} (h : sp_law_copy 0 vs H Q E) : False := by
  obtain ⟨v, d, _, _, h, _⟩ := h
  omega
end KW
set_option maxHeartbeats 8000000
namespace KW
open PySem L2

variable {g : Gx}
variable {bk : Bk}
variable {m : Nat}
local macro_rules | `(tactic| walk_at "gn") => `(tactic| simp only [gName, List.set_cons_zero, List.set_cons_succ])

local macro_rules | `(tactic| walk_at "rd") => `(tactic| simp (config := { failIfUnchanged := false, maxSteps := 10000000 }) only [L2.start, cxOf_K, nox_K, List.map_cons, List.map_nil, List.length_cons, List.length_nil, List.cons_append, List.nil_append, List.replicate_succ, List.replicate_zero, Nat.zero_add, Nat.reduceAdd, Nat.reduceSub, Nat.sub_self, tSeq, tIfS, tTest, tOp, tC, tVar, rI0, rI, rU, tUn, tRet, tRetN, tDrop, tNext, tBreak, tCont, tAsg, gName, gNil, gCons, tCons, tNil, tCB, tCall, tTry, tTryAs, tRaise, sFld, tFld, tMake, tMeth, Ends.gone, caught_K, tB, tAnd, tOr, tNot, tAndV, tOrV, tNotV, tIf, tChain, tNoPart, tPart, tSl, tNever, tAug, rIxL, rIxT, rSlL, tLst, tTup, gTup, tRev, tLZ, tConT, tDict0, rBits, rFind, rIn, tBM, tBM0, rAppend, rReverse, rEq, rNe, scal_ii, scal_ss, rCat, rSetL, gSub, ipI, capSt, List.getD_cons_zero, List.getD_cons_succ, decide_true, not_true_eq_false, not_false_eq_true,
  exists_eq_left', exists_eq_left, exists_eq', exists_eq, exists_and_left, and_assoc, Option.some.injEq, V.int.injEq, V.bl.injEq, V.ref.injEq, V.str.injEq, List.getElem?_cons_zero, List.getElem?_cons_succ, List.set_cons_zero, List.set_cons_succ, List.cons.injEq, and_true, true_and, List.append_nil, decide_eq_true_eq, Bool.not_eq_true', decide_eq_false_iff_not, Bool.not_not, Bool.not_true, Bool.not_false, Bool.true_eq_false, Bool.false_eq_true, if_true, if_false, ite_true, ite_false])

theorem ok_law_copy {k : Nat}  (R : g.Raw "_law_copy" "_law_copy" s_law_copy ["_law_value"]) (F_law_copy : g.Fn k "_law_copy" ["_law_value"] (sp_law_copy m)) (b_isinstance : g.mg "isinstance" = none) (b_list : g.mg "list" = none) (b_tuple : g.mg "tuple" = none) : g.Fn (k + 1) "_law_copy" ["_law_value"] (sp_law_copy (m + 1)) := by
  refine R.fn sc_law_copy (fun vs H Q E h => by obtain ⟨v, d, rfl, hv, hdp, q⟩ := h; rfl) fun f_ cdv A outer s H vs Q E hr h => ?_
  obtain ⟨v, d, rfl, hv, hdp, q⟩ := h
  refine ⟨_, (@pss_cons _ _ _ _ _ (@ps_if _ _ _ _ _ _ _ _ (@pt_val _ _ _ (@pe_bf _ _ _ _ _ _ _ _ _ _ b_isinstance call_isinst (@pa_cons _ _ _ _ _ (@pv _ 0 _ _ (by rfl) (by first | exact Or.inl rfl | exact Or.inr (Or.inl rfl) | exact Or.inr (Or.inr rfl)) (by decide) (by decide)) (@pa_cons _ _ _ _ _ (@pe_bn _ _ _ _ ("list") b_list (by decide +kernel) (by rfl) (by rfl) (by decide) (by decide)) pa_nil (by rfl)) (by rfl)) (by decide +kernel) (by rfl) (by rfl) (by decide) (by decide) (by rfl) (by rfl)) (by intro _; rfl)) (@pss_one _ _ _ (@ps_ret _ _ _ _ (@pe_lc _ _ _ _ _ _ _ ([none]) ((["_law_thing"] : List Str)) _ (gName 0) _ _ (.own .nil) rfl (@pi_list _ _ _ _ (@pv _ 0 _ _ (by rfl) (by first | exact Or.inl rfl | exact Or.inr (Or.inl rfl) | exact Or.inr (Or.inr rfl)) (by decide) (by decide))) (fun cl C s₀ H₀ fp pn => (@pg_name _ _ (0) _ (show List.Nodup (["_law_thing"] : List Str) by decide +kernel) rfl (Or.inl rfl) (Or.inr rfl))) (fun cl C s₀ H₀ fp pn => pts_nil) (fun cl C s₀ H₀ fp pn => (@pe_fn _ _ _ _ _ _ _ _ _ _ _ _ F_law_copy hr (@pa_cons _ _ _ _ _ (@pv _ 0 _ _ (by rfl) (by first | exact Or.inl rfl | exact Or.inr (Or.inl rfl) | exact Or.inr (Or.inr rfl)) (by decide) (by decide)) pa_nil (by rfl)) (by omega) (by rfl) (by rfl) (by decide) (by rfl) (by rfl))) (by intro x hx; simp at hx) (by rfl) (by decide) (by decide +kernel) (by intro _; rfl)))) pss_nil) (@pss_cons _ _ _ _ _ (@ps_if _ _ _ _ _ _ _ _ (@pt_val _ _ _ (@pe_bf _ _ _ _ _ _ _ _ _ _ b_isinstance call_isinst (@pa_cons _ _ _ _ _ (@pv _ 0 _ _ (by rfl) (by first | exact Or.inl rfl | exact Or.inr (Or.inl rfl) | exact Or.inr (Or.inr rfl)) (by decide) (by decide)) (@pa_cons _ _ _ _ _ (@pe_bn _ _ _ _ ("tuple") b_tuple (by decide +kernel) (by rfl) (by rfl) (by decide) (by decide)) pa_nil (by rfl)) (by rfl)) (by decide +kernel) (by rfl) (by rfl) (by decide) (by decide) (by rfl) (by rfl)) (by intro _; rfl)) (@pss_one _ _ _ (@ps_ret _ _ _ _ (@pe_bt _ _ _ _ _ _ _ _ _ _ b_tuple call_tuple_of (@pa_cons _ _ _ _ _ (@pe_lc _ _ _ _ _ _ _ ([none]) ((["_law_thing"] : List Str)) _ (gName 0) _ _ (.own .nil) rfl (@pi_tup _ _ _ _ (@pv _ 0 _ _ (by rfl) (by first | exact Or.inl rfl | exact Or.inr (Or.inl rfl) | exact Or.inr (Or.inr rfl)) (by decide) (by decide))) (fun cl C s₀ H₀ fp pn => (@pg_name _ _ (0) _ (show List.Nodup (["_law_thing"] : List Str) by decide +kernel) rfl (Or.inl rfl) (Or.inr rfl))) (fun cl C s₀ H₀ fp pn => pts_nil) (fun cl C s₀ H₀ fp pn => (@pe_fn _ _ _ _ _ _ _ _ _ _ _ _ F_law_copy hr (@pa_cons _ _ _ _ _ (@pv _ 0 _ _ (by rfl) (by first | exact Or.inl rfl | exact Or.inr (Or.inl rfl) | exact Or.inr (Or.inr rfl)) (by decide) (by decide)) pa_nil (by rfl)) (by omega) (by rfl) (by rfl) (by decide) (by rfl) (by rfl))) (by intro x hx; simp at hx) (by rfl) (by decide) (by decide +kernel) (by intro _; rfl)) pa_nil (by rfl)) (by decide +kernel) (by rfl) (by rfl) (by decide) (by decide) (by rfl) (by rfl)))) pss_nil) (@pss_one _ _ _ (@ps_ret _ _ _ _ (@pv _ 0 _ _ (by rfl) (by first | exact Or.inl rfl | exact Or.inr (Or.inl rfl) | exact Or.inr (Or.inr rfl)) (by decide) (by decide)))))), ?_⟩
  have ty := hv.ty (K := g.K)
  walk_at "rd"
  cases hv with
  | @lst a vs ds h hl hds =>
    have e1 := hds.length
    refine ⟨_, rfl, _, ty, true, rfl, iteT ?_⟩
    refine tLC_relD (K := g.K) (b := a) (xs := vs) (fun D i y H' => ∀ d, ds[i]? = some d → Vf (fun z => H z = none ∧ z ≠ D) H' y d) (fun D i y H' H'' h s d hd => (h d hd).map fun z o hz ho => ⟨hz, s _ _ ho⟩) (fun D i y H' zs zs' h hD d hd => (h d hd).map fun z o hz ho => ⟨hz, by rw [upd_ne hz.2]; exact ho⟩) (fun R r => by walk_at "rd"; exact r) (SqL.of h) (by omega) ?_ ?_
    · intro D i x H' zs hx sm hD R r
      obtain ⟨e, he, hve⟩ := hds.at hx
      have hme := mem_depth (List.mem_of_getElem? he)
      walk_at "rd"
      refine ⟨x, e, rfl, hve.keep sm, by rw [PyData.depth] at hdp; omega, fun v' H'' s' hf => r v' H'' s' fun d hd => ?_⟩
      rw [he] at hd
      cases hd
      exact hf.map fun z o hz ho => ⟨⟨sm.free hz, fun e => by rw [e, hD] at hz; cases hz⟩, ho⟩
    · intro D ys H' hD sm hd hyl hys
      exact q (.ref D) H' sm (.lst hD hd (by omega) (vfs_of (by omega) fun j y d h1 h2 => (hys j y h1 d h2).map fun z o hz ho => ⟨hz.1, ho⟩))
  | @tup a vs ds h hl hds =>
    have e1 := hds.length
    refine ⟨_, rfl, _, ty, false, rfl, iteF ⟨_, rfl, _, ty, true, rfl, iteT ?_⟩⟩
    refine tLC_relDT (K := g.K) (b := a) (xs := vs) (fun D i y H' => ∀ d, ds[i]? = some d → Vf (fun z => H z = none ∧ z ≠ D) H' y d) (fun D i y H' H'' h s d hd => (h d hd).map fun z o hz ho => ⟨hz, s _ _ ho⟩) (fun D i y H' zs zs' h hD d hd => (h d hd).map fun z o hz ho => ⟨hz, by rw [upd_ne hz.2]; exact ho⟩) (fun R r => by walk_at "rd"; exact r) (SqT.of h) (by omega) ?_ ?_
    · intro D i x H' zs hx sm hD R r
      obtain ⟨e, he, hve⟩ := hds.at hx
      have hme := mem_depth (List.mem_of_getElem? he)
      walk_at "rd"
      refine ⟨x, e, rfl, hve.keep sm, by rw [PyData.depth] at hdp; omega, fun v' H'' s' hf => r v' H'' s' fun d hd => ?_⟩
      rw [he] at hd
      cases hd
      exact hf.map fun z o hz ho => ⟨⟨sm.free hz, fun e => by rw [e, hD] at hz; cases hz⟩, ho⟩
    · intro D ys H' hD sm hd hyl hys
      refine ⟨_, rfl, _, .inl ⟨SqL.of hd, fun p hp => ?_⟩⟩
      exact q (.ref p) _ (sm.trans (.upd_new hp _)) (.tup (sm.free hp) upd_same (by omega) (vfs_of (by omega) fun j y d h1 h2 => (hys j y h1 d h2).map fun z o hz ho => ⟨hz.1, (Same.upd_new hp _) _ _ ho⟩))
  | non => exact ⟨_, rfl, _, ty, false, rfl, iteF ⟨_, rfl, _, ty, false, rfl, iteF (q _ _ (.refl _) .non)⟩⟩
  | bl b => exact ⟨_, rfl, _, ty, false, rfl, iteF ⟨_, rfl, _, ty, false, rfl, iteF (q _ _ (.refl _) (.bl b))⟩⟩
  | int i => exact ⟨_, rfl, _, ty, false, rfl, iteF ⟨_, rfl, _, ty, false, rfl, iteF (q _ _ (.refl _) (.int i))⟩⟩
  | str l h hl => exact ⟨_, rfl, _, ty, false, rfl, iteF ⟨_, rfl, _, ty, false, rfl, iteF (q _ _ (.refl _) (.str l h hl))⟩⟩
end KW
set_option maxHeartbeats 8000000
namespace KW
open PySem L2

variable {g : Gx}
variable {bk : Bk}
variable {m : Nat}
local macro_rules | `(tactic| walk_at "gn") => `(tactic| simp only [gName, List.set_cons_zero, List.set_cons_succ])

local macro_rules | `(tactic| walk_at "rd") => `(tactic| simp (config := { failIfUnchanged := false, maxSteps := 10000000 }) only [L2.start, cxOf_K, nox_K, List.map_cons, List.map_nil, List.length_cons, List.length_nil, List.cons_append, List.nil_append, List.replicate_succ, List.replicate_zero, Nat.zero_add, Nat.reduceAdd, Nat.reduceSub, Nat.sub_self, tSeq, tIfS, tTest, tOp, tC, tVar, rI0, rI, rU, tUn, tRet, tRetN, tDrop, tNext, tBreak, tCont, tAsg, gName, gNil, gCons, tCons, tNil, tCB, tCall, tTry, tTryAs, tRaise, sFld, tFld, tMake, tMeth, Ends.gone, caught_K, tB, tAnd, tOr, tNot, tAndV, tOrV, tNotV, tIf, tChain, tNoPart, tPart, tSl, tNever, tAug, rIxL, rIxT, rSlL, tLst, tTup, gTup, tRev, tLZ, tConT, tDict0, rBits, rFind, rIn, tBM, tBM0, rAppend, rReverse, rEq, rNe, scal_ii, scal_ss, rCat, rSetL, gSub, ipI, capSt, List.getD_cons_zero, List.getD_cons_succ, decide_true, not_true_eq_false, not_false_eq_true,
  exists_eq_left', exists_eq_left, exists_eq', exists_eq, exists_and_left, and_assoc, Option.some.injEq, V.int.injEq, V.bl.injEq, V.ref.injEq, V.str.injEq, List.getElem?_cons_zero, List.getElem?_cons_succ, List.set_cons_zero, List.set_cons_succ, List.cons.injEq, and_true, true_and, List.append_nil, decide_eq_true_eq, Bool.not_eq_true', decide_eq_false_iff_not, Bool.not_not, Bool.not_true, Bool.not_false, Bool.true_eq_false, Bool.false_eq_true, if_true, if_false, ite_true, ite_false])

def En.key2 (e : En) : Nat × List PyData := (e.n, e.k)
/-- a row of the law's table -/
noncomputable def rowOf (e : En) (es : List En) : List V := es.map fun f => .int (cmpZ e.key2 f.key2)
def TabAt (H : Hp) (R : Addr) (es : List En) : Prop := ∃ as : List Addr, H R = some (.lst (as.map V.ref)) ∧ as.length = es.length ∧ ∀ (i : Nat) a e, as[i]? = some a → es[i]? = some e → H a = some (.lst (rowOf e es))
def sp_law_table (K : PySem.W.Frag) : Sp := fun vs H Q _ => ∃ (b br l : Addr) (m0 m1 m2 n0 : List Nat) (lo hi : Int) (es : List En), vs = [.ref b, .ref l] ∧ BookAt K H b br m0 m1 m2 n0 lo hi ∧ H l = some (.lst (es.map En.r)) ∧ es.length ≤ 63 ∧ (∀ e ∈ es, e.Ok (bkOf m0 m1 m2 n0 lo hi) n0 H) ∧ ∀ R H', Same H H' → TabAt H' R es → Q (.ref R) H'
theorem cmp_in {k k' : Nat × List PyData} (h : KD (kt k)) (h' : KD (kt k')) : inV (.int (cmpZ k k')) [.int (-1), .int 0, .int 1] = true := by
  rcases cmp_cases h h' with ⟨_, e, _⟩ | ⟨_, _, e, _⟩ | ⟨_, _, e, _⟩ <;> rw [e] <;> decide +kernel
end KW
set_option maxHeartbeats 8000000
namespace KW
open PySem L2

variable {g : Gx}
variable {bk : Bk}
variable {m : Nat}
local macro_rules | `(tactic| walk_at "gn") => `(tactic| simp only [gName, List.set_cons_zero, List.set_cons_succ])

local macro_rules | `(tactic| walk_at "rd") => `(tactic| simp (config := { failIfUnchanged := false, maxSteps := 10000000 }) only [L2.start, cxOf_K, nox_K, List.map_cons, List.map_nil, List.length_cons, List.length_nil, List.cons_append, List.nil_append, List.replicate_succ, List.replicate_zero, Nat.zero_add, Nat.reduceAdd, Nat.reduceSub, Nat.sub_self, tSeq, tIfS, tTest, tOp, tC, tVar, rI0, rI, rU, tUn, tRet, tRetN, tDrop, tNext, tBreak, tCont, tAsg, gName, gNil, gCons, tCons, tNil, tCB, tCall, tTry, tTryAs, tRaise, sFld, tFld, tMake, tMeth, Ends.gone, caught_K, tB, tAnd, tOr, tNot, tAndV, tOrV, tNotV, tIf, tChain, tNoPart, tPart, tSl, tNever, tAug, rIxL, rIxT, rSlL, tLst, tTup, gTup, tRev, tLZ, tConT, tDict0, rBits, rFind, rIn, tBM, tBM0, rAppend, rReverse, rEq, rNe, scal_ii, scal_ss, rCat, rSetL, gSub, ipI, capSt, List.getD_cons_zero, List.getD_cons_succ, decide_true, not_true_eq_false, not_false_eq_true,
  exists_eq_left', exists_eq_left, exists_eq', exists_eq, exists_and_left, and_assoc, Option.some.injEq, V.int.injEq, V.bl.injEq, V.ref.injEq, V.str.injEq, List.getElem?_cons_zero, List.getElem?_cons_succ, List.set_cons_zero, List.set_cons_succ, List.cons.injEq, and_true, true_and, List.append_nil, decide_eq_true_eq, Bool.not_eq_true', decide_eq_false_iff_not, Bool.not_not, Bool.not_true, Bool.not_false, Bool.true_eq_false, Bool.false_eq_true, if_true, if_false, ite_true, ite_false])

theorem ok_law_table {k : Nat}  (R : g.Raw "_law_table" "_law_table" s_law_table ["_law_book_here", "_law_some"]) (F_compared : g.Fn k "compared" ["book", "shape", "one", "other"] (sp_compared g.K)) (F_law_whole : g.Fn k "_law_whole" ["_law_found"] (sp_law_whole)) (F_law_copy : g.Fn k "_law_copy" ["_law_value"] (sp_law_copy 24)) : g.Fn (k + 1) "_law_table" ["_law_book_here", "_law_some"] (sp_law_table g.K) := by
  refine R.fn sc_law_table (fun vs H Q E h => by obtain ⟨b, br, l, m0, m1, m2, n0, lo, hi, es, rfl, hbk, hl, hel, hok, q⟩ := h; rfl) fun f_ cdv A outer s H vs Q E hr h => ?_
  obtain ⟨b, br, l, m0, m1, m2, n0, lo, hi, es, rfl, hbk, hl, hel, hok, q⟩ := h
  refine ⟨_, (@pss_cons _ _ _ _ _ (@ps_set _ _ (2) _ _ _ _ sc_law_table.nd rfl (Or.inl rfl) (@pe_lst _ _ _ _ pa_nil) (by rfl) (by first | exact .inl rfl | exact .inr rfl | assumption)) (@pss_cons _ _ _ _ _ (@ps_for _ _ _ _ _ _ _ _ PassesOwn.never rfl (@pi_list _ _ _ _ (@pv _ 1 _ _ (by rfl) (by first | exact Or.inl rfl | exact Or.inr (Or.inl rfl) | exact Or.inr (Or.inr rfl)) (by decide) (by decide))) (@pg_name _ _ (3) _ sc_law_table.nd rfl (Or.inl rfl) (by first | exact .inl rfl | exact .inr rfl | assumption)) (@pss_cons _ _ _ _ _ (@ps_set _ _ (4) _ _ _ _ sc_law_table.nd rfl (Or.inl rfl) (@pe_lst _ _ _ _ pa_nil) (by rfl) (by first | exact .inl rfl | exact .inr rfl | assumption)) (@pss_cons _ _ _ _ _ (@ps_for _ _ _ _ _ _ _ _ PassesOwn.never rfl (@pi_list _ _ _ _ (@pv _ 1 _ _ (by rfl) (by first | exact Or.inl rfl | exact Or.inr (Or.inl rfl) | exact Or.inr (Or.inr rfl)) (by decide) (by decide))) (@pg_name _ _ (5) _ sc_law_table.nd rfl (Or.inl rfl) (by first | exact .inl rfl | exact .inr rfl | assumption)) (@pss_cons _ _ _ _ _ (@ps_set _ _ (6) _ _ _ _ sc_law_table.nd rfl (Or.inl rfl) (@pe_lst _ _ _ _ (@pa_cons _ _ _ _ _ (@pe_fn _ _ _ _ _ _ _ _ _ _ _ _ F_law_copy hr (@pa_cons _ _ _ _ _ (@pe_ix _ _ _ _ _ _ _ ix_tup (@pv _ 3 _ _ (by rfl) (by first | exact Or.inl rfl | exact Or.inr (Or.inl rfl) | exact Or.inr (Or.inr rfl)) (by decide) (by decide)) pe_int (fun _ _ => rfl)) pa_nil (by rfl)) (by omega) (by rfl) (by rfl) (by decide) (by rfl) (by rfl)) (@pa_cons _ _ _ _ _ (@pe_fn _ _ _ _ _ _ _ _ _ _ _ _ F_law_copy hr (@pa_cons _ _ _ _ _ (@pe_ix _ _ _ _ _ _ _ ix_tup (@pv _ 5 _ _ (by rfl) (by first | exact Or.inl rfl | exact Or.inr (Or.inl rfl) | exact Or.inr (Or.inr rfl)) (by decide) (by decide)) pe_int (fun _ _ => rfl)) pa_nil (by rfl)) (by omega) (by rfl) (by rfl) (by decide) (by rfl) (by rfl)) pa_nil (by rfl)) (by rfl))) (by rfl) (by first | exact .inl rfl | exact .inr rfl | assumption)) (@pss_cons _ _ _ _ _ (@ps_set _ _ (7) _ _ _ _ sc_law_table.nd rfl (Or.inl rfl) (@pe_fn _ _ _ _ _ _ _ _ _ _ _ _ F_compared hr (@pa_cons _ _ _ _ _ (@pv _ 0 _ _ (by rfl) (by first | exact Or.inl rfl | exact Or.inr (Or.inl rfl) | exact Or.inr (Or.inr rfl)) (by decide) (by decide)) (@pa_cons _ _ _ _ _ (@pe_tup _ _ _ _ _ (@pa_cons _ _ _ _ _ pe_str (@pa_cons _ _ _ _ _ (@pe_ix _ _ _ _ _ _ _ ix_tup (@pe_ix _ _ _ _ _ _ _ ix_list (@pv _ 0 _ _ (by rfl) (by first | exact Or.inl rfl | exact Or.inr (Or.inl rfl) | exact Or.inr (Or.inr rfl)) (by decide) (by decide)) pe_int (fun _ _ => rfl)) pe_int (fun _ _ => rfl)) pa_nil (by rfl)) (by rfl))) (@pa_cons _ _ _ _ _ (@pe_ix _ _ _ _ _ _ _ ix_list (@pv _ 6 _ _ (by rfl) (by first | exact Or.inl rfl | exact Or.inr (Or.inl rfl) | exact Or.inr (Or.inr rfl)) (by decide) (by decide)) pe_int (fun _ _ => rfl)) (@pa_cons _ _ _ _ _ (@pe_ix _ _ _ _ _ _ _ ix_list (@pv _ 6 _ _ (by rfl) (by first | exact Or.inl rfl | exact Or.inr (Or.inl rfl) | exact Or.inr (Or.inr rfl)) (by decide) (by decide)) pe_int (fun _ _ => rfl)) pa_nil (by rfl)) (by rfl)) (star_tup _ _ _ _ _)) (by rfl)) (by omega) (by rfl) (by rfl) (by decide) (by rfl) (by rfl)) (by rfl) (by first | exact .inl rfl | exact .inr rfl | assumption)) (@pss_cons _ _ _ _ _ (@ps_if _ _ _ _ _ _ _ _ (@pw_or _ _ _ _ _ _ _ (@pt_not _ _ _ _ (@pt_val _ _ _ (@pe_fn _ _ _ _ _ _ _ _ _ _ _ _ F_law_whole hr (@pa_cons _ _ _ _ _ (@pv _ 7 _ _ (by rfl) (by first | exact Or.inl rfl | exact Or.inr (Or.inl rfl) | exact Or.inr (Or.inr rfl)) (by decide) (by decide)) pa_nil (by rfl)) (by omega) (by rfl) (by rfl) (by decide) (by rfl) (by rfl)) (by intro _; rfl))) (@pw_or _ _ _ _ _ _ _ (@pt_cmpR _ _ _ _ _ _ _ _ op_notIn_seq (@pv _ 7 _ _ (by rfl) (by first | exact Or.inl rfl | exact Or.inr (Or.inl rfl) | exact Or.inr (Or.inr rfl)) (by decide) (by decide)) (@pe_lst _ _ _ _ (@pa_cons _ _ _ _ _ (@pe_un _ _ _ _ _ _ un_neg pe_int) (@pa_cons _ _ _ _ _ pe_int (@pa_cons _ _ _ _ _ pe_int pa_nil (by rfl)) (by rfl)) (by rfl))) rfl) (@pw_or1 _ _ _ _ (@pt_cmpR _ _ _ _ _ _ _ _ (op_neD hr.units) (@pv _ 6 _ _ (by rfl) (by first | exact Or.inl rfl | exact Or.inr (Or.inl rfl) | exact Or.inr (Or.inr rfl)) (by decide) (by decide)) (@pe_lst _ _ _ _ (@pa_cons _ _ _ _ _ (@pe_ix _ _ _ _ _ _ _ ix_tup (@pv _ 3 _ _ (by rfl) (by first | exact Or.inl rfl | exact Or.inr (Or.inl rfl) | exact Or.inr (Or.inr rfl)) (by decide) (by decide)) pe_int (fun _ _ => rfl)) (@pa_cons _ _ _ _ _ (@pe_ix _ _ _ _ _ _ _ ix_tup (@pv _ 5 _ _ (by rfl) (by first | exact Or.inl rfl | exact Or.inr (Or.inl rfl) | exact Or.inr (Or.inr rfl)) (by decide) (by decide)) pe_int (fun _ _ => rfl)) pa_nil (by rfl)) (by rfl))) (nomark _))))).pt (@pss_one _ _ _ (@ps_ret _ _ _ _ pe_non)) pss_nil) (@pss_one _ _ _ (@ps_expr _ _ _ _ (@pe_bm _ _ _ _ _ _ _ _ _ _ _ _ PySem.F.plainAttrs_list PySem.F.slot_list_append PySem.F.type_list_append mt_append (@pv _ 4 _ _ (by rfl) (by first | exact Or.inl rfl | exact Or.inr (Or.inl rfl) | exact Or.inr (Or.inr rfl)) (by decide) (by decide)) (@pa_cons _ _ _ _ _ (@pv _ 7 _ _ (by rfl) (by first | exact Or.inl rfl | exact Or.inr (Or.inl rfl) | exact Or.inr (Or.inr rfl)) (by decide) (by decide)) pa_nil (by rfl)) (by rfl) (by rfl) (by rfl) (by rfl) (by rfl)) (by rfl)))))) (by intro _; rfl)) (@pss_one _ _ _ (@ps_expr _ _ _ _ (@pe_bm _ _ _ _ _ _ _ _ _ _ _ _ PySem.F.plainAttrs_list PySem.F.slot_list_append PySem.F.type_list_append mt_append (@pv _ 2 _ _ (by rfl) (by first | exact Or.inl rfl | exact Or.inr (Or.inl rfl) | exact Or.inr (Or.inr rfl)) (by decide) (by decide)) (@pa_cons _ _ _ _ _ (@pv _ 4 _ _ (by rfl) (by first | exact Or.inl rfl | exact Or.inr (Or.inl rfl) | exact Or.inr (Or.inr rfl)) (by decide) (by decide)) pa_nil (by rfl)) (by rfl) (by rfl) (by rfl) (by rfl) (by rfl)) (by rfl))))) (by intro _; rfl)) (@pss_one _ _ _ (@ps_ret _ _ _ _ (@pv _ 2 _ _ (by rfl) (by first | exact Or.inl rfl | exact Or.inr (Or.inl rfl) | exact Or.inr (Or.inr rfl)) (by decide) (by decide)))))), ?_⟩
  walk_at "rd"
  refine ⟨few (by decide), fun p hp => ?_⟩
  have u0 := Same.upd_new hp (.lst [])
  refine tFor_list (K := g.K) (a := l) (xs := es.map En.r) (fun i σ H' => ∃ (o3 o4 o5 o6 o7 : Option V) (as : List Addr), σ = [some (.ref b), some (.ref l), some (.ref p), o3, o4, o5, o6, o7] ∧ Same H H' ∧ H' p = some (.lst (as.map V.ref)) ∧ as.length = i ∧ ∀ (j : Nat) a e, as[j]? = some a → es[j]? = some e → a ≠ p ∧ H' a = some (.lst (rowOf e es))) (fun R r => by walk_at "rd"; exact r) ⟨none, none, none, none, none, [], rfl, u0, upd_same, rfl, fun j a e h => by simp at h⟩ (fun i σ H' _ ⟨_, _, _, _, _, _, _, sm, _⟩ => SqL.of (sm _ _ hl)) ?_ ?_
  · rintro i v σ H1 hv ⟨o3, o4, o5, o6, o7, as, rfl, s1, hp1, hal, has⟩
    rw [List.getElem?_map] at hv
    obtain ⟨e, he, rfl⟩ := Option.map_eq_some_iff.mp hv
    have hem := List.mem_of_getElem? he
    walk_at "rd"
    refine ⟨few (by decide), fun r hr => ?_⟩
    have u1 := Same.upd_new hr (.lst [])
    refine tFor_list (K := g.K) (a := l) (xs := es.map En.r) (fun j σ H' => ∃ o5 o6 o7, σ = [some (.ref b), some (.ref l), some (.ref p), some e.r, some (.ref r), o5, o6, o7] ∧ Same H1 H' ∧ H' r = some (.lst (rowOf e (es.take j)))) (fun R r => by walk_at "rd"; exact r) ⟨_, _, _, rfl, u1, upd_same⟩ (fun i σ H' _ ⟨_, _, _, _, sm, _⟩ => SqL.of ((s1.trans sm) _ _ hl)) ?_ ?_
    · rintro j v σ H2 hv ⟨o5, o6, o7, rfl, s2, hr2⟩
      rw [List.getElem?_map] at hv
      obtain ⟨f, hf, rfl⟩ := Option.map_eq_some_iff.mp hv
      have hfm := List.mem_of_getElem? hf
      have s02 := s1.trans s2
      have ho := (hok e hem).keep s02
      have hof := (hok f hfm).keep s02
      walk_at "rd"
      refine ⟨_, rfl, _, SqT.of ho.at_, _, rfl, e.v, e.d, rfl, ho.vd, by have := ho.dep; have := ho.hi; omega, fun v1 H3 s3 hc1 => ?_⟩
      have hof3 := hof.keep s3
      refine ⟨_, rfl, _, SqT.of hof3.at_, _, rfl, f.v, f.d, rfl, hof3.vd, by have := hof.dep; have := hof.hi; omega, fun v2 H4 s4 hc2 => ?_⟩
      refine ⟨few (by decide), fun p5 hp5 => ?_⟩
      have u5 := Same.upd_new hp5 (.lst [v1, v2])
      have s45 := (s02.trans s3).trans (s4.trans u5)
      obtain ⟨r0, t0, x1, b1, b2, b3⟩ := (hbk.keep s45).path
      refine ⟨_, SqL.of b1, _, rfl, r0, rfl, _, SqT.of b2, _, rfl, few (by decide), fun p6 hp6 => ?_⟩
      have u6 := Same.upd_new hp6 (.tup [.str (Str.ofString "use"), .str (S n0)])
      have hd6 := u6 _ _ (upd_same (H := H4) (a := p5) (o := .lst [v1, v2]))
      have hc1' := hc1.vd.keep ((s4.trans u5).trans u6)
      have hc2' := hc2.vd.keep (u5.trans u6)
      refine ⟨_, SqL.of hd6, _, rfl, _, SqL.of hd6, _, rfl, bkOf m0 m1 m2 n0 lo hi, .ref b, .ref p6, v1, v2, .use n0, e.d, f.d, e.key2, f.key2, rfl, (hbk.keep (s45.trans u6)).at_, .use (SqT.of upd_same), (ho.tr LV (by have := ho.hi; show _ ≤ 60; omega)).2, (hof.tr LV (by have := hof.hi; show _ ≤ 60; omega)).2, hc1', hc2', ho.key, hof.key, fun H7 s7 => ?_⟩
      have hin := cmp_in (k := e.key2) (k' := f.key2) (ky_kd ho.key) (ky_kd hof.key)
      refine ⟨_, rfl, _, rfl, iteN (by simp) ⟨few (by decide), fun p8 hp8 => ⟨_, .inl (SqL.of upd_same), rfl, rfl, ?_⟩⟩⟩
      have u8 := Same.upd_new hp8 (.lst [V.int (-1), V.int 0, V.int 1])
      have s08 := (s45.trans u6).trans (s7.trans u8)
      have ho8 := (hok e hem).keep s08
      have hof8 := (hok f hfm).keep s08
      refine iteN (by rw [hin]; simp) ⟨_, rfl, _, SqT.of ho8.at_, _, rfl, _, rfl, _, SqT.of hof8.at_, _, rfl, few (by decide), fun p9 hp9 => ?_⟩
      have u9 := Same.upd_new hp9 (.lst [e.v, f.v])
      have s79 := (s7.trans u8).trans u9
      have hd1 : Den g.K (upd (upd H7 p8 (.lst [V.int (-1), V.int 0, V.int 1])) p9 (.lst [e.v, f.v])) (.ref p5) (.list [e.d, f.d]) := .lst (SqL.of (s79 _ _ hd6)) (.cons (hc1'.keep s79).den (.cons (hc2'.keep s79).den .nil))
      refine ⟨.list [e.d, f.d], hd1, .list [e.d, f.d], .lst (SqL.of upd_same) (.cons (ho8.vd.keep u9).den (.cons (hof8.vd.keep u9).den .nil)), ?_, ?_⟩
      · have := ho.dep; have := ho.hi; have := hof.dep; have := hof.hi
        simp only [PyData.depth, PyData.depthAll]; omega
      · rw [PySem.SeqAt.eqv_refl _ (Den.lay (K := g.K) hd1)]
        have s29 := ((s3.trans (s4.trans u5)).trans u6).trans s79
        have hr9 := s29 _ _ hr2
        have hj := (List.getElem?_eq_some_iff.mp hf).1
        have h6 : 10000 < sizeLine := by decide
        have hrl : (rowOf e (es.take j)).length ≤ 63 := by rw [rowOf, List.length_map, List.length_take]; omega
        refine iteN (by simp) ⟨.inl ⟨rfl, _, SqL.of hr9⟩, _, hr9, by omega, .upd_over hr (s2.trans s29) _, ?_⟩
        rw [upd_same, take_snoc hf, rowOf, rowOf, List.map_append]
        rfl
    · rintro σ H2 ⟨o5, o6, o7, rfl, s2, hr2⟩
      rw [List.length_map, List.take_length] at hr2
      walk_at "rd"
      have hp2 := s2 _ _ hp1
      have hrp : r ≠ p := fun e => by rw [e, hp1] at hr; cases hr
      have hi := (List.getElem?_eq_some_iff.mp he).1
      have h6 : 10000 < sizeLine := by decide
      refine ⟨.inl ⟨rfl, _, SqL.of hp2⟩, _, hp2, by rw [List.length_map]; omega, .upd_over hp (s1.trans s2) _, as ++ [r], by rw [upd_same, List.map_append]; rfl, by simp [hal], fun j a f h1 h2 => ?_⟩
      rcases Nat.lt_trichotomy j as.length with c | c | c
      · rw [List.getElem?_append_left c] at h1
        obtain ⟨g1, g2⟩ := has j a f h1 h2
        exact ⟨g1, by rw [upd_ne g1]; exact s2 _ _ g2⟩
      · have e1 : r = a := by subst c; simpa using h1
        rw [c, hal, he] at h2
        cases h2
        subst e1
        exact ⟨hrp, by rw [upd_ne hrp]; exact hr2⟩
      · rw [List.getElem?_eq_none (by rw [List.length_append, List.length_singleton]; omega)] at h1; cases h1
  · rintro σ H1 ⟨o3, o4, o5, o6, o7, as, rfl, s1, hp1, hal, has⟩
    rw [List.length_map] at hal
    walk_at "rd"
    exact q p H1 s1 ⟨as, hp1, hal, fun i a e h1 h2 => (has i a e h1 h2).2⟩
end KW
set_option maxHeartbeats 8000000
namespace KW
open PySem L2

variable {g : Gx}
variable {bk : Bk}
variable {m : Nat}
local macro_rules | `(tactic| walk_at "gn") => `(tactic| simp only [gName, List.set_cons_zero, List.set_cons_succ])

local macro_rules | `(tactic| walk_at "rd") => `(tactic| simp (config := { failIfUnchanged := false, maxSteps := 10000000 }) only [L2.start, cxOf_K, nox_K, List.map_cons, List.map_nil, List.length_cons, List.length_nil, List.cons_append, List.nil_append, List.replicate_succ, List.replicate_zero, Nat.zero_add, Nat.reduceAdd, Nat.reduceSub, Nat.sub_self, tSeq, tIfS, tTest, tOp, tC, tVar, rI0, rI, rU, tUn, tRet, tRetN, tDrop, tNext, tBreak, tCont, tAsg, gName, gNil, gCons, tCons, tNil, tCB, tCall, tTry, tTryAs, tRaise, sFld, tFld, tMake, tMeth, Ends.gone, caught_K, tB, tAnd, tOr, tNot, tAndV, tOrV, tNotV, tIf, tChain, tNoPart, tPart, tSl, tNever, tAug, rIxL, rIxT, rSlL, tLst, tTup, gTup, tRev, tLZ, tConT, tDict0, rBits, rFind, rIn, tBM, tBM0, rAppend, rReverse, rEq, rNe, scal_ii, scal_ss, rCat, rSetL, gSub, ipI, capSt, List.getD_cons_zero, List.getD_cons_succ, decide_true, not_true_eq_false, not_false_eq_true,
  exists_eq_left', exists_eq_left, exists_eq', exists_eq, exists_and_left, and_assoc, Option.some.injEq, V.int.injEq, V.bl.injEq, V.ref.injEq, V.str.injEq, List.getElem?_cons_zero, List.getElem?_cons_succ, List.set_cons_zero, List.set_cons_succ, List.cons.injEq, and_true, true_and, List.append_nil, decide_eq_true_eq, Bool.not_eq_true', decide_eq_false_iff_not, Bool.not_not, Bool.not_true, Bool.not_false, Bool.true_eq_false, Bool.false_eq_true, if_true, if_false, ite_true, ite_false])

theorem nat_at {es : List En} {i : Nat} (h : i < es.length) : ∃ e, es[i]? = some e ∧ e ∈ es := ⟨es[i], List.getElem?_eq_getElem h, List.getElem_mem h⟩
def sp_law_in_order (K : PySem.W.Frag) : Sp := fun vs H Q _ => ∃ (R l : Addr) (bk : Bk) (n0 : List Nat) (es : List En), vs = [.ref R, .ref l] ∧ H l = some (.lst (es.map En.r)) ∧ es.length ≤ 63 ∧ (∀ e ∈ es, e.Ok bk n0 H) ∧ TabAt H R es ∧ Q (.bl true) H
theorem ok_law_in_order  (R : g.Raw "_law_in_order" "_law_in_order" s_law_in_order ["_law_rows", "_law_some"]) (b_len : g.mg "len" = none) (b_range : g.mg "range" = none) : g.Fn (1) "_law_in_order" ["_law_rows", "_law_some"] (sp_law_in_order g.K) := by
  refine R.fn sc_law_in_order (fun vs H Q E h => by obtain ⟨R, l, bk, n0, es, rfl, hl, hel, hok, ⟨as, hR, hal, has⟩, q⟩ := h; rfl) fun f_ cdv A outer s H vs Q E hr h => ?_
  obtain ⟨R, l, bk, n0, es, rfl, hl, hel, hok, ⟨as, hR, hal, has⟩, q⟩ := h
  refine ⟨_, (@pss_cons _ _ _ _ _ (@ps_for _ _ _ _ _ _ _ _ PassesOwn.never rfl (@pi_range1 _ _ _ _ _ _ rfl b_range (@pa_cons _ _ _ _ _ (@pe_bf _ _ _ _ _ _ _ _ _ _ b_len call_len_seq (@pa_cons _ _ _ _ _ (@pv _ 1 _ _ (by rfl) (by first | exact Or.inl rfl | exact Or.inr (Or.inl rfl) | exact Or.inr (Or.inr rfl)) (by decide) (by decide)) pa_nil (by rfl)) (by decide +kernel) (by rfl) (by rfl) (by decide) (by decide) (by rfl) (by rfl)) pa_nil (by rfl)) (by rfl)) (@pg_name _ _ (2) _ sc_law_in_order.nd rfl (Or.inl rfl) (by first | exact .inl rfl | exact .inr rfl | assumption)) (@pss_one _ _ _ (@ps_for _ _ _ _ _ _ _ _ PassesOwn.never rfl (@pi_range1 _ _ _ _ _ _ rfl b_range (@pa_cons _ _ _ _ _ (@pe_bf _ _ _ _ _ _ _ _ _ _ b_len call_len_seq (@pa_cons _ _ _ _ _ (@pv _ 1 _ _ (by rfl) (by first | exact Or.inl rfl | exact Or.inr (Or.inl rfl) | exact Or.inr (Or.inr rfl)) (by decide) (by decide)) pa_nil (by rfl)) (by decide +kernel) (by rfl) (by rfl) (by decide) (by decide) (by rfl) (by rfl)) pa_nil (by rfl)) (by rfl)) (@pg_name _ _ (3) _ sc_law_in_order.nd rfl (Or.inl rfl) (by first | exact .inl rfl | exact .inr rfl | assumption)) (@pss_cons _ _ _ _ _ (@ps_if _ _ _ _ _ _ _ _ (@pw_or _ _ _ _ _ _ _ (@pt_cmpR _ _ _ _ _ _ _ _ op_ne (@pe_cmpR _ _ _ _ _ _ _ _ op_eq (@pe_ix _ _ _ _ _ _ _ ix_list (@pe_ix _ _ _ _ _ _ _ ix_list (@pv _ 0 _ _ (by rfl) (by first | exact Or.inl rfl | exact Or.inr (Or.inl rfl) | exact Or.inr (Or.inr rfl)) (by decide) (by decide)) (@pv _ 2 _ _ (by rfl) (by first | exact Or.inl rfl | exact Or.inr (Or.inl rfl) | exact Or.inr (Or.inr rfl)) (by decide) (by decide)) (fun _ _ => rfl)) (@pv _ 3 _ _ (by rfl) (by first | exact Or.inl rfl | exact Or.inr (Or.inl rfl) | exact Or.inr (Or.inr rfl)) (by decide) (by decide)) (fun _ _ => rfl)) pe_int (nomark _)) (@pe_cmpR _ _ _ _ _ _ _ _ (op_eqD hr.units) (@pe_ix _ _ _ _ _ _ _ ix_tup (@pe_ix _ _ _ _ _ _ _ ix_list (@pv _ 1 _ _ (by rfl) (by first | exact Or.inl rfl | exact Or.inr (Or.inl rfl) | exact Or.inr (Or.inr rfl)) (by decide) (by decide)) (@pv _ 2 _ _ (by rfl) (by first | exact Or.inl rfl | exact Or.inr (Or.inl rfl) | exact Or.inr (Or.inr rfl)) (by decide) (by decide)) (fun _ _ => rfl)) pe_int (fun _ _ => rfl)) (@pe_ix _ _ _ _ _ _ _ ix_tup (@pe_ix _ _ _ _ _ _ _ ix_list (@pv _ 1 _ _ (by rfl) (by first | exact Or.inl rfl | exact Or.inr (Or.inl rfl) | exact Or.inr (Or.inr rfl)) (by decide) (by decide)) (@pv _ 3 _ _ (by rfl) (by first | exact Or.inl rfl | exact Or.inr (Or.inl rfl) | exact Or.inr (Or.inr rfl)) (by decide) (by decide)) (fun _ _ => rfl)) pe_int (fun _ _ => rfl)) (nomark _)) (nomark _)) (@pw_or1 _ _ _ _ (@pt_cmpR _ _ _ _ _ _ _ _ op_ne (@pe_ix _ _ _ _ _ _ _ ix_list (@pe_ix _ _ _ _ _ _ _ ix_list (@pv _ 0 _ _ (by rfl) (by first | exact Or.inl rfl | exact Or.inr (Or.inl rfl) | exact Or.inr (Or.inr rfl)) (by decide) (by decide)) (@pv _ 2 _ _ (by rfl) (by first | exact Or.inl rfl | exact Or.inr (Or.inl rfl) | exact Or.inr (Or.inr rfl)) (by decide) (by decide)) (fun _ _ => rfl)) (@pv _ 3 _ _ (by rfl) (by first | exact Or.inl rfl | exact Or.inr (Or.inl rfl) | exact Or.inr (Or.inr rfl)) (by decide) (by decide)) (fun _ _ => rfl)) (@pe_op _ _ _ _ _ _ _ _ op_sub pe_int (@pe_ix _ _ _ _ _ _ _ ix_list (@pe_ix _ _ _ _ _ _ _ ix_list (@pv _ 0 _ _ (by rfl) (by first | exact Or.inl rfl | exact Or.inr (Or.inl rfl) | exact Or.inr (Or.inr rfl)) (by decide) (by decide)) (@pv _ 3 _ _ (by rfl) (by first | exact Or.inl rfl | exact Or.inr (Or.inl rfl) | exact Or.inr (Or.inr rfl)) (by decide) (by decide)) (fun _ _ => rfl)) (@pv _ 2 _ _ (by rfl) (by first | exact Or.inl rfl | exact Or.inr (Or.inl rfl) | exact Or.inr (Or.inr rfl)) (by decide) (by decide)) (fun _ _ => rfl))) (nomark _)))).pt (@pss_one _ _ _ (@ps_ret _ _ _ _ pe_bl)) pss_nil) (@pss_cons _ _ _ _ _ (@ps_if _ _ _ _ _ _ _ _ (@pw_and _ _ _ _ _ _ _ (@pt_cmpR _ _ _ _ _ _ _ _ op_lt (@pe_ix _ _ _ _ _ _ _ ix_tup (@pe_ix _ _ _ _ _ _ _ ix_list (@pv _ 1 _ _ (by rfl) (by first | exact Or.inl rfl | exact Or.inr (Or.inl rfl) | exact Or.inr (Or.inr rfl)) (by decide) (by decide)) (@pv _ 2 _ _ (by rfl) (by first | exact Or.inl rfl | exact Or.inr (Or.inl rfl) | exact Or.inr (Or.inr rfl)) (by decide) (by decide)) (fun _ _ => rfl)) pe_int (fun _ _ => rfl)) (@pe_ix _ _ _ _ _ _ _ ix_tup (@pe_ix _ _ _ _ _ _ _ ix_list (@pv _ 1 _ _ (by rfl) (by first | exact Or.inl rfl | exact Or.inr (Or.inl rfl) | exact Or.inr (Or.inr rfl)) (by decide) (by decide)) (@pv _ 3 _ _ (by rfl) (by first | exact Or.inl rfl | exact Or.inr (Or.inl rfl) | exact Or.inr (Or.inr rfl)) (by decide) (by decide)) (fun _ _ => rfl)) pe_int (fun _ _ => rfl)) (nomark _)) (@pw_and1 _ _ _ _ (@pt_cmpR _ _ _ _ _ _ _ _ op_ne (@pe_ix _ _ _ _ _ _ _ ix_list (@pe_ix _ _ _ _ _ _ _ ix_list (@pv _ 0 _ _ (by rfl) (by first | exact Or.inl rfl | exact Or.inr (Or.inl rfl) | exact Or.inr (Or.inr rfl)) (by decide) (by decide)) (@pv _ 2 _ _ (by rfl) (by first | exact Or.inl rfl | exact Or.inr (Or.inl rfl) | exact Or.inr (Or.inr rfl)) (by decide) (by decide)) (fun _ _ => rfl)) (@pv _ 3 _ _ (by rfl) (by first | exact Or.inl rfl | exact Or.inr (Or.inl rfl) | exact Or.inr (Or.inr rfl)) (by decide) (by decide)) (fun _ _ => rfl)) (@pe_un _ _ _ _ _ _ un_neg pe_int) (nomark _)))).pt (@pss_one _ _ _ (@ps_ret _ _ _ _ pe_bl)) pss_nil) (@pss_one _ _ _ (@ps_for _ _ _ _ _ _ _ _ PassesOwn.never rfl (@pi_range1 _ _ _ _ _ _ rfl b_range (@pa_cons _ _ _ _ _ (@pe_bf _ _ _ _ _ _ _ _ _ _ b_len call_len_seq (@pa_cons _ _ _ _ _ (@pv _ 1 _ _ (by rfl) (by first | exact Or.inl rfl | exact Or.inr (Or.inl rfl) | exact Or.inr (Or.inr rfl)) (by decide) (by decide)) pa_nil (by rfl)) (by decide +kernel) (by rfl) (by rfl) (by decide) (by decide) (by rfl) (by rfl)) pa_nil (by rfl)) (by rfl)) (@pg_name _ _ (4) _ sc_law_in_order.nd rfl (Or.inl rfl) (by first | exact .inl rfl | exact .inr rfl | assumption)) (@pss_one _ _ _ (@ps_if _ _ _ _ _ _ _ _ (@pw_and _ _ _ _ _ _ _ (@pt_cmpR _ _ _ _ _ _ _ _ op_le (@pe_ix _ _ _ _ _ _ _ ix_list (@pe_ix _ _ _ _ _ _ _ ix_list (@pv _ 0 _ _ (by rfl) (by first | exact Or.inl rfl | exact Or.inr (Or.inl rfl) | exact Or.inr (Or.inr rfl)) (by decide) (by decide)) (@pv _ 2 _ _ (by rfl) (by first | exact Or.inl rfl | exact Or.inr (Or.inl rfl) | exact Or.inr (Or.inr rfl)) (by decide) (by decide)) (fun _ _ => rfl)) (@pv _ 3 _ _ (by rfl) (by first | exact Or.inl rfl | exact Or.inr (Or.inl rfl) | exact Or.inr (Or.inr rfl)) (by decide) (by decide)) (fun _ _ => rfl)) pe_int (nomark _)) (@pw_and _ _ _ _ _ _ _ (@pt_cmpR _ _ _ _ _ _ _ _ op_le (@pe_ix _ _ _ _ _ _ _ ix_list (@pe_ix _ _ _ _ _ _ _ ix_list (@pv _ 0 _ _ (by rfl) (by first | exact Or.inl rfl | exact Or.inr (Or.inl rfl) | exact Or.inr (Or.inr rfl)) (by decide) (by decide)) (@pv _ 3 _ _ (by rfl) (by first | exact Or.inl rfl | exact Or.inr (Or.inl rfl) | exact Or.inr (Or.inr rfl)) (by decide) (by decide)) (fun _ _ => rfl)) (@pv _ 4 _ _ (by rfl) (by first | exact Or.inl rfl | exact Or.inr (Or.inl rfl) | exact Or.inr (Or.inr rfl)) (by decide) (by decide)) (fun _ _ => rfl)) pe_int (nomark _)) (@pw_and1 _ _ _ _ (@pt_cmpR _ _ _ _ _ _ _ _ op_gt (@pe_ix _ _ _ _ _ _ _ ix_list (@pe_ix _ _ _ _ _ _ _ ix_list (@pv _ 0 _ _ (by rfl) (by first | exact Or.inl rfl | exact Or.inr (Or.inl rfl) | exact Or.inr (Or.inr rfl)) (by decide) (by decide)) (@pv _ 2 _ _ (by rfl) (by first | exact Or.inl rfl | exact Or.inr (Or.inl rfl) | exact Or.inr (Or.inr rfl)) (by decide) (by decide)) (fun _ _ => rfl)) (@pv _ 4 _ _ (by rfl) (by first | exact Or.inl rfl | exact Or.inr (Or.inl rfl) | exact Or.inr (Or.inr rfl)) (by decide) (by decide)) (fun _ _ => rfl)) pe_int (nomark _))))).pt (@pss_one _ _ _ (@ps_ret _ _ _ _ pe_bl)) pss_nil)) (by intro _; rfl))))) (by intro _; rfl))) (by intro _; rfl)) (@pss_one _ _ _ (@ps_ret _ _ _ _ pe_bl))), ?_⟩
  have cell : ∀ {i j : Nat} {e f : En}, es[i]? = some e → es[j]? = some f → ∃ a, (as.map V.ref)[i]? = some (.ref a) ∧ H a = some (.lst (rowOf e es)) ∧ (rowOf e es)[j]? = some (.int (cmpZ e.key2 f.key2)) := by
    intro i j e f h1 h2
    have hi := (List.getElem?_eq_some_iff.mp h1).1
    have ha : as[i]? = some (as[i]'(by omega)) := List.getElem?_eq_getElem _
    exact ⟨_, by rw [List.getElem?_map, ha]; rfl, has i _ e ha h1, by rw [rowOf, List.getElem?_map, h2]; rfl⟩
  have tree : ∀ {i : Nat} {e : En}, es[i]? = some e → (es.map En.r)[i]? = some (.ref e.a) := fun h => by rw [List.getElem?_map, h]; rfl
  have kd : ∀ {e : En}, e ∈ es → KD (kt e.key2) := fun h => ky_kd (hok _ h).key
  walk_at "rd"
  refine tFor_range1 (n := es.length) (fun i σ H' => ∃ o2 o3 o4, σ = [some (.ref R), some (.ref l), o2, o3, o4] ∧ H' = H) (fun R r => ?_) (by omega) ⟨_, _, _, rfl, rfl⟩ ?_ ?_
  · walk_at "rd"
    exact ⟨_, .inl (SqL.of hl), by rw [List.length_map]; exact r⟩
  · rintro i σ H' hi ⟨o2, o3, o4, rfl, rfl⟩
    obtain ⟨e, he, hem⟩ := nat_at hi
    walk_at "rd"
    refine tFor_range1 (n := es.length) (fun j σ H2 => ∃ o3 o4, σ = [some (.ref R), some (.ref l), some (.int i), o3, o4] ∧ H2 = H') (fun R r => ?_) (by omega) ⟨_, _, rfl, rfl⟩ ?_ ?_
    · walk_at "rd"
      exact ⟨_, .inl (SqL.of hl), by rw [List.length_map]; exact r⟩
    · rintro j σ H2 hj ⟨o3, o4, rfl, rfl⟩
      obtain ⟨f, hf, hfm⟩ := nat_at hj
      obtain ⟨a1, g1, g2, g3⟩ := cell he hf
      obtain ⟨a2, k1, k2, k3⟩ := cell hf he
      have hoe := hok e hem
      have hof := hok f hfm
      have heq : e.key2 = f.key2 ↔ e.d = f.d := ⟨fun h => (ky_sim (.use n0) e.d f.d e.key2 f.key2 hoe.key hof.key).2 h, fun h => by
        have h1 := hoe.key
        rw [h, hof.key] at h1
        exact (Option.some.inj h1).symm⟩
      have hcc := cmp_cases (kd hem) (kd hfm)
      refine cut2 (fun σ H' => σ = [some (.ref R), some (.ref l), some (.int i), some (.int j), o4] ∧ H' = H2) ?_ ?_
      · rintro σ H3 ⟨rfl, rfl⟩
        walk_at "rd"
        refine tFor_range1 (n := es.length) (fun k σ H2 => ∃ o4, σ = [some (.ref R), some (.ref l), some (.int i), some (.int j), o4] ∧ H2 = H3) (fun R r => ?_) (by omega) ⟨_, rfl, rfl⟩ ?_ ?_
        · walk_at "rd"
          exact ⟨_, .inl (SqL.of hl), by rw [List.length_map]; exact r⟩
        · rintro k σ H2 hk ⟨o4, rfl, rfl⟩
          obtain ⟨h, hh, hhm⟩ := nat_at hk
          obtain ⟨a3, l1, l2, l3⟩ := cell hf hh
          obtain ⟨a4, n1, n2, n3⟩ := cell he hh
          have htr := cmp_trans (kd hem) (kd hfm) (kd hhm)
          walk_at "rd"
          refine ⟨_, SqL.of hR, _, atI_nat g1, _, rfl, _, SqL.of g2, _, atI_nat g3, ?_⟩
          refine ⟨_, rfl, ite2 (fun c1 => ⟨_, SqL.of hR, _, atI_nat l1, _, rfl, _, SqL.of l2, _, atI_nat l3, _, rfl, ite2 (fun c2 => ?_) fun _ => trivial⟩) fun _ => trivial⟩
          exact ⟨_, SqL.of hR, _, atI_nat n1, _, rfl, _, SqL.of n2, _, atI_nat n3, _, rfl, iteN (by have := htr c1 c2; omega) trivial⟩
        · rintro σ H2 ⟨o4, rfl, rfl⟩
          exact ⟨_, _, rfl, rfl⟩
      · intro N hN
        have hdec : decide (V.int (cmpZ e.key2 f.key2) = V.int 0) = e.d.eqv f.d := by
          rw [Bool.eq_iff_iff, decide_eq_true_eq, hoe.nb.eqv hof.nb, ← heq, V.int.injEq]
          rcases hcc with ⟨c, d, _⟩ | ⟨c, _, d, _⟩ | ⟨c, _, d, _⟩
          · exact ⟨fun _ => c, fun _ => d⟩
          · exact ⟨fun h => by omega, fun h => (c h).elim⟩
          · exact ⟨fun h => by omega, fun h => (c h).elim⟩
        have hneg : cmpZ e.key2 f.key2 = 0 - cmpZ f.key2 e.key2 := by
          rcases hcc with ⟨_, c, d⟩ | ⟨_, _, c, d⟩ | ⟨_, _, c, d⟩ <;> rw [c, d] <;> rfl
        walk_at "rd"
        refine ⟨_, SqL.of hR, _, atI_nat g1, _, rfl, _, SqL.of g2, _, atI_nat g3, rfl, _, SqL.of hl, _, atI_nat (tree he), _, rfl, _, SqT.of hoe.at_, _, rfl, _, SqL.of hl, _, atI_nat (tree hf), _, rfl, _, SqT.of hof.at_, _, rfl, _, hoe.vd.den, _, hof.vd.den, ?_, by rw [hdec]; cases e.d.eqv f.d <;> rfl, iteN (by rw [hdec]; simp) ?_⟩
        · have := hoe.dep; have := hoe.hi; omega
        refine ⟨_, SqL.of hR, _, atI_nat g1, _, rfl, _, SqL.of g2, _, atI_nat g3, _, SqL.of hR, _, atI_nat k1, _, rfl, _, SqL.of k2, _, atI_nat k3, _, rfl, rfl, iteN (by rw [hneg]; simp) ?_⟩
        refine ⟨_, SqL.of hl, _, atI_nat (tree he), _, rfl, _, SqT.of hoe.at_, _, rfl, ?_⟩
        refine ⟨_, SqL.of hl, _, atI_nat (tree hf), _, rfl, _, SqT.of hof.at_, _, rfl, _, rfl, _, rfl, ite2 (fun c1 => ?_) fun _ => hN _ _ ⟨rfl, rfl⟩⟩
        have hsz : cmpZ e.key2 f.key2 = -1 := cmp_size (show e.n < f.n by omega)
        exact ⟨_, SqL.of hR, _, atI_nat g1, _, rfl, _, SqL.of g2, _, atI_nat g3, rfl, iteN (by rw [hsz]; simp) (hN _ _ ⟨rfl, rfl⟩)⟩
    · rintro σ H2 ⟨o3, o4, rfl, rfl⟩
      exact ⟨_, _, _, rfl, rfl⟩
  · rintro σ H2 ⟨o2, o3, o4, rfl, rfl⟩
    walk_at "rd"
    exact q
end KW
set_option maxHeartbeats 8000000
namespace KW
open PySem L2

variable {g : Gx}
variable {bk : Bk}
variable {m : Nat}
local macro_rules | `(tactic| walk_at "gn") => `(tactic| simp only [gName, List.set_cons_zero, List.set_cons_succ])

local macro_rules | `(tactic| walk_at "rd") => `(tactic| simp (config := { failIfUnchanged := false, maxSteps := 10000000 }) only [L2.start, cxOf_K, nox_K, List.map_cons, List.map_nil, List.length_cons, List.length_nil, List.cons_append, List.nil_append, List.replicate_succ, List.replicate_zero, Nat.zero_add, Nat.reduceAdd, Nat.reduceSub, Nat.sub_self, tSeq, tIfS, tTest, tOp, tC, tVar, rI0, rI, rU, tUn, tRet, tRetN, tDrop, tNext, tBreak, tCont, tAsg, gName, gNil, gCons, tCons, tNil, tCB, tCall, tTry, tTryAs, tRaise, sFld, tFld, tMake, tMeth, Ends.gone, caught_K, tB, tAnd, tOr, tNot, tAndV, tOrV, tNotV, tIf, tChain, tNoPart, tPart, tSl, tNever, tAug, rIxL, rIxT, rSlL, tLst, tTup, gTup, tRev, tLZ, tConT, tDict0, rBits, rFind, rIn, tBM, tBM0, rAppend, rReverse, rEq, rNe, scal_ii, scal_ss, rCat, rSetL, gSub, ipI, capSt, List.getD_cons_zero, List.getD_cons_succ, decide_true, not_true_eq_false, not_false_eq_true,
  exists_eq_left', exists_eq_left, exists_eq', exists_eq, exists_and_left, and_assoc, Option.some.injEq, V.int.injEq, V.bl.injEq, V.ref.injEq, V.str.injEq, List.getElem?_cons_zero, List.getElem?_cons_succ, List.set_cons_zero, List.set_cons_succ, List.cons.injEq, and_true, true_and, List.append_nil, decide_eq_true_eq, Bool.not_eq_true', decide_eq_false_iff_not, Bool.not_not, Bool.not_true, Bool.not_false, Bool.true_eq_false, Bool.false_eq_true, if_true, if_false, ite_true, ite_false])

theorem mk_nm (c : Int) : Mk (nm c 0) (nm c 1) (nm c 2) := by
  have hl : ∀ k, (nm c k).length ≤ 8 := fun k => by rw [nm_len]; omega
  exact ⟨nm_plc (n := 3) (by decide) (by decide), nm_plc (n := 3) (by decide) (by decide), nm_ok c 0, nm_ok c 1, nm_ok c 2, hl 0, hl 1, hl 2⟩
end KW
set_option maxHeartbeats 8000000
namespace KW
open PySem L2

variable {g : Gx}
variable {bk : Bk}
variable {m : Nat}
local macro_rules | `(tactic| walk_at "gn") => `(tactic| simp only [gName, List.set_cons_zero, List.set_cons_succ])

local macro_rules | `(tactic| walk_at "rd") => `(tactic| simp (config := { failIfUnchanged := false, maxSteps := 10000000 }) only [L2.start, cxOf_K, nox_K, List.map_cons, List.map_nil, List.length_cons, List.length_nil, List.cons_append, List.nil_append, List.replicate_succ, List.replicate_zero, Nat.zero_add, Nat.reduceAdd, Nat.reduceSub, Nat.sub_self, tSeq, tIfS, tTest, tOp, tC, tVar, rI0, rI, rU, tUn, tRet, tRetN, tDrop, tNext, tBreak, tCont, tAsg, gName, gNil, gCons, tCons, tNil, tCB, tCall, tTry, tTryAs, tRaise, sFld, tFld, tMake, tMeth, Ends.gone, caught_K, tB, tAnd, tOr, tNot, tAndV, tOrV, tNotV, tIf, tChain, tNoPart, tPart, tSl, tNever, tAug, rIxL, rIxT, rSlL, tLst, tTup, gTup, tRev, tLZ, tConT, tDict0, rBits, rFind, rIn, tBM, tBM0, rAppend, rReverse, rEq, rNe, scal_ii, scal_ss, rCat, rSetL, gSub, ipI, capSt, List.getD_cons_zero, List.getD_cons_succ, decide_true, not_true_eq_false, not_false_eq_true,
  exists_eq_left', exists_eq_left, exists_eq', exists_eq, exists_and_left, and_assoc, Option.some.injEq, V.int.injEq, V.bl.injEq, V.ref.injEq, V.str.injEq, List.getElem?_cons_zero, List.getElem?_cons_succ, List.set_cons_zero, List.set_cons_succ, List.cons.injEq, and_true, true_and, List.append_nil, decide_eq_true_eq, Bool.not_eq_true', decide_eq_false_iff_not, Bool.not_not, Bool.not_true, Bool.not_false, Bool.true_eq_false, Bool.false_eq_true, if_true, if_false, ite_true, ite_false])

theorem body_law {k : Nat}  (F_law_book : g.Fn k "_law_book" ["_law_script"] (sp_law_book g.K)) (F_law_leaf : g.Fn k "_law_leaf" ["_law_branch", "_law_cell"] (sp_law_leaf g.K)) (F_law_put : g.Fn k "_law_put" ["_law_stack", "_law_branches", "_law_cell"] (sp_law_put g.K)) (F_law_table : g.Fn k "_law_table" ["_law_book_here", "_law_some"] (sp_law_table g.K)) (F_law_in_order : g.Fn k "_law_in_order" ["_law_rows", "_law_some"] (sp_law_in_order g.K)) (b_range : g.mg "range" = none) : Body g k ["_law_script", "_law_book_here", "_law_branches", "_law_stack", "_law_cell", "_law_some", "_law_rows"] "law" s_law (spTrue g.K) := by
  refine fun f_ cdv A outer s H vs Q E hr h => ?_
  obtain ⟨a, ns, rfl, hS, hl, q⟩ := h
  refine ⟨_, (@pss_cons _ _ _ _ _ (@ps_set _ _ (1) _ _ _ _ sc_law.nd rfl (Or.inl rfl) (@pe_fn _ _ _ _ _ _ _ _ _ _ _ _ F_law_book hr (@pa_cons _ _ _ _ _ (@pv _ 0 _ _ (by rfl) (by first | exact Or.inl rfl | exact Or.inr (Or.inl rfl) | exact Or.inr (Or.inr rfl)) (by decide) (by decide)) pa_nil (by rfl)) (by omega) (by rfl) (by rfl) (by decide) (by rfl) (by rfl)) (by rfl) (by first | exact .inl rfl | exact .inr rfl | assumption)) (@pss_cons _ _ _ _ _ (@ps_set _ _ (2) _ _ _ _ sc_law.nd rfl (Or.inr rfl) (@pe_ix _ _ _ _ _ _ _ ix_tup (@pe_ix _ _ _ _ _ _ _ ix_tup (@pe_ix _ _ _ _ _ _ _ ix_list (@pv _ 1 _ _ (by rfl) (by first | exact Or.inl rfl | exact Or.inr (Or.inl rfl) | exact Or.inr (Or.inr rfl)) (by decide) (by decide)) pe_int (fun _ _ => rfl)) pe_int (fun _ _ => rfl)) pe_int (fun _ _ => rfl)) (by rfl) (by first | exact .inl rfl | exact .inr rfl | assumption)) (@pss_cons _ _ _ _ _ (@ps_setC _ (3) _ _ _ _ _ _ _ _ _ ([none, some 2]) ((["_law_k", "_law_branches"] : List Str)) _ (gName 0) _ _ sc_law.nd rfl (Or.inl rfl) (.own (.cap (i := 2) rfl rfl (by first | exact Or.inl rfl | exact Or.inr rfl) .nil)) rfl (@pi_range1 _ _ _ _ _ _ rfl b_range (@pa_cons _ _ _ _ _ pe_int pa_nil (by rfl)) (by rfl)) (fun cl C s₀ H₀ fp pn => (@pg_name _ _ (0) _ (show List.Nodup (["_law_k", "_law_branches"] : List Str) by decide +kernel) rfl (Or.inl rfl) (Or.inr rfl))) (fun cl C s₀ H₀ fp pn => pts_nil) (fun cl C s₀ H₀ fp pn => (@pe_fn _ _ _ _ _ _ _ _ _ _ _ _ F_law_leaf hr (@pa_cons _ _ _ _ _ (@pe_ix _ _ _ _ _ _ _ (ix_tupK (K := g.K)) (@pv _ 1 _ _ (by rfl) (by first | exact Or.inl rfl | exact Or.inr (Or.inl rfl) | exact Or.inr (Or.inr rfl)) (by decide) (by decide)) pe_int (fun _ _ => rfl)) (@pa_cons _ _ _ _ _ (@pv _ 0 _ _ (by rfl) (by first | exact Or.inl rfl | exact Or.inr (Or.inl rfl) | exact Or.inr (Or.inr rfl)) (by decide) (by decide)) pa_nil (by rfl)) (by rfl)) (by omega) (by rfl) (by rfl) (by decide) (by rfl) (by rfl))) (by intro x hx; simp at hx; first | (subst hx; exact Or.inl rfl) | (rcases hx with rfl | rfl <;> exact Or.inl rfl) | (rcases hx with rfl | rfl | rfl <;> exact Or.inl rfl)) (by rfl) (by decide) (by decide +kernel) (by intro _; rfl) (by rfl) (by first | exact .inl rfl | exact .inr rfl | assumption)) (@pss_cons _ _ _ _ _ (@ps_for _ _ _ _ _ _ _ _ PassesOwn.never rfl (@pi_list _ _ _ _ (@pe_slice _ _ _ _ _ _ _ _ _ _ sl_list (@pv _ 0 _ _ (by rfl) (by first | exact Or.inl rfl | exact Or.inr (Or.inl rfl) | exact Or.inr (Or.inr rfl)) (by decide) (by decide)) (@po_some _ _ _ pe_int) (@po_some _ _ _ pe_int))) (@pg_name _ _ (4) _ sc_law.nd rfl (Or.inl rfl) (by first | exact .inl rfl | exact .inr rfl | assumption)) (@pss_one _ _ _ (@ps_set _ _ (3) _ _ _ _ sc_law.nd rfl (Or.inl rfl) (@pe_fn _ _ _ _ _ _ _ _ _ _ _ _ F_law_put hr (@pa_cons _ _ _ _ _ (@pv _ 3 _ _ (by rfl) (by first | exact Or.inl rfl | exact Or.inr (Or.inl rfl) | exact Or.inr (Or.inr rfl)) (by decide) (by decide)) (@pa_cons _ _ _ _ _ (@pv _ 2 _ _ (by rfl) (by first | exact Or.inl rfl | exact Or.inr (Or.inl rfl) | exact Or.inr (Or.inr rfl)) (by decide) (by decide)) (@pa_cons _ _ _ _ _ (@pv _ 4 _ _ (by rfl) (by first | exact Or.inl rfl | exact Or.inr (Or.inl rfl) | exact Or.inr (Or.inr rfl)) (by decide) (by decide)) pa_nil (by rfl)) (by rfl)) (by rfl)) (by omega) (by rfl) (by rfl) (by decide) (by rfl) (by rfl)) (by rfl) (by first | exact .inl rfl | exact .inr rfl | assumption))) (by intro _; rfl)) (@pss_cons _ _ _ _ _ (@ps_set _ _ (5) _ _ _ _ sc_law.nd rfl (Or.inl rfl) (@pe_slice _ _ _ _ _ _ _ _ _ _ sl_list (@pv _ 3 _ _ (by rfl) (by first | exact Or.inl rfl | exact Or.inr (Or.inl rfl) | exact Or.inr (Or.inr rfl)) (by decide) (by decide)) (@po_some _ _ _ (@pe_un _ _ _ _ _ _ un_neg pe_int)) po_none) (by rfl) (by first | exact .inl rfl | exact .inr rfl | assumption)) (@pss_cons _ _ _ _ _ (@ps_set _ _ (6) _ _ _ _ sc_law.nd rfl (Or.inl rfl) (@pe_fn _ _ _ _ _ _ _ _ _ _ _ _ F_law_table hr (@pa_cons _ _ _ _ _ (@pv _ 1 _ _ (by rfl) (by first | exact Or.inl rfl | exact Or.inr (Or.inl rfl) | exact Or.inr (Or.inr rfl)) (by decide) (by decide)) (@pa_cons _ _ _ _ _ (@pv _ 5 _ _ (by rfl) (by first | exact Or.inl rfl | exact Or.inr (Or.inl rfl) | exact Or.inr (Or.inr rfl)) (by decide) (by decide)) pa_nil (by rfl)) (by rfl)) (by omega) (by rfl) (by rfl) (by decide) (by rfl) (by rfl)) (by rfl) (by first | exact .inl rfl | exact .inr rfl | assumption)) (@pss_one _ _ _ (@ps_ret _ _ _ _ (@pe_and _ _ _ _ _ _ _ (@pe_cmpR _ _ _ _ _ _ _ _ op_notN (@pv _ 6 _ _ (by rfl) (by first | exact Or.inl rfl | exact Or.inr (Or.inl rfl) | exact Or.inr (Or.inr rfl)) (by decide) (by decide)) pe_non (nomark _)) (@pe_one _ _ _ _ _ (@pe_fn _ _ _ _ _ _ _ _ _ _ _ _ F_law_in_order hr (@pa_cons _ _ _ _ _ (@pv _ 6 _ _ (by rfl) (by first | exact Or.inl rfl | exact Or.inr (Or.inl rfl) | exact Or.inr (Or.inr rfl)) (by decide) (by decide)) (@pa_cons _ _ _ _ _ (@pv _ 5 _ _ (by rfl) (by first | exact Or.inl rfl | exact Or.inr (Or.inl rfl) | exact Or.inr (Or.inr rfl)) (by decide) (by decide)) pa_nil (by rfl)) (by rfl)) (by omega) (by rfl) (by rfl) (by decide) (by rfl) (by rfl)))))))))))), ?_⟩
  generalize hn0 : nm (ns.getD 0 0 / 4) 0 = n0
  generalize hm0 : nm (ns.getD 1 0 / 7) 0 = m0
  generalize hm1 : nm (ns.getD 1 0 / 7) 1 = m1
  generalize hm2 : nm (ns.getD 1 0 / 7) 2 = m2
  have mk : Mk m0 m1 m2 := by
    have := mk_nm (ns.getD 1 0 / 7)
    rw [hm0, hm1, hm2] at this
    exact this
  refine cut3 (fun σ H' => ∃ (b br st : Addr) (lo hi : Int) (es : List En), σ = [some (.ref a), some (.ref b), some (.ref br), some (.ref st), none, none, none] ∧ Same H H' ∧ lo ≤ hi ∧ BookAt g.K H' b br m0 m1 m2 n0 lo hi ∧ H' st = some (.lst (es.map En.r)) ∧ es.length ≤ 2 ∧ ∀ e ∈ es, e.Ok (bkOf m0 m1 m2 n0 lo hi) n0 H') ?_ ?_
  · rintro σ H1 ⟨b, br, st, lo, hi, es, rfl, s1, hlh, hbk, hst, hel, hok⟩
    refine cut1 (fun σ H' => ∃ (st : Addr) (es : List En) (o4 : Option V), σ = [some (.ref a), some (.ref b), some (.ref br), some (.ref st), o4, none, none] ∧ Same H1 H' ∧ H' st = some (.lst (es.map En.r)) ∧ es.length ≤ 63 ∧ ∀ e ∈ es, e.Ok (bkOf m0 m1 m2 n0 lo hi) n0 H') ?_ ?_
    · rintro σ H2 ⟨st, es, o4, rfl, s2, hst, hel, hok⟩
      walk_at "rd"
      refine ⟨_, SqL.of hst, fun p hp => ?_⟩
      obtain ⟨k, hk⟩ := cutV_from (es.map En.r) (some (-4))
      rw [hk, ← List.map_drop]
      have u1 := Same.upd_new hp (.lst ((es.drop k).map En.r))
      have hok1 : ∀ e ∈ es.drop k, e.Ok (bkOf m0 m1 m2 n0 lo hi) n0 (upd H2 p (.lst ((es.drop k).map En.r))) := fun e he => (hok e (List.mem_of_mem_drop he)).keep u1
      refine ⟨b, br, p, m0, m1, m2, n0, lo, hi, es.drop k, rfl, hbk.keep (s2.trans u1), upd_same, by rw [List.length_drop]; omega, hok1, fun R H3 s3 htb => iteY (by simp) ?_⟩
      exact ⟨R, p, _, n0, es.drop k, rfl, s3 _ _ upd_same, by rw [List.length_drop]; omega, fun e he => (hok1 e he).keep s3, htb, q _⟩
    · intro N hN
      walk_at "rd"
      refine tFor_listG (K := g.K) (fun cl xs H2 => xs = ((ns.drop 2).take 61).map V.int ∧ Same H1 H2 ∧ H2 cl = some (.lst xs)) (fun R r => ?_) ?_
      · walk_at "rd"
        refine ⟨_, s1.seq hS, fun cl hcl => ?_⟩
        have e0 : cutV (ns.map V.int) (some 2) (some 63) = ((ns.drop 2).take 61).map V.int := by
          have := cutV_nn (ns.map V.int) 2 63
          rw [show ((2 : Nat) : Int) = 2 from rfl, show ((63 : Nat) : Int) = 63 from rfl] at this
          rw [this, ← List.map_drop, ← List.map_take]
        rw [e0]
        exact r cl _ _ (SqL.of upd_same) ⟨rfl, .upd_new hcl _, upd_same⟩
      · rintro cl xs H2 hcl ⟨rfl, s2, hcl2⟩
        refine ⟨fun i σ H' => ∃ (st : Addr) (es : List En) (o4 : Option V), σ = [some (.ref a), some (.ref b), some (.ref br), some (.ref st), o4, none, none] ∧ Same H2 H' ∧ H' st = some (.lst (es.map En.r)) ∧ es.length ≤ 2 + i ∧ ∀ e ∈ es, e.Ok (bkOf m0 m1 m2 n0 lo hi) n0 H', ⟨st, es, _, rfl, .refl _, s2 _ _ hst, by omega, fun e he => (hok e he).keep s2⟩, fun i σ H' hi ⟨_, _, _, _, s, _⟩ => SqL.of (s _ _ hcl2), ?_, ?_⟩
        · rintro i v σ H3 hv ⟨st, es, o4, rfl, s3, hst, hel, hok⟩
          obtain ⟨z, hz, rfl⟩ := getI hv
          have hil := (List.getElem?_eq_some_iff.mp hz).1
          rw [List.length_take] at hil
          walk_at "rd"
          refine ⟨st, br, m0, m1, m2, n0, lo, hi, z, es, rfl, mk, hst, by omega, hok, (hbk.keep (s2.trans s3)).brs, hlh, fun st' es' H4 s4 h1 h2 h3 => ?_⟩
          exact ⟨st', rfl, s3.trans s4, es', h1, by omega, h3⟩
        · rintro σ H3 ⟨st, es, o4, rfl, s3, hst, hel, hok⟩
          refine hN _ _ ⟨st, es, o4, rfl, s2.trans s3, hst, ?_, hok⟩
          rw [List.length_map, List.length_take] at hel
          omega
  · intro N hN
    walk_at "rd"
    refine ⟨a, ns, rfl, hS, hl, fun b br lo hi H1 s1 hlh hbk => ?_⟩
    rw [hm0, hm1, hm2, hn0] at hbk
    obtain ⟨r0, t0, x1, p1, p2, p3⟩ := hbk.path
    walk_at "rd"
    refine ⟨_, SqL.of p1, _, rfl, _, rfl, _, SqT.of p2, _, rfl, _, rfl, _, SqT.of p3, _, rfl, ?_⟩
    obtain ⟨e0, e1, e2, lf, y1, y2, c0, c1, c2, c3, c4⟩ := hbk.brs
    refine tLC_rangeR (n := 2) (fun _ y H' => ∃ (t p : Addr) (i : Int) (n : Nat), y = .ref t ∧ H' t = some (.tup [.ref p, .int (n : Nat), .int 1]) ∧ H' p = some (.tup [.str (S m0), .int i]) ∧ TR (bkOf m0 m1 m2 n0 lo hi) n0 (.tuple [.str (S m0), .int i]) n 1) (fun _ y H' H'' ⟨t, p, i, n, h0, h1, h2, h3⟩ s => ⟨t, p, i, n, h0, s _ _ h1, s _ _ h2, h3⟩) (fun _ y H' q zs zs' ⟨t, p, i, n, h0, h1, h2, h3⟩ hq => ⟨t, p, i, n, h0, by rw [upd_ne (ne_of h1 hq (by intro z; cases z))]; exact h1, by rw [upd_ne (ne_of h2 hq (by intro z; cases z))]; exact h2, h3⟩) (fun R r => by walk_at "rd"; exact r) (by omega) ?_ ?_
    · intro i H' hi' sm R r
      walk_at "rd"
      exact ⟨_, SqT.of (sm _ _ c0), _, atI30 _ _ _, e0, lf, m0, lo, hi, _, rfl, sm _ _ c1, sm _ _ c2, hlh, mk.k0, mk.l0, fun t p i n H4 s4 ht hp htr => r _ _ s4 ⟨t, p, i, n, rfl, ht, hp, htr m1 m2 n0⟩⟩
    · intro D ys H' hD sm hd hyl hys
      have key : ∃ es : List En, es.map En.r = ys ∧ ∀ e ∈ es, e.Ok (bkOf m0 m1 m2 n0 lo hi) n0 H' := by
        match ys, hyl, hys with
        | [y, z], _, hys =>
          obtain ⟨t, p, i, n, rfl, h1, h2, h3⟩ := hys 0 y rfl
          obtain ⟨t', p', i', n', rfl, h1', h2', h3'⟩ := hys 1 z rfl
          obtain ⟨e, rfl, he⟩ := leaf_ok mk h1 h2 h3
          obtain ⟨f, rfl, hf⟩ := leaf_ok mk h1' h2' h3'
          refine ⟨[e, f], rfl, fun x hx => ?_⟩
          rcases List.mem_cons.mp hx with rfl | hx
          · exact he
          · rw [List.mem_singleton] at hx; subst hx; exact hf
      obtain ⟨es, rfl, hok⟩ := key
      rw [List.length_map] at hyl
      exact hN _ _ ⟨b, br, D, lo, hi, es, rfl, s1.trans sm, hlh, hbk.keep sm, hd, by omega, hok⟩
end KW
set_option maxHeartbeats 8000000
namespace KW
open PySem L2

variable {g : Gx}
variable {bk : Bk}
variable {m : Nat}
local macro_rules | `(tactic| walk_at "gn") => `(tactic| simp only [gName, List.set_cons_zero, List.set_cons_succ])

local macro_rules | `(tactic| walk_at "rd") => `(tactic| simp (config := { failIfUnchanged := false, maxSteps := 10000000 }) only [L2.start, cxOf_K, nox_K, List.map_cons, List.map_nil, List.length_cons, List.length_nil, List.cons_append, List.nil_append, List.replicate_succ, List.replicate_zero, Nat.zero_add, Nat.reduceAdd, Nat.reduceSub, Nat.sub_self, tSeq, tIfS, tTest, tOp, tC, tVar, rI0, rI, rU, tUn, tRet, tRetN, tDrop, tNext, tBreak, tCont, tAsg, gName, gNil, gCons, tCons, tNil, tCB, tCall, tTry, tTryAs, tRaise, sFld, tFld, tMake, tMeth, Ends.gone, caught_K, tB, tAnd, tOr, tNot, tAndV, tOrV, tNotV, tIf, tChain, tNoPart, tPart, tSl, tNever, tAug, rIxL, rIxT, rSlL, tLst, tTup, gTup, tRev, tLZ, tConT, tDict0, rBits, rFind, rIn, tBM, tBM0, rAppend, rReverse, rEq, rNe, scal_ii, scal_ss, rCat, rSetL, gSub, ipI, capSt, List.getD_cons_zero, List.getD_cons_succ, decide_true, not_true_eq_false, not_false_eq_true,
  exists_eq_left', exists_eq_left, exists_eq', exists_eq, exists_and_left, and_assoc, Option.some.injEq, V.int.injEq, V.bl.injEq, V.ref.injEq, V.str.injEq, List.getElem?_cons_zero, List.getElem?_cons_succ, List.set_cons_zero, List.set_cons_succ, List.cons.injEq, and_true, true_and, List.append_nil, decide_eq_true_eq, Bool.not_eq_true', decide_eq_false_iff_not, Bool.not_not, Bool.not_true, Bool.not_false, Bool.true_eq_false, Bool.false_eq_true, if_true, if_false, ite_true, ite_false])

structure Top (K : PySem.W.Frag) (mg : Str → Option Value)  : Prop where
  f_law_whole : ∀ P w base, (Gx.mk P w K mg base).Raw "_law_whole" "_law_whole" s_law_whole ["_law_found"]
  f_law_cell_at : ∀ P w base, (Gx.mk P w K mg base).Raw "_law_cell_at" "_law_cell_at" s_law_cell_at ["_law_script", "_law_k"]
  f_is_whole_number : ∀ P w base, (Gx.mk P w K mg base).Raw "is_whole_number" "is_whole_number" s_is_whole_number ["thing"]
  f_branch_place : ∀ P w base, (Gx.mk P w K mg base).Raw "branch_place" "branch_place" s_branch_place ["branches", "mark"]
  f_shape_of : ∀ P w base, (Gx.mk P w K mg base).Raw "shape_of" "shape_of" s_shape_of ["book", "name"]
  f_has_mark : ∀ P w base, (Gx.mk P w K mg base).Raw "has_mark" "has_mark" s_has_mark ["branches", "value"]
  f_has_form : ∀ P w base, (Gx.mk P w K mg base).Raw "has_form" "has_form" s_has_form ["shape", "value"]
  f_things_within : ∀ P w base, (Gx.mk P w K mg base).Raw "things_within" "things_within" s_things_within ["book", "shape", "value"]
  f_sum_of_sizes : ∀ P w base, (Gx.mk P w K mg base).Raw "sum_of_sizes" "sum_of_sizes" s_sum_of_sizes ["keys"]
  f_list_key : ∀ P w base, (Gx.mk P w K mg base).Raw "list_key" "list_key" s_list_key ["shape", "keys"]
  f_key_made : ∀ P w base, (Gx.mk P w K mg base).Raw "key_made" "key_made" s_key_made ["shape", "value", "keys"]
  f_weighed : ∀ P w base, (Gx.mk P w K mg base).Raw "weighed" "weighed" s_weighed ["book", "shape", "value"]
  f_key_or_refusal : ∀ P w base, (Gx.mk P w K mg base).Raw "key_or_refusal" "key_or_refusal" s_key_or_refusal ["book", "shape", "value"]
  f_compared : ∀ P w base, (Gx.mk P w K mg base).Raw "compared" "compared" s_compared ["book", "shape", "one", "other"]
  f_law_name : ∀ P w base, (Gx.mk P w K mg base).Raw "_law_name" "_law_name" s_law_name ["_law_cell", "_law_k"]
  f_law_book : ∀ P w base, (Gx.mk P w K mg base).Raw "_law_book" "_law_book" s_law_book ["_law_script"]
  f_law_leaf : ∀ P w base, (Gx.mk P w K mg base).Raw "_law_leaf" "_law_leaf" s_law_leaf ["_law_branch", "_law_cell"]
  f_law_put : ∀ P w base, (Gx.mk P w K mg base).Raw "_law_put" "_law_put" s_law_put ["_law_stack", "_law_branches", "_law_cell"]
  f_law_copy : ∀ P w base, (Gx.mk P w K mg base).Raw "_law_copy" "_law_copy" s_law_copy ["_law_value"]
  f_law_table : ∀ P w base, (Gx.mk P w K mg base).Raw "_law_table" "_law_table" s_law_table ["_law_book_here", "_law_some"]
  f_law_in_order : ∀ P w base, (Gx.mk P w K mg base).Raw "_law_in_order" "_law_in_order" s_law_in_order ["_law_rows", "_law_some"]
  c_OF_ONE_PART : ∀ P w base, (Gx.mk P w K mg base).ConT "OF_ONE_PART" ([.str "many", .str "rising", .str "unlike"])
  b_all : mg "all" = none
  b_bool : mg "bool" = none
  b_enumerate : mg "enumerate" = none
  b_int : mg "int" = none
  b_isinstance : mg "isinstance" = none
  b_len : mg "len" = none
  b_list : mg "list" = none
  b_max : mg "max" = none
  b_range : mg "range" = none
  b_str : mg "str" = none
  b_sum : mg "sum" = none
  b_tuple : mg "tuple" = none
  b_zip : mg "zip" = none
theorem law_body {K : PySem.W.Frag} {mg : Str → Option Value}  (t : Top K mg ) (P : Program) (w : World) (base : Heap) :
    Body (Gx.mk P w K mg base) 66 ["_law_script", "_law_book_here", "_law_branches", "_law_stack", "_law_cell", "_law_some", "_law_rows"] "law" s_law (spTrue K) := by
  have G_law_whole := ok_law_whole (g := Gx.mk P w K mg base) (t.f_law_whole P w base) t.b_bool t.b_int t.b_isinstance
  have G_law_cell_at := ok_law_cell_at (g := Gx.mk P w K mg base) (t.f_law_cell_at P w base) t.b_len
  have G_is_whole_number := ok_is_whole_number (g := Gx.mk P w K mg base) (t.f_is_whole_number P w base) t.b_bool t.b_int t.b_isinstance
  have G_branch_place := ok_branch_place (g := Gx.mk P w K mg base) (t.f_branch_place P w base) t.b_enumerate
  have G_shape_of := ok_shape_of (g := Gx.mk P w K mg base) (t.f_shape_of P w base) 
  have G_has_mark := ok_has_mark (g := Gx.mk P w K mg base) (k := 1) (t.f_has_mark P w base) (G_branch_place.mono (by decide)) t.b_isinstance t.b_len t.b_str t.b_tuple
  have G_has_form := ok_has_form (g := Gx.mk P w K mg base) (k := 2) (t.f_has_form P w base) (G_is_whole_number.mono (by decide)) (G_has_mark.mono (by decide)) t.b_all t.b_isinstance t.b_len t.b_list t.b_str t.b_tuple (t.c_OF_ONE_PART P w base)
  have G_things_within := ok_things_within (g := Gx.mk P w K mg base) (k := 1) (t.f_things_within P w base) (G_shape_of.mono (by decide)) (G_branch_place.mono (by decide)) t.b_list t.b_zip (t.c_OF_ONE_PART P w base)
  have G_sum_of_sizes := ok_sum_of_sizes (g := Gx.mk P w K mg base) (t.f_sum_of_sizes P w base) t.b_sum
  have G_list_key := ok_list_key (g := Gx.mk P w K mg base) (k := 1) (t.f_list_key P w base) (G_sum_of_sizes.mono (by decide)) t.b_len t.b_tuple
  have G_key_made := ok_key_made (g := Gx.mk P w K mg base) (k := 2) (t.f_key_made P w base) (G_branch_place.mono (by decide)) (G_sum_of_sizes.mono (by decide)) (G_list_key.mono (by decide)) t.b_len t.b_tuple
  have G_weighed_1 := ok_weighed (g := Gx.mk P w K mg base) (m := 0) (k := 3) (t.f_weighed P w base) (G_has_form.mono (by decide)) (G_things_within.mono (by decide)) (G_key_made.mono (by decide)) ((t.f_weighed P w base).none (fun _ _ _ _ h => no_weighed h))
  have G_weighed_2 := ok_weighed (g := Gx.mk P w K mg base) (m := 1) (k := 4) (t.f_weighed P w base) (G_has_form.mono (by decide)) (G_things_within.mono (by decide)) (G_key_made.mono (by decide)) (G_weighed_1.mono (by decide))
  have G_weighed_3 := ok_weighed (g := Gx.mk P w K mg base) (m := 2) (k := 5) (t.f_weighed P w base) (G_has_form.mono (by decide)) (G_things_within.mono (by decide)) (G_key_made.mono (by decide)) (G_weighed_2.mono (by decide))
  have G_weighed_4 := ok_weighed (g := Gx.mk P w K mg base) (m := 3) (k := 6) (t.f_weighed P w base) (G_has_form.mono (by decide)) (G_things_within.mono (by decide)) (G_key_made.mono (by decide)) (G_weighed_3.mono (by decide))
  have G_weighed_5 := ok_weighed (g := Gx.mk P w K mg base) (m := 4) (k := 7) (t.f_weighed P w base) (G_has_form.mono (by decide)) (G_things_within.mono (by decide)) (G_key_made.mono (by decide)) (G_weighed_4.mono (by decide))
  have G_weighed_6 := ok_weighed (g := Gx.mk P w K mg base) (m := 5) (k := 8) (t.f_weighed P w base) (G_has_form.mono (by decide)) (G_things_within.mono (by decide)) (G_key_made.mono (by decide)) (G_weighed_5.mono (by decide))
  have G_weighed_7 := ok_weighed (g := Gx.mk P w K mg base) (m := 6) (k := 9) (t.f_weighed P w base) (G_has_form.mono (by decide)) (G_things_within.mono (by decide)) (G_key_made.mono (by decide)) (G_weighed_6.mono (by decide))
  have G_weighed_8 := ok_weighed (g := Gx.mk P w K mg base) (m := 7) (k := 10) (t.f_weighed P w base) (G_has_form.mono (by decide)) (G_things_within.mono (by decide)) (G_key_made.mono (by decide)) (G_weighed_7.mono (by decide))
  have G_weighed_9 := ok_weighed (g := Gx.mk P w K mg base) (m := 8) (k := 11) (t.f_weighed P w base) (G_has_form.mono (by decide)) (G_things_within.mono (by decide)) (G_key_made.mono (by decide)) (G_weighed_8.mono (by decide))
  have G_weighed_10 := ok_weighed (g := Gx.mk P w K mg base) (m := 9) (k := 12) (t.f_weighed P w base) (G_has_form.mono (by decide)) (G_things_within.mono (by decide)) (G_key_made.mono (by decide)) (G_weighed_9.mono (by decide))
  have G_weighed_11 := ok_weighed (g := Gx.mk P w K mg base) (m := 10) (k := 13) (t.f_weighed P w base) (G_has_form.mono (by decide)) (G_things_within.mono (by decide)) (G_key_made.mono (by decide)) (G_weighed_10.mono (by decide))
  have G_weighed_12 := ok_weighed (g := Gx.mk P w K mg base) (m := 11) (k := 14) (t.f_weighed P w base) (G_has_form.mono (by decide)) (G_things_within.mono (by decide)) (G_key_made.mono (by decide)) (G_weighed_11.mono (by decide))
  have G_weighed_13 := ok_weighed (g := Gx.mk P w K mg base) (m := 12) (k := 15) (t.f_weighed P w base) (G_has_form.mono (by decide)) (G_things_within.mono (by decide)) (G_key_made.mono (by decide)) (G_weighed_12.mono (by decide))
  have G_weighed_14 := ok_weighed (g := Gx.mk P w K mg base) (m := 13) (k := 16) (t.f_weighed P w base) (G_has_form.mono (by decide)) (G_things_within.mono (by decide)) (G_key_made.mono (by decide)) (G_weighed_13.mono (by decide))
  have G_weighed_15 := ok_weighed (g := Gx.mk P w K mg base) (m := 14) (k := 17) (t.f_weighed P w base) (G_has_form.mono (by decide)) (G_things_within.mono (by decide)) (G_key_made.mono (by decide)) (G_weighed_14.mono (by decide))
  have G_weighed_16 := ok_weighed (g := Gx.mk P w K mg base) (m := 15) (k := 18) (t.f_weighed P w base) (G_has_form.mono (by decide)) (G_things_within.mono (by decide)) (G_key_made.mono (by decide)) (G_weighed_15.mono (by decide))
  have G_weighed_17 := ok_weighed (g := Gx.mk P w K mg base) (m := 16) (k := 19) (t.f_weighed P w base) (G_has_form.mono (by decide)) (G_things_within.mono (by decide)) (G_key_made.mono (by decide)) (G_weighed_16.mono (by decide))
  have G_weighed_18 := ok_weighed (g := Gx.mk P w K mg base) (m := 17) (k := 20) (t.f_weighed P w base) (G_has_form.mono (by decide)) (G_things_within.mono (by decide)) (G_key_made.mono (by decide)) (G_weighed_17.mono (by decide))
  have G_weighed_19 := ok_weighed (g := Gx.mk P w K mg base) (m := 18) (k := 21) (t.f_weighed P w base) (G_has_form.mono (by decide)) (G_things_within.mono (by decide)) (G_key_made.mono (by decide)) (G_weighed_18.mono (by decide))
  have G_weighed_20 := ok_weighed (g := Gx.mk P w K mg base) (m := 19) (k := 22) (t.f_weighed P w base) (G_has_form.mono (by decide)) (G_things_within.mono (by decide)) (G_key_made.mono (by decide)) (G_weighed_19.mono (by decide))
  have G_weighed_21 := ok_weighed (g := Gx.mk P w K mg base) (m := 20) (k := 23) (t.f_weighed P w base) (G_has_form.mono (by decide)) (G_things_within.mono (by decide)) (G_key_made.mono (by decide)) (G_weighed_20.mono (by decide))
  have G_weighed_22 := ok_weighed (g := Gx.mk P w K mg base) (m := 21) (k := 24) (t.f_weighed P w base) (G_has_form.mono (by decide)) (G_things_within.mono (by decide)) (G_key_made.mono (by decide)) (G_weighed_21.mono (by decide))
  have G_weighed_23 := ok_weighed (g := Gx.mk P w K mg base) (m := 22) (k := 25) (t.f_weighed P w base) (G_has_form.mono (by decide)) (G_things_within.mono (by decide)) (G_key_made.mono (by decide)) (G_weighed_22.mono (by decide))
  have G_weighed_24 := ok_weighed (g := Gx.mk P w K mg base) (m := 23) (k := 26) (t.f_weighed P w base) (G_has_form.mono (by decide)) (G_things_within.mono (by decide)) (G_key_made.mono (by decide)) (G_weighed_23.mono (by decide))
  have G_weighed_25 := ok_weighed (g := Gx.mk P w K mg base) (m := 24) (k := 27) (t.f_weighed P w base) (G_has_form.mono (by decide)) (G_things_within.mono (by decide)) (G_key_made.mono (by decide)) (G_weighed_24.mono (by decide))
  have G_weighed_26 := ok_weighed (g := Gx.mk P w K mg base) (m := 25) (k := 28) (t.f_weighed P w base) (G_has_form.mono (by decide)) (G_things_within.mono (by decide)) (G_key_made.mono (by decide)) (G_weighed_25.mono (by decide))
  have G_weighed_27 := ok_weighed (g := Gx.mk P w K mg base) (m := 26) (k := 29) (t.f_weighed P w base) (G_has_form.mono (by decide)) (G_things_within.mono (by decide)) (G_key_made.mono (by decide)) (G_weighed_26.mono (by decide))
  have G_weighed_28 := ok_weighed (g := Gx.mk P w K mg base) (m := 27) (k := 30) (t.f_weighed P w base) (G_has_form.mono (by decide)) (G_things_within.mono (by decide)) (G_key_made.mono (by decide)) (G_weighed_27.mono (by decide))
  have G_weighed_29 := ok_weighed (g := Gx.mk P w K mg base) (m := 28) (k := 31) (t.f_weighed P w base) (G_has_form.mono (by decide)) (G_things_within.mono (by decide)) (G_key_made.mono (by decide)) (G_weighed_28.mono (by decide))
  have G_weighed_30 := ok_weighed (g := Gx.mk P w K mg base) (m := 29) (k := 32) (t.f_weighed P w base) (G_has_form.mono (by decide)) (G_things_within.mono (by decide)) (G_key_made.mono (by decide)) (G_weighed_29.mono (by decide))
  have G_weighed_31 := ok_weighed (g := Gx.mk P w K mg base) (m := 30) (k := 33) (t.f_weighed P w base) (G_has_form.mono (by decide)) (G_things_within.mono (by decide)) (G_key_made.mono (by decide)) (G_weighed_30.mono (by decide))
  have G_weighed_32 := ok_weighed (g := Gx.mk P w K mg base) (m := 31) (k := 34) (t.f_weighed P w base) (G_has_form.mono (by decide)) (G_things_within.mono (by decide)) (G_key_made.mono (by decide)) (G_weighed_31.mono (by decide))
  have G_weighed_33 := ok_weighed (g := Gx.mk P w K mg base) (m := 32) (k := 35) (t.f_weighed P w base) (G_has_form.mono (by decide)) (G_things_within.mono (by decide)) (G_key_made.mono (by decide)) (G_weighed_32.mono (by decide))
  have G_weighed_34 := ok_weighed (g := Gx.mk P w K mg base) (m := 33) (k := 36) (t.f_weighed P w base) (G_has_form.mono (by decide)) (G_things_within.mono (by decide)) (G_key_made.mono (by decide)) (G_weighed_33.mono (by decide))
  have G_weighed_35 := ok_weighed (g := Gx.mk P w K mg base) (m := 34) (k := 37) (t.f_weighed P w base) (G_has_form.mono (by decide)) (G_things_within.mono (by decide)) (G_key_made.mono (by decide)) (G_weighed_34.mono (by decide))
  have G_weighed_36 := ok_weighed (g := Gx.mk P w K mg base) (m := 35) (k := 38) (t.f_weighed P w base) (G_has_form.mono (by decide)) (G_things_within.mono (by decide)) (G_key_made.mono (by decide)) (G_weighed_35.mono (by decide))
  have G_weighed_37 := ok_weighed (g := Gx.mk P w K mg base) (m := 36) (k := 39) (t.f_weighed P w base) (G_has_form.mono (by decide)) (G_things_within.mono (by decide)) (G_key_made.mono (by decide)) (G_weighed_36.mono (by decide))
  have G_weighed_38 := ok_weighed (g := Gx.mk P w K mg base) (m := 37) (k := 40) (t.f_weighed P w base) (G_has_form.mono (by decide)) (G_things_within.mono (by decide)) (G_key_made.mono (by decide)) (G_weighed_37.mono (by decide))
  have G_weighed_39 := ok_weighed (g := Gx.mk P w K mg base) (m := 38) (k := 41) (t.f_weighed P w base) (G_has_form.mono (by decide)) (G_things_within.mono (by decide)) (G_key_made.mono (by decide)) (G_weighed_38.mono (by decide))
  have G_weighed_40 := ok_weighed (g := Gx.mk P w K mg base) (m := 39) (k := 42) (t.f_weighed P w base) (G_has_form.mono (by decide)) (G_things_within.mono (by decide)) (G_key_made.mono (by decide)) (G_weighed_39.mono (by decide))
  have G_weighed_41 := ok_weighed (g := Gx.mk P w K mg base) (m := 40) (k := 43) (t.f_weighed P w base) (G_has_form.mono (by decide)) (G_things_within.mono (by decide)) (G_key_made.mono (by decide)) (G_weighed_40.mono (by decide))
  have G_weighed_42 := ok_weighed (g := Gx.mk P w K mg base) (m := 41) (k := 44) (t.f_weighed P w base) (G_has_form.mono (by decide)) (G_things_within.mono (by decide)) (G_key_made.mono (by decide)) (G_weighed_41.mono (by decide))
  have G_weighed_43 := ok_weighed (g := Gx.mk P w K mg base) (m := 42) (k := 45) (t.f_weighed P w base) (G_has_form.mono (by decide)) (G_things_within.mono (by decide)) (G_key_made.mono (by decide)) (G_weighed_42.mono (by decide))
  have G_weighed_44 := ok_weighed (g := Gx.mk P w K mg base) (m := 43) (k := 46) (t.f_weighed P w base) (G_has_form.mono (by decide)) (G_things_within.mono (by decide)) (G_key_made.mono (by decide)) (G_weighed_43.mono (by decide))
  have G_weighed_45 := ok_weighed (g := Gx.mk P w K mg base) (m := 44) (k := 47) (t.f_weighed P w base) (G_has_form.mono (by decide)) (G_things_within.mono (by decide)) (G_key_made.mono (by decide)) (G_weighed_44.mono (by decide))
  have G_weighed_46 := ok_weighed (g := Gx.mk P w K mg base) (m := 45) (k := 48) (t.f_weighed P w base) (G_has_form.mono (by decide)) (G_things_within.mono (by decide)) (G_key_made.mono (by decide)) (G_weighed_45.mono (by decide))
  have G_weighed_47 := ok_weighed (g := Gx.mk P w K mg base) (m := 46) (k := 49) (t.f_weighed P w base) (G_has_form.mono (by decide)) (G_things_within.mono (by decide)) (G_key_made.mono (by decide)) (G_weighed_46.mono (by decide))
  have G_weighed_48 := ok_weighed (g := Gx.mk P w K mg base) (m := 47) (k := 50) (t.f_weighed P w base) (G_has_form.mono (by decide)) (G_things_within.mono (by decide)) (G_key_made.mono (by decide)) (G_weighed_47.mono (by decide))
  have G_weighed_49 := ok_weighed (g := Gx.mk P w K mg base) (m := 48) (k := 51) (t.f_weighed P w base) (G_has_form.mono (by decide)) (G_things_within.mono (by decide)) (G_key_made.mono (by decide)) (G_weighed_48.mono (by decide))
  have G_weighed_50 := ok_weighed (g := Gx.mk P w K mg base) (m := 49) (k := 52) (t.f_weighed P w base) (G_has_form.mono (by decide)) (G_things_within.mono (by decide)) (G_key_made.mono (by decide)) (G_weighed_49.mono (by decide))
  have G_weighed_51 := ok_weighed (g := Gx.mk P w K mg base) (m := 50) (k := 53) (t.f_weighed P w base) (G_has_form.mono (by decide)) (G_things_within.mono (by decide)) (G_key_made.mono (by decide)) (G_weighed_50.mono (by decide))
  have G_weighed_52 := ok_weighed (g := Gx.mk P w K mg base) (m := 51) (k := 54) (t.f_weighed P w base) (G_has_form.mono (by decide)) (G_things_within.mono (by decide)) (G_key_made.mono (by decide)) (G_weighed_51.mono (by decide))
  have G_weighed_53 := ok_weighed (g := Gx.mk P w K mg base) (m := 52) (k := 55) (t.f_weighed P w base) (G_has_form.mono (by decide)) (G_things_within.mono (by decide)) (G_key_made.mono (by decide)) (G_weighed_52.mono (by decide))
  have G_weighed_54 := ok_weighed (g := Gx.mk P w K mg base) (m := 53) (k := 56) (t.f_weighed P w base) (G_has_form.mono (by decide)) (G_things_within.mono (by decide)) (G_key_made.mono (by decide)) (G_weighed_53.mono (by decide))
  have G_weighed_55 := ok_weighed (g := Gx.mk P w K mg base) (m := 54) (k := 57) (t.f_weighed P w base) (G_has_form.mono (by decide)) (G_things_within.mono (by decide)) (G_key_made.mono (by decide)) (G_weighed_54.mono (by decide))
  have G_weighed_56 := ok_weighed (g := Gx.mk P w K mg base) (m := 55) (k := 58) (t.f_weighed P w base) (G_has_form.mono (by decide)) (G_things_within.mono (by decide)) (G_key_made.mono (by decide)) (G_weighed_55.mono (by decide))
  have G_weighed_57 := ok_weighed (g := Gx.mk P w K mg base) (m := 56) (k := 59) (t.f_weighed P w base) (G_has_form.mono (by decide)) (G_things_within.mono (by decide)) (G_key_made.mono (by decide)) (G_weighed_56.mono (by decide))
  have G_weighed_58 := ok_weighed (g := Gx.mk P w K mg base) (m := 57) (k := 60) (t.f_weighed P w base) (G_has_form.mono (by decide)) (G_things_within.mono (by decide)) (G_key_made.mono (by decide)) (G_weighed_57.mono (by decide))
  have G_weighed_59 := ok_weighed (g := Gx.mk P w K mg base) (m := 58) (k := 61) (t.f_weighed P w base) (G_has_form.mono (by decide)) (G_things_within.mono (by decide)) (G_key_made.mono (by decide)) (G_weighed_58.mono (by decide))
  have G_weighed := ok_weighed (g := Gx.mk P w K mg base) (m := 59) (k := 62) (t.f_weighed P w base) (G_has_form.mono (by decide)) (G_things_within.mono (by decide)) (G_key_made.mono (by decide)) (G_weighed_59.mono (by decide))
  have G_key_or_refusal := ok_key_or_refusal (g := Gx.mk P w K mg base) (k := 63) (t.f_key_or_refusal P w base) (G_weighed.mono (by decide))
  have G_compared := ok_compared (g := Gx.mk P w K mg base) (k := 64) (t.f_compared P w base) (G_key_or_refusal.mono (by decide))
  have G_law_name := ok_law_name (g := Gx.mk P w K mg base) (t.f_law_name P w base) t.b_range
  have G_law_book := ok_law_book (g := Gx.mk P w K mg base) (k := 1) (t.f_law_book P w base) (G_law_cell_at.mono (by decide)) (G_law_name.mono (by decide)) t.b_range
  have G_law_leaf := ok_law_leaf (g := Gx.mk P w K mg base) (t.f_law_leaf P w base) 
  have G_law_put := ok_law_put (g := Gx.mk P w K mg base) (k := 1) (t.f_law_put P w base) (G_law_leaf.mono (by decide)) t.b_len t.b_max t.b_sum t.b_tuple
  have G_law_copy_1 := ok_law_copy (g := Gx.mk P w K mg base) (m := 0) (k := 0) (t.f_law_copy P w base) ((t.f_law_copy P w base).none (fun _ _ _ _ h => no_copy h)) t.b_isinstance t.b_list t.b_tuple
  have G_law_copy_2 := ok_law_copy (g := Gx.mk P w K mg base) (m := 1) (k := 1) (t.f_law_copy P w base) (G_law_copy_1.mono (by decide)) t.b_isinstance t.b_list t.b_tuple
  have G_law_copy_3 := ok_law_copy (g := Gx.mk P w K mg base) (m := 2) (k := 2) (t.f_law_copy P w base) (G_law_copy_2.mono (by decide)) t.b_isinstance t.b_list t.b_tuple
  have G_law_copy_4 := ok_law_copy (g := Gx.mk P w K mg base) (m := 3) (k := 3) (t.f_law_copy P w base) (G_law_copy_3.mono (by decide)) t.b_isinstance t.b_list t.b_tuple
  have G_law_copy_5 := ok_law_copy (g := Gx.mk P w K mg base) (m := 4) (k := 4) (t.f_law_copy P w base) (G_law_copy_4.mono (by decide)) t.b_isinstance t.b_list t.b_tuple
  have G_law_copy_6 := ok_law_copy (g := Gx.mk P w K mg base) (m := 5) (k := 5) (t.f_law_copy P w base) (G_law_copy_5.mono (by decide)) t.b_isinstance t.b_list t.b_tuple
  have G_law_copy_7 := ok_law_copy (g := Gx.mk P w K mg base) (m := 6) (k := 6) (t.f_law_copy P w base) (G_law_copy_6.mono (by decide)) t.b_isinstance t.b_list t.b_tuple
  have G_law_copy_8 := ok_law_copy (g := Gx.mk P w K mg base) (m := 7) (k := 7) (t.f_law_copy P w base) (G_law_copy_7.mono (by decide)) t.b_isinstance t.b_list t.b_tuple
  have G_law_copy_9 := ok_law_copy (g := Gx.mk P w K mg base) (m := 8) (k := 8) (t.f_law_copy P w base) (G_law_copy_8.mono (by decide)) t.b_isinstance t.b_list t.b_tuple
  have G_law_copy_10 := ok_law_copy (g := Gx.mk P w K mg base) (m := 9) (k := 9) (t.f_law_copy P w base) (G_law_copy_9.mono (by decide)) t.b_isinstance t.b_list t.b_tuple
  have G_law_copy_11 := ok_law_copy (g := Gx.mk P w K mg base) (m := 10) (k := 10) (t.f_law_copy P w base) (G_law_copy_10.mono (by decide)) t.b_isinstance t.b_list t.b_tuple
  have G_law_copy_12 := ok_law_copy (g := Gx.mk P w K mg base) (m := 11) (k := 11) (t.f_law_copy P w base) (G_law_copy_11.mono (by decide)) t.b_isinstance t.b_list t.b_tuple
  have G_law_copy_13 := ok_law_copy (g := Gx.mk P w K mg base) (m := 12) (k := 12) (t.f_law_copy P w base) (G_law_copy_12.mono (by decide)) t.b_isinstance t.b_list t.b_tuple
  have G_law_copy_14 := ok_law_copy (g := Gx.mk P w K mg base) (m := 13) (k := 13) (t.f_law_copy P w base) (G_law_copy_13.mono (by decide)) t.b_isinstance t.b_list t.b_tuple
  have G_law_copy_15 := ok_law_copy (g := Gx.mk P w K mg base) (m := 14) (k := 14) (t.f_law_copy P w base) (G_law_copy_14.mono (by decide)) t.b_isinstance t.b_list t.b_tuple
  have G_law_copy_16 := ok_law_copy (g := Gx.mk P w K mg base) (m := 15) (k := 15) (t.f_law_copy P w base) (G_law_copy_15.mono (by decide)) t.b_isinstance t.b_list t.b_tuple
  have G_law_copy_17 := ok_law_copy (g := Gx.mk P w K mg base) (m := 16) (k := 16) (t.f_law_copy P w base) (G_law_copy_16.mono (by decide)) t.b_isinstance t.b_list t.b_tuple
  have G_law_copy_18 := ok_law_copy (g := Gx.mk P w K mg base) (m := 17) (k := 17) (t.f_law_copy P w base) (G_law_copy_17.mono (by decide)) t.b_isinstance t.b_list t.b_tuple
  have G_law_copy_19 := ok_law_copy (g := Gx.mk P w K mg base) (m := 18) (k := 18) (t.f_law_copy P w base) (G_law_copy_18.mono (by decide)) t.b_isinstance t.b_list t.b_tuple
  have G_law_copy_20 := ok_law_copy (g := Gx.mk P w K mg base) (m := 19) (k := 19) (t.f_law_copy P w base) (G_law_copy_19.mono (by decide)) t.b_isinstance t.b_list t.b_tuple
  have G_law_copy_21 := ok_law_copy (g := Gx.mk P w K mg base) (m := 20) (k := 20) (t.f_law_copy P w base) (G_law_copy_20.mono (by decide)) t.b_isinstance t.b_list t.b_tuple
  have G_law_copy_22 := ok_law_copy (g := Gx.mk P w K mg base) (m := 21) (k := 21) (t.f_law_copy P w base) (G_law_copy_21.mono (by decide)) t.b_isinstance t.b_list t.b_tuple
  have G_law_copy_23 := ok_law_copy (g := Gx.mk P w K mg base) (m := 22) (k := 22) (t.f_law_copy P w base) (G_law_copy_22.mono (by decide)) t.b_isinstance t.b_list t.b_tuple
  have G_law_copy := ok_law_copy (g := Gx.mk P w K mg base) (m := 23) (k := 23) (t.f_law_copy P w base) (G_law_copy_23.mono (by decide)) t.b_isinstance t.b_list t.b_tuple
  have G_law_table := ok_law_table (g := Gx.mk P w K mg base) (k := 65) (t.f_law_table P w base) (G_compared.mono (by decide)) (G_law_whole.mono (by decide)) (G_law_copy.mono (by decide))
  have G_law_in_order := ok_law_in_order (g := Gx.mk P w K mg base) (t.f_law_in_order P w base) t.b_len t.b_range
  exact body_law (g := Gx.mk P w K mg base) (k := 66) (G_law_book.mono (by decide)) (G_law_leaf.mono (by decide)) (G_law_put.mono (by decide)) (G_law_table.mono (by decide)) (G_law_in_order.mono (by decide)) t.b_range
end KW
open PySem PySem.W PyProof.Rows
set_option maxRecDepth 100000 in
set_option maxHeartbeats 0 in
theorem PySem.Challenge.cw_countgen_k27_trees_in_order_holds : PySem.Challenge.rw_countgen_k27_trees_in_order.Holds := by
  w_on; o_law; k_head; (case hw => w_witness2)
  k_fill
  refine L2.walk_gx (l := PySem.Challenge.rw_countgen_k27_trees_in_order) 66 "_law_script" KW.s_law ["_law_script", "_law_book_here", "_law_branches", "_law_stack", "_law_cell", "_law_some", "_law_rows"] rfl rfl ⟨rfl, by decide, by decide⟩ KW.sc_law (fun w h Y => by first | exact PySem.W.kIn_of Y | exact PySem.W.km_in_of Y) ?F
  case F =>
    intro w mg h KX G
    refine' ⟨L2.lawRaw_mk KX G ?a ?l ?c ?k (fun _ _ _ _ _ _ _ _ => .of_eq rfl), fun base => KW.law_body ⟨?f_law_whole, ?f_law_cell_at, ?f_is_whole_number, ?f_branch_place, ?f_shape_of, ?f_has_mark, ?f_has_form, ?f_things_within, ?f_sum_of_sizes, ?f_list_key, ?f_key_made, ?f_weighed, ?f_key_or_refusal, ?f_compared, ?f_law_name, ?f_law_book, ?f_law_leaf, ?f_law_put, ?f_law_copy, ?f_law_table, ?f_law_in_order, ?c_OF_ONE_PART, ?b_all, ?b_bool, ?b_enumerate, ?b_int, ?b_isinstance, ?b_len, ?b_list, ?b_max, ?b_range, ?b_str, ?b_sum, ?b_tuple, ?b_zip⟩ _ w base⟩
    (case a => k_is)
    (case l => k_is)
    (case c => k_is)
    (case k => k_is)
    case f_law_whole =>
      refine' L2.raw_mk KX G ["_law_found"] ?a ?l ?c ?k (fun _ _ _ _ _ _ us hl => match us, hl with | [_], _ => rfl)
      (case a => k_is)
      (case l => k_is)
      (case c => k_is)
      (case k => k_is)
    case f_law_cell_at =>
      refine' L2.raw_mk KX G ["_law_script", "_law_k"] ?a ?l ?c ?k (fun _ _ _ _ _ _ us hl => match us, hl with | [_, _], _ => rfl)
      (case a => k_is)
      (case l => k_is)
      (case c => k_is)
      (case k => k_is)
    case f_is_whole_number =>
      refine' L2.raw_mk KX G ["thing"] ?a ?l ?c ?k (fun _ _ _ _ _ _ us hl => match us, hl with | [_], _ => rfl)
      (case a => k_is)
      (case l => k_is)
      (case c => k_is)
      (case k => k_is)
    case f_branch_place =>
      refine' L2.raw_mk KX G ["branches", "mark"] ?a ?l ?c ?k (fun _ _ _ _ _ _ us hl => match us, hl with | [_, _], _ => rfl)
      (case a => k_is)
      (case l => k_is)
      (case c => k_is)
      (case k => k_is)
    case f_shape_of =>
      refine' L2.raw_mk KX G ["book", "name"] ?a ?l ?c ?k (fun _ _ _ _ _ _ us hl => match us, hl with | [_, _], _ => rfl)
      (case a => k_is)
      (case l => k_is)
      (case c => k_is)
      (case k => k_is)
    case f_has_mark =>
      refine' L2.raw_mk KX G ["branches", "value"] ?a ?l ?c ?k (fun _ _ _ _ _ _ us hl => match us, hl with | [_, _], _ => rfl)
      (case a => k_is)
      (case l => k_is)
      (case c => k_is)
      (case k => k_is)
    case f_has_form =>
      refine' L2.raw_mk KX G ["shape", "value"] ?a ?l ?c ?k (fun _ _ _ _ _ _ us hl => match us, hl with | [_, _], _ => rfl)
      (case a => k_is)
      (case l => k_is)
      (case c => k_is)
      (case k => k_is)
    case f_things_within =>
      refine' L2.raw_mk KX G ["book", "shape", "value"] ?a ?l ?c ?k (fun _ _ _ _ _ _ us hl => match us, hl with | [_, _, _], _ => rfl)
      (case a => k_is)
      (case l => k_is)
      (case c => k_is)
      (case k => k_is)
    case f_sum_of_sizes =>
      refine' L2.raw_mk KX G ["keys"] ?a ?l ?c ?k (fun _ _ _ _ _ _ us hl => match us, hl with | [_], _ => rfl)
      (case a => k_is)
      (case l => k_is)
      (case c => k_is)
      (case k => k_is)
    case f_list_key =>
      refine' L2.raw_mk KX G ["shape", "keys"] ?a ?l ?c ?k (fun _ _ _ _ _ _ us hl => match us, hl with | [_, _], _ => rfl)
      (case a => k_is)
      (case l => k_is)
      (case c => k_is)
      (case k => k_is)
    case f_key_made =>
      refine' L2.raw_mk KX G ["shape", "value", "keys"] ?a ?l ?c ?k (fun _ _ _ _ _ _ us hl => match us, hl with | [_, _, _], _ => rfl)
      (case a => k_is)
      (case l => k_is)
      (case c => k_is)
      (case k => k_is)
    case f_weighed =>
      refine' L2.raw_mk KX G ["book", "shape", "value"] ?a ?l ?c ?k (fun _ _ _ _ _ _ us hl => match us, hl with | [_, _, _], _ => rfl)
      (case a => k_is)
      (case l => k_is)
      (case c => k_is)
      (case k => k_is)
    case f_key_or_refusal =>
      refine' L2.raw_mk KX G ["book", "shape", "value"] ?a ?l ?c ?k (fun _ _ _ _ _ _ us hl => match us, hl with | [_, _, _], _ => rfl)
      (case a => k_is)
      (case l => k_is)
      (case c => k_is)
      (case k => k_is)
    case f_compared =>
      refine' L2.raw_mk KX G ["book", "shape", "one", "other"] ?a ?l ?c ?k (fun _ _ _ _ _ _ us hl => match us, hl with | [_, _, _, _], _ => rfl)
      (case a => k_is)
      (case l => k_is)
      (case c => k_is)
      (case k => k_is)
    case f_law_name =>
      refine' L2.raw_mk KX G ["_law_cell", "_law_k"] ?a ?l ?c ?k (fun _ _ _ _ _ _ us hl => match us, hl with | [_, _], _ => rfl)
      (case a => k_is)
      (case l => k_is)
      (case c => k_is)
      (case k => k_is)
    case f_law_book =>
      refine' L2.raw_mk KX G ["_law_script"] ?a ?l ?c ?k (fun _ _ _ _ _ _ us hl => match us, hl with | [_], _ => rfl)
      (case a => k_is)
      (case l => k_is)
      (case c => k_is)
      (case k => k_is)
    case f_law_leaf =>
      refine' L2.raw_mk KX G ["_law_branch", "_law_cell"] ?a ?l ?c ?k (fun _ _ _ _ _ _ us hl => match us, hl with | [_, _], _ => rfl)
      (case a => k_is)
      (case l => k_is)
      (case c => k_is)
      (case k => k_is)
    case f_law_put =>
      refine' L2.raw_mk KX G ["_law_stack", "_law_branches", "_law_cell"] ?a ?l ?c ?k (fun _ _ _ _ _ _ us hl => match us, hl with | [_, _, _], _ => rfl)
      (case a => k_is)
      (case l => k_is)
      (case c => k_is)
      (case k => k_is)
    case f_law_copy =>
      refine' L2.raw_mk KX G ["_law_value"] ?a ?l ?c ?k (fun _ _ _ _ _ _ us hl => match us, hl with | [_], _ => rfl)
      (case a => k_is)
      (case l => k_is)
      (case c => k_is)
      (case k => k_is)
    case f_law_table =>
      refine' L2.raw_mk KX G ["_law_book_here", "_law_some"] ?a ?l ?c ?k (fun _ _ _ _ _ _ us hl => match us, hl with | [_, _], _ => rfl)
      (case a => k_is)
      (case l => k_is)
      (case c => k_is)
      (case k => k_is)
    case f_law_in_order =>
      refine' L2.raw_mk KX G ["_law_rows", "_law_some"] ?a ?l ?c ?k (fun _ _ _ _ _ _ us hl => match us, hl with | [_, _], _ => rfl)
      (case a => k_is)
      (case l => k_is)
      (case c => k_is)
      (case k => k_is)
    case c_OF_ONE_PART =>
      refine' L2.conT_mk KX G ?a ?l ?z ?r
      (case a => k_is)
      (case l => k_is)
      (case z => decide)
      (case r => exact (.cons ⟨_, rfl⟩ (.cons ⟨_, rfl⟩ (.cons ⟨_, rfl⟩ .nil))))
    case b_all =>
      refine' PySem.W.mg_none_of KX G ?a
      (case a => k_is)
    case b_bool =>
      refine' PySem.W.mg_none_of KX G ?a
      (case a => k_is)
    case b_enumerate =>
      refine' PySem.W.mg_none_of KX G ?a
      (case a => k_is)
    case b_int =>
      refine' PySem.W.mg_none_of KX G ?a
      (case a => k_is)
    case b_isinstance =>
      refine' PySem.W.mg_none_of KX G ?a
      (case a => k_is)
    case b_len =>
      refine' PySem.W.mg_none_of KX G ?a
      (case a => k_is)
    case b_list =>
      refine' PySem.W.mg_none_of KX G ?a
      (case a => k_is)
    case b_max =>
      refine' PySem.W.mg_none_of KX G ?a
      (case a => k_is)
    case b_range =>
      refine' PySem.W.mg_none_of KX G ?a
      (case a => k_is)
    case b_str =>
      refine' PySem.W.mg_none_of KX G ?a
      (case a => k_is)
    case b_sum =>
      refine' PySem.W.mg_none_of KX G ?a
      (case a => k_is)
    case b_tuple =>
      refine' PySem.W.mg_none_of KX G ?a
      (case a => k_is)
    case b_zip =>
      refine' PySem.W.mg_none_of KX G ?a
      (case a => k_is)
