import PyProof.Rows.All
import Wide.All
import OpenK.AllK
import Wide.FinOn
import Lean
import PyProof.EqAt
import PyProof.EqKinds
import PyProof.TupleCall
import PyProof.NeData
import KE.KTryMore
import PyProof.ExcBaseAll.ValueError
import PyProof.ExcArgsOwn
import KE.KIntText
import PySem.Challenge.RW_countgen_k50_terms_read
set_option Elab.async false
set_option linter.all false
set_option maxRecDepth 100000
/-! THE HAND LAYER, for ints, bools, texts, own classes, LISTS and tuples (index, slices, in, append, pop ..), calls, loops. Paste it whole ahead of your own text; what your proof does not reach may be deleted. -/
namespace L2
open PySem PySem.Spec PyProof.Rows

/-- a key: an int or a str -/
abbrev Key := Sum Int Str
def keyIs : Key → Value → Bool
  | .inl k, v => Value.isInt k v
  | .inr x, v => Value.isStrOf x v
def keyH (w : World) : Key → Int
  | .inl k => hashInt k
  | .inr x => hashStr w x
theorem keyIs_shape : ∀ {k : Key} {v : Value}, keyIs k v = true → (∃ i t, k = Sum.inl i ∧ v = Value.int i t) ∨ (∃ x t, k = Sum.inr x ∧ v = Value.str x t)
  | .inl i, v, h => by
    obtain ⟨t, e⟩ := Value.isInt_shape (k := i) (v := v) h
    exact .inl ⟨i, t, rfl, e⟩
  | .inr x, v, h => by
    obtain ⟨t, e⟩ := Value.isStrOf_shape (x := x) (v := v) h
    exact .inr ⟨x, t, rfl, e⟩
theorem key_ll (a b : Int) : decide ((Sum.inl a : Key) = Sum.inl b) = (a == b) := by
  by_cases e : a = b
  · subst e; simp
  · have h : ¬ (Sum.inl a : Key) = Sum.inl b := fun q => e (Sum.inl.inj q)
    rw [decide_eq_false h]
    exact (beq_eq_false_iff_ne.mpr e).symm
theorem key_rr (a b : Str) : decide ((Sum.inr a : Key) = Sum.inr b) = decide (a = b) := by
  by_cases e : a = b
  · subst e; simp
  · have h : ¬ (Sum.inr a : Key) = Sum.inr b := fun q => e (Sum.inr.inj q)
    rw [decide_eq_false h, decide_eq_false e]
theorem key_lr (a : Int) (b : Str) : decide ((Sum.inl a : Key) = Sum.inr b) = false := decide_eq_false (fun q => nomatch q)
theorem key_rl (a : Str) (b : Int) : decide ((Sum.inr a : Key) = Sum.inl b) = false := decide_eq_false (fun q => nomatch q)

def mixKind (prog : Program) (w : World) : PySem.KeyKind prog w Key where
  is := keyIs
  hash := keyH w
  inj := fun v a b ha hb => by
    rcases keyIs_shape ha with ⟨i, t, rfl, rfl⟩ | ⟨x, t, rfl, rfl⟩
    · rcases keyIs_shape hb with ⟨j, u, rfl, e⟩ | ⟨y, u, rfl, e⟩
      · injection e with e1 _; rw [e1]
      · exact nomatch e
    · rcases keyIs_shape hb with ⟨j, u, rfl, e⟩ | ⟨y, u, rfl, e⟩
      · exact nomatch e
      · injection e with e1 _; rw [e1]
  byValue := fun k v h => by
    rcases keyIs_shape h with ⟨i, t, rfl, rfl⟩ | ⟨x, t, rfl, rfl⟩ <;> rfl
  pyHash := fun hv h => by
    rcases keyIs_shape hv with ⟨i, t, rfl, rfl⟩ | ⟨x, t, rfl, rfl⟩
    · exact wpAny_pyHash_int h
    · exact wpAny_pyHash_str h
  eqBool := fun hu hv h => by
    rcases keyIs_shape hu with ⟨i, t, rfl, rfl⟩ | ⟨x, t, rfl, rfl⟩
    · rcases keyIs_shape hv with ⟨j, u, rfl, rfl⟩ | ⟨y, u, rfl, rfl⟩
      · rw [key_ll] at h; exact wpAny_eqBool_int h
      · rw [key_lr] at h; exact SeqAt.EqAt.int_str i t y u _ _ _ _ h
    · rcases keyIs_shape hv with ⟨j, u, rfl, rfl⟩ | ⟨y, u, rfl, rfl⟩
      · rw [key_rl] at h; exact SeqAt.EqAt.str_int x t j u _ _ _ _ h
      · rw [key_rr] at h; exact wpAny_eqBool_str h
  «strs» := fun k x t v h => by
    rcases keyIs_shape h with ⟨i, u, rfl, e⟩ | ⟨y, u, rfl, e⟩
    · exact nomatch e
    · injection e with e1 _
      subst e1
      cases v <;> rfl

end L2

namespace L2
open PySem PySem.Spec PyProof.Rows

/-- a value, without the heap -/
inductive V where
  | non | bl (b : Bool) | int (i : Int) | str (x : Str) | byt (b : Array UInt8) | flt (b : UInt64) | ref (a : Addr) | ty (n : String)
  deriving DecidableEq

def RelV : V → Value → Prop
  | .non, u => u = Value.none
  | .bl b, u => u = Value.bool b
  | .int i, u => ∃ t, u = Value.int i t
  | .str x, u => ∃ t, u = Value.str x t
  | .byt b, u => ∃ t, u = Value.bytes b t
  | .flt b, u => ∃ t, u = Value.float b t
  | .ref a, u => u = Value.ref a
  | .ty n, u => u = Value.type n

abbrev Vals : List V → List Value → Prop := Paired RelV
theorem Vals.length {xs : List V} {us : List Value} (r : Vals xs us) : xs.length = us.length := Paired.length r
theorem Vals.get : ∀ {xs : List V} {us : List Value} {i : Nat} {x : V}, Vals xs us → xs[i]? = some x → ∃ u, us[i]? = some u ∧ RelV x u
  | _, _, _, _, .nil, e => by simp at e
  | _, _, 0, _, .cons r _, e => by simp at e; subst e; exact ⟨_, rfl, r⟩
  | _, _, i + 1, x, .cons _ t, e => by
    obtain ⟨u, h1, h2⟩ := Vals.get (i := i) (x := x) t (by simpa using e)
    exact ⟨u, by simpa using h1, h2⟩
theorem Vals.append : ∀ {xs ys : List V} {us ws : List Value}, Vals xs us → Vals ys ws → Vals (xs ++ ys) (us ++ ws)
  | _, _, _, _, .nil, s => s
  | _, _, _, _, .cons r t, s => .cons r (Vals.append t s)
theorem Vals.take : ∀ {xs : List V} {us : List Value} (n : Nat), Vals xs us → Vals (xs.take n) (us.take n)
  | _, _, 0, _ => .nil
  | _, _, _ + 1, .nil => .nil
  | _, _, n + 1, .cons r t => .cons r (Vals.take n t)
theorem Vals.drop : ∀ {xs : List V} {us : List Value} (n : Nat), Vals xs us → Vals (xs.drop n) (us.drop n)
  | _, _, 0, r => r
  | _, _, _ + 1, .nil => .nil
  | _, _, n + 1, .cons _ t => Vals.drop n t
def RelO : Option V → Option Value → Prop
  | some v, some u => RelV v u
  | none, none => True
  | _, _ => False
def KV {κ : Type} : List (κ × V) → List (κ × Value) → Prop := Paired fun (p : κ × V) (q : κ × Value) => p.1 = q.1 ∧ RelV p.2 q.2

/-- a key of a dict (00_mix): an int or a text -/
def kV : Key → V
  | .inl i => .int i
  | .inr x => .str x

/-- what stands at a tracked address -/
inductive HO where
  /-- a list -/
  | lst (xs : List V)
  /-- a tuple (never changes) -/
  | tup (xs : List V)
  /-- a dict whose keys are ints and texts; one whose keys are tuples of ints and texts (the empty one is both) -/
  | dK (kvs : List (Key × V)) | dT (kvs : List (List Key × V))
  /-- a set of ints: its members, its size -/
  | set (S : Int → Bool) (n : Nat)
  /-- an instance of the class at C, its dict at dx, its attributes -/
  | ins (C dx : Addr) (fs : List (Str × V))
  /-- the dict of the instance at x -/
  | own (x : Addr)
  /-- the dict of an exception -/
  | xd (fs : List (Str × V))
  /-- a bound method, f of x -/
  | met (f x : Addr)
  /-- a range object lo, lo + 1, .. below hi -/
  | rng (lo hi : Int)
  /-- a thing that is known to the object (the script; a dict while a loop walks it): read, never written while it is so -/
  | frz (o : Obj) (u : HO)
  /-- a code object's table -/
  | tbl (ps : Array Value)
  /-- any other thing, by what is true of its one object (a def of one's own: SetO a S n := HO.ext fun h => ..) -/
  | ext (φ : Heap → Prop)

abbrev Hp := Addr → Option HO
def upd (H : Hp) (a : Addr) (o : HO) : Hp := fun b => if b = a then some o else H b
theorem upd_same {H : Hp} {a : Addr} {o : HO} : upd H a o a = some o := by unfold upd; rw [if_pos rfl]
theorem upd_ne {H : Hp} {a b : Addr} {o : HO} (h : b ≠ a) : upd H a o b = H b := by unfold upd; rw [if_neg h]
theorem upd_upd {H : Hp} {a : Addr} {o u : HO} : upd (upd H a o) a u = upd H a u := by
  funext b; unfold upd; split <;> rfl
/-- two objects of different content stand apart -/
theorem ne_of {H : Hp} {a b : Addr} {o u : HO} (h : H a = some o) (h' : H b = some u) (d : o ≠ u) : a ≠ b := by
  intro e; subst e; rw [h] at h'; exact d (Option.some.inj h')
theorem ne_of_none {H : Hp} {a b : Addr} {o : HO} (h : H a = some o) (h' : H b = none) : a ≠ b := by
  intro e; subst e; rw [h] at h'; cases h'

section
variable (P : Program) (w : World)
def ObjOk (H : Hp) (h : Heap) (a : Addr) : HO → Prop
  | .lst xs => xs.length ≤ sizeLine ∧ ∃ (its : List Value) (n : Nat), Vals xs its ∧ h.get? a = some { cls := .type "list", data := .seq its.toArray n }
  | .tup xs => xs.length ≤ sizeLine ∧ ∃ its : List Value, Vals xs its ∧ IsTup h a its.toArray
  | .dK kvs => kvs.length ≤ sizeLine ∧ (a == sysModules) = false ∧ ∃ vs, KV kvs vs ∧ h.DictOf (mixKind P w) a vs
  | .dT kvs => kvs.length ≤ sizeLine ∧ (a == sysModules) = false ∧ ∃ xs : List (List Key × Addr × Value),
      Paired (fun (p : List Key × V) (q : List Key × Addr × Value) => p.1 = q.1 ∧ H q.2.1 = some (.tup (p.1.map kV)) ∧ RelV p.2 q.2.2) kvs xs ∧
      ∃ o es ep, h.get? a = some o ∧ o.ExactDict ∧ o.data = .dict es ep ∧ es.toList = xs.map (entryOfKey (tupleKind (mixKind P w))) ∧ (xs.map (·.1)).Nodup
  | .set S n => h.SetOf (intKind P w) a S n
  | .ins C dx fs => H dx = some (.own a) ∧ fs.length ≤ 1000 ∧ dx ≠ a ∧ h.get? a = some (PySem.W.instObj C dx) ∧
      ∃ mA, h.Ns1 dx mA ∧ (∀ f, RelO (fs.lookup f) (mA f)) ∧ PySem.Within mA (fs.map (·.1))
  | .own _ => ∃ o, h.get? a = some o
  | .xd fs => ∃ mA, h.Ns1 a mA ∧ ∀ f, RelO (fs.lookup f) (mA f)
  | .rng lo hi => ∃ t u v, h.get? a = some { cls := .type "range", data := .fields #[.int lo t, .int hi u, .int 1 v] }
  | .frz o u => h.get? a = some o ∧ ObjOk H h a u
  | .tbl ps => h.get? a = some { cls := .none, data := .fields ps }
  | .met f x => h.get? a = some (PySem.W.methodObj (.ref f) (.ref x))
  | .ext φ => φ h ∧ (∃ o, h.get? a = some o) ∧ ∀ h1 h2 : Heap, φ h1 → (∀ o, h1.get? a = some o → h2.get? a = some o) → φ h2
/-- the abstract heap is held -/
def HOk (H : Hp) (h : Heap) : Prop := ∀ a o, H a = some o → ObjOk P w H h a o
end

section
variable {P : Program} {w : World} {H H' : Hp} {h h' : Heap} {a : Addr} {o : HO}
theorem ObjOk.lt (x : ObjOk P w H h a o) : a < h.objs.size := by
  cases o with
  | lst xs => obtain ⟨_, _, _, _, e⟩ := x; exact Heap.lt_size e
  | tup xs => obtain ⟨_, _, _, p⟩ := x; exact p.lt
  | dK kvs => obtain ⟨_, _, _, _, o, _, _, e, _⟩ := x; exact Heap.lt_size e
  | dT kvs => obtain ⟨_, _, _, _, o, _, _, e, _⟩ := x; exact Heap.lt_size e
  | set S n => obtain ⟨o, _, _, _, e, _⟩ := x; exact Heap.lt_size e
  | ins C dx fs => obtain ⟨_, _, _, e, _⟩ := x; exact Heap.lt_size e
  | own y => obtain ⟨_, e⟩ := x; exact Heap.lt_size e
  | xd fs => obtain ⟨_, ⟨_, _, _, e, _⟩, _⟩ := x; exact Heap.lt_size e
  | rng lo hi => obtain ⟨_, _, _, e⟩ := x; exact Heap.lt_size e
  | frz ob u => obtain ⟨e, _⟩ := x; exact Heap.lt_size e
  | tbl ps => exact Heap.lt_size (show h.get? a = some _ from x)
  | met f y => exact Heap.lt_size (show h.get? a = some _ from x)
  | ext φ => obtain ⟨_, ⟨_, e⟩, _⟩ := x; exact Heap.lt_size e
theorem Paired.mapP {α β : Type} {F G : α → β → Prop} : ∀ {l₁ : List α} {l₂ : List β}, Paired F l₁ l₂ → (∀ a b, F a b → G a b) → Paired G l₁ l₂
  | _, _, .nil, _ => .nil
  | _, _, .cons r t, f => .cons (f _ _ r) (Paired.mapP t f)
/-- what an object's description leans on: its own object, its own dict, the tuples -/
theorem ObjOk.stay (x : ObjOk P w H h a o) (k : ∀ b u, (b = a ∨ H b = some (.own a)) → h.get? b = some u → h'.get? b = some u)
    (ho : ∀ b, H b = some (.own a) → H' b = some (.own a)) (ht : ∀ b xs, H b = some (.tup xs) → H' b = some (.tup xs)) : ObjOk P w H' h' a o := by
  induction o with
  | lst xs => obtain ⟨z, its, n, r, e⟩ := x; exact ⟨z, its, n, r, k _ _ (.inl rfl) e⟩
  | tup xs => obtain ⟨z, its, r, ob, e, c⟩ := x; exact ⟨z, its, r, ob, k _ _ (.inl rfl) e, c⟩
  | dK kvs => obtain ⟨z, y, vs, r, ob, es, ep, e, c⟩ := x; exact ⟨z, y, vs, r, ob, es, ep, k _ _ (.inl rfl) e, c⟩
  | dT kvs =>
    obtain ⟨z, y, xs, r, ob, es, ep, e, c⟩ := x
    exact ⟨z, y, xs, Paired.mapP r fun p q z => ⟨z.1, ht _ _ z.2.1, z.2.2⟩, ob, es, ep, k _ _ (.inl rfl) e, c⟩
  | set S n => obtain ⟨ob, es, ep, t, e, c⟩ := x; exact ⟨ob, es, ep, t, k _ _ (.inl rfl) e, c⟩
  | ins C dx fs =>
    obtain ⟨d, z, ne, e, mA, ⟨od, es, ep, e2, c⟩, r⟩ := x
    exact ⟨ho _ d, z, ne, k _ _ (.inl rfl) e, mA, ⟨od, es, ep, k _ _ (.inr d) e2, c⟩, r⟩
  | own y => obtain ⟨ob, e⟩ := x; exact ⟨ob, k _ _ (.inl rfl) e⟩
  | xd fs => obtain ⟨mA, ⟨od, es, ep, e, c⟩, r⟩ := x; exact ⟨mA, ⟨od, es, ep, k _ _ (.inl rfl) e, c⟩, r⟩
  | rng lo hi => obtain ⟨t, u, v, e⟩ := x; exact ⟨t, u, v, k _ _ (.inl rfl) e⟩
  | frz ob u ih => obtain ⟨e, q⟩ := x; exact ⟨k _ _ (.inl rfl) e, ih q⟩
  | tbl ps =>
    have e : h.get? a = some { cls := .none, data := .fields ps } := x
    show h'.get? a = some { cls := .none, data := .fields ps }
    exact k a _ (.inl rfl) e
  | met f y =>
    have e : h.get? a = some (PySem.W.methodObj (.ref f) (.ref y)) := x
    show h'.get? a = some (PySem.W.methodObj (.ref f) (.ref y))
    exact k a _ (.inl rfl) e
  | ext φ => obtain ⟨p, ⟨o, e⟩, st⟩ := x; exact ⟨st _ _ p fun o q => k _ _ (.inl rfl) q, ⟨o, k _ _ (.inl rfl) e⟩, st⟩
theorem HOk.lt (x : HOk P w H h) (e : H a = some o) : a < h.objs.size := (x a o e).lt
theorem HOk.fresh (x : HOk P w H h) (e : h.objs.size ≤ a) : H a = none := by
  cases q : H a with
  | none => rfl
  | some u => exact absurd (Nat.lt_of_lt_of_le (x.lt q) e) (Nat.lt_irrefl _)
/-- every object of the heap is kept -/
theorem HOk.kept (x : HOk P w H h) (k : ∀ b u, h.get? b = some u → h'.get? b = some u) : HOk P w H h' := fun a o e =>
  (x a o e).stay (fun b u _ q => k b u q) (fun _ q => q) fun _ _ q => q
/-- a new object is laid and tracked -/
theorem HOk.laid (x : HOk P w H h) (k : ∀ b u, h.get? b = some u → h'.get? b = some u) (hp : h.objs.size ≤ a) (new : ObjOk P w (upd H a o) h' a o) : HOk P w (upd H a o) h' := fun b u e => by
  have hn := x.fresh hp
  by_cases hb : b = a
  · subst hb; rw [upd_same] at e; cases e; exact new
  · rw [upd_ne hb] at e
    exact (x b u e).stay (fun c v _ q => k c v q) (fun c q => by rw [upd_ne (ne_of_none q hn)]; exact q) fun c xs q => by rw [upd_ne (ne_of_none q hn)]; exact q
end

/-- what may be read as u: it is u, or a known u -/
def Rd (H : Hp) (a : Addr) (u : HO) : Prop := H a = some u ∨ ∃ o, H a = some (.frz o u)
theorem Rd.ok {P : Program} {w : World} {H : Hp} {h : Heap} {a : Addr} {u : HO} (r : Rd H a u) (x : HOk P w H h) : ObjOk P w H h a u := by
  rcases r with r | ⟨o, r⟩
  · exact x a u r
  · obtain ⟨_, q⟩ := x a _ r
    exact q
/-- what may be written -/
def Mut : Option HO → Prop
  | some (.lst _) => True
  | some (.dK _) => True
  | some (.dT _) => True
  | some (.set _ _) => True
  | some (.ins _ _ _) => True
  | some (.ext _) => True
  | _ => False
section
variable {P : Program} {w : World} {H : Hp} {h h' : Heap} {x e : Addr} {o' : HO}
/-- the object at e is changed: x itself, or the dict of the instance x -/
theorem HOk.write (ok : HOk P w H h) (mu : Mut (H x)) (he : e = x ∨ H e = some (.own x)) (k : ∀ b u, b ≠ e → h.get? b = some u → h'.get? b = some u) (heo : ∃ u, h'.get? e = some u)
    (new : ObjOk P w (upd H x o') h' x o') : HOk P w (upd H x o') h' := fun b u q => by
  have nown : ∀ c y, H c = some (.own y) → c ≠ x := fun c y r z => by subst z; rw [r] at mu; exact mu
  have ntup : ∀ c xs, H c = some (.tup xs) → c ≠ x := fun c xs r z => by subst z; rw [r] at mu; exact mu
  by_cases hb : b = x
  · subst hb; rw [upd_same] at q; cases q; exact new
  · rw [upd_ne hb] at q
    by_cases hbe : b = e
    · have q' : H b = some (.own x) := by
        rcases he with z | z
        · exact absurd (hbe.trans z) hb
        · rw [hbe]; exact z
      rw [q] at q'; cases q'
      obtain ⟨v, hv⟩ := heo
      exact ⟨v, by rw [hbe]; exact hv⟩
    · refine (ok b u q).stay (fun c v hc r => k c v ?_ r) (fun c r => by rw [upd_ne (nown c b r)]; exact r) fun c xs r => by rw [upd_ne (ntup c xs r)]; exact r
      rcases hc with rfl | hc
      · exact hbe
      · rintro rfl
        rcases he with z | z
        · exact nown c b hc z
        · rw [hc] at z; cases z; exact hb rfl
end

/-! ### kept unless tracked; of the frames at fs (the callers') the slots may change (an exception that passes writes there); of the records at ex (iterators) nothing is said -/
structure Un (fs ex : List Addr) (H H' : Hp) (h h' : Heap) : Prop where
  keep : ∀ b o, h.get? b = some o → H b = none → b ∉ fs → b ∉ ex → h'.get? b = some o
  slot : ∀ b o, h.get? b = some o → H b = none → b ∈ fs → b ∉ ex → ∃ sl, h'.get? b = some { o with slots := sl }
  free : ∀ b o, h.get? b = some o → H b = none → b ∉ ex → H' b = none
  there : ∀ b o, h.get? b = some o → b ∉ ex → ∃ o', h'.get? b = some o'
  tups : ∀ b xs, H b = some (.tup xs) → H' b = some (.tup xs)
  frzs : ∀ b o u, H b = some (.frz o u) → H' b = some (.frz o u)
  tbls : ∀ b ps, H b = some (.tbl ps) → ∃ more, H' b = some (.tbl (ps ++ more))
section
variable {fs fs' ex ex' : List Addr} {H H1 H2 : Hp} {h h1 h2 h' : Heap} {a x e : Addr} {o : HO}
theorem Un.any (u : Un fs ex H H1 h h1) {b : Addr} {ob : Obj} (q : h.get? b = some ob) (n : H b = none) (hx : b ∉ ex) : ∃ sl, h1.get? b = some { ob with slots := sl } := by
  by_cases hb : b ∈ fs
  · exact u.slot b ob q n hb hx
  · exact ⟨ob.slots, u.keep b ob q n hb hx⟩
theorem Un.kept (k : ∀ b u, h.get? b = some u → h'.get? b = some u) : Un fs ex H H h h' :=
  ⟨fun b ob q _ _ _ => k b ob q, fun b ob q _ _ _ => ⟨ob.slots, k b ob q⟩, fun _ _ _ n _ => n, fun b ob q _ => ⟨ob, k b ob q⟩, fun _ _ q => q, fun _ _ _ q => q, fun _ ps q => ⟨#[], by rw [q]; simp⟩⟩
theorem Un.refl : Un fs ex H H h h := Un.kept fun _ _ q => q
theorem Un.laid (k : ∀ b u, h.get? b = some u → h'.get? b = some u) (hp : h.objs.size ≤ a) (hn : H a = none) : Un fs ex H (upd H a o) h h' where
  keep := fun b u q _ _ _ => k b u q
  slot := fun b u q _ _ _ => ⟨u.slots, k b u q⟩
  free := fun b u q n _ => by rw [upd_ne (Nat.ne_of_lt (Nat.lt_of_lt_of_le (Heap.lt_size q) hp))]; exact n
  there := fun b u q _ => ⟨u, k b u q⟩
  tups := fun b xs q => by rw [upd_ne (ne_of_none q hn)]; exact q
  frzs := fun b u xs q => by rw [upd_ne (ne_of_none q hn)]; exact q
  tbls := fun b ps q => ⟨#[], by rw [upd_ne (ne_of_none q hn), q]; simp⟩
theorem Un.write (mu : Mut (H x)) (he : e = x ∨ H e = some (.own x)) (k : ∀ b u, b ≠ e → h.get? b = some u → h'.get? b = some u) (heo : ∃ u, h'.get? e = some u) : Un fs ex H (upd H x o) h h' := by
  have hx : ∀ b, H b = none → b ≠ x := fun b n z => by subst z; rw [n] at mu; exact mu
  have hb : ∀ b, H b = none → b ≠ e := fun b n z => by
    subst z
    rcases he with r | r
    · exact hx b n r
    · rw [n] at r; cases r
  have hm : ∀ b u, H b = some u → ¬ Mut (some u) → b ≠ x := fun b u q nm z => by subst z; rw [q] at mu; exact nm mu
  refine ⟨fun b u q n _ _ => k b u (hb b n) q, fun b u q n _ _ => ⟨u.slots, k b u (hb b n) q⟩, fun b u q n _ => by rw [upd_ne (hx b n)]; exact n, fun b u q _ => ?_,
    fun b xs q => by rw [upd_ne (hm b _ q fun z => z)]; exact q, fun b u xs q => by rw [upd_ne (hm b _ q fun z => z)]; exact q, fun b ps q => ⟨#[], by rw [upd_ne (hm b _ q fun z => z), q]; simp⟩⟩
  by_cases hbe : b = e
  · subst hbe; exact heo
  · exact ⟨u, k b u hbe q⟩
end

/-! ### the heap without what is tracked -/
def trk (h : Heap) (H : Hp) : List Addr := (List.range h.objs.size).filter fun a => (H a).isSome
def hidT (h : Heap) (H : Hp) : Heap := PySem.W.hideAll h (trk h H)
theorem hidT_size (h : Heap) (H : Hp) : (hidT h H).objs.size = h.objs.size := PySem.W.hideAll_size _ _
theorem hidT_get {h : Heap} {H : Hp} {b : Addr} {o : Obj} (e : h.get? b = some o) (n : H b = none) : (hidT h H).get? b = some o :=
  PySem.W.hideAll_get _ e fun hm => by
    have q : (H b).isSome = true := (List.mem_filter.mp hm).2
    rw [n] at q; simp at q
theorem of_hidT {h : Heap} {H : Hp} {b : Addr} {o : Obj} (e : (hidT h H).get? b = some o) : h.get? b = some o ∧ H b = none := by
  have e' : h.get? b = some o := PySem.W.of_hideAll (trk h H) e
  refine ⟨e', ?_⟩
  cases q : H b with
  | none => rfl
  | some x =>
    have hm : b ∈ trk h H := List.mem_filter.mpr ⟨List.mem_range.mpr (Heap.lt_size e'), by simp [q]⟩
    have z : (hidT h H).get? b = none := PySem.W.hideAll_none (trk h H) hm
    rw [z] at e; cases e

/-! ### OpenK's ledger, filled with every new object but one -/
def allNews (g h : Heap) (L : Addr) : List (Addr × Obj) := (List.range h.objs.size).filterMap fun a => if a = L ∨ (g.get? a).isSome = true then none else (h.get? a).map fun o => (a, o)
def rest (g h : Heap) (L d : Addr) : List (Addr × Obj) := (allNews g h L).filter fun p => decide (p.1 ≠ d)
end L2

namespace L2
open PySem PySem.Spec PyProof.Rows

/-- the module's facts, over the base: the heap at the law's entry without what is tracked there -/
structure Mod (K : PySem.W.Frag) (mg : Str → Option Value) (base : Heap) : Prop where
  kin : K.In base
  glob : base.Ns mainGlobals mg
  blt : ∃ mb, base.Ns builtinsNs mb ∧ ∀ x : Str, x ≠ "__name__" → mb x = bootBuiltins x
  nolimit : base.NoLimit

/-- the context: a def's body (or a comprehension's block) running. base: fixed through the whole law; s₀, H₀: the entry; outer: the frames whose slots others may change (a def's callers); stack: all frames that run;
   ex: iterators that were made ahead of the entry and are walked here (a comprehension's); fn: the names whose cells were made at the entry (a def: all; a comprehension's block: its own); calm: not within an except suite; pn: pins that every state bears; xe: what is wanted of an exception that leaves the code -/
structure Cx where
  prog : Program
  w : World
  K : PySem.W.Frag
  mg : Str → Option Value
  base : Heap
  A : Around
  N : List Str
  s₀ : Shared
  H₀ : Hp
  env : Env
  outer : List Env
  stack : List Env
  ex : List Addr
  fn : Str → Bool
  calm : Bool
  pn : List (Addr × Obj)
  xe : Value → Shared → Prop
/-- the callers' frames -/
def frs (l : List Env) : List Addr := l.filterMap (·.frame)
abbrev Cx.fs (X : Cx) : List Addr := frs X.outer

def Vis (sc : Scope) (x : Str) : Prop := sc.names.lookup x = some .local ∨ sc.names.lookup x = some .cell ∨ sc.names.lookup x = some .free
def Loc (sc : Scope) (x : Str) : Prop := sc.names.lookup x = some .local ∨ sc.names.lookup x = some .cell
def Look (env : Env) (h : Heap) (m : Str → Option Value) (x : Str) (u : Value) : Prop :=
  (env.kindOf x = some .local ∧ m x = some u) ∨ ((env.kindOf x = some .cell ∨ env.kindOf x = some .free) ∧ ∃ c, env.cells.lookup x = some c ∧ h.IsCell c (some u))

structure Cx.Ok (X : Cx) : Prop where
  mod : Mod X.K X.mg X.base
  kind : X.env.scope.kind = .function
  glob : X.env.globals = mainGlobals
  blt : X.env.builtins = builtinsNs
  above : X.s₀.heap.objs.size ≤ X.env.locals
  inj : ∀ x y c, X.env.cells.lookup x = some c → X.env.cells.lookup y = some c → x = y
  has : ∀ x, (X.env.kindOf x = some .cell ∨ X.env.kindOf x = some .free) → ∃ c, X.env.cells.lookup x = some c
  cab : ∀ x c, X.fn x = true → X.env.cells.lookup x = some c → X.s₀.heap.objs.size ≤ c
  hd : X.calm = true → X.A.handled = none
  frames : X.A.frames = some X.stack
  stk : X.stack = X.outer ∨ (X.stack = X.env :: X.outer ∧ X.env.frame = some X.env.locals)
  exf : ∀ b ∈ X.ex, b ≠ X.env.locals ∧ ∀ x c, X.env.cells.lookup x = some c → c ≠ b
  bs : ∀ b o, X.base.get? b = some o → X.s₀.heap.get? b = some o ∧ X.H₀ b = none
  bsz : X.base.objs.size ≤ X.s₀.heap.objs.size
  noex : ∀ b o, X.base.get? b = some o → b ∉ X.ex
  exfs : ∀ b ∈ X.ex, b ∉ X.fs
  funs : X.s₀.heap.FunFrames X.base X.outer
  frf : ∀ b ∈ X.fs, X.H₀ b = none

structure Inv (X : Cx) (pins : List (Addr × Obj)) (σ : List (Option V)) (H : Hp) (s : Shared) : Prop where
  ok : X.Ok
  os : s.os = X.s₀.os
  bare : AllBare s.gens
  base : Un X.fs X.ex X.H₀ H X.s₀.heap s.heap
  loc : ∃ m, s.heap.Ns X.env.locals m ∧ ∀ (i : Nat) (x : Str) (v : V), X.N[i]? = some x → σ[i]? = some (some v) → Vis X.env.scope x → ∃ u, RelV v u ∧ Look X.env s.heap m x u
  cell : ∀ x c, X.env.cells.lookup x = some c → ∃ v, s.heap.IsCell c v
  free : H X.env.locals = none
  freeC : ∀ x c, X.env.cells.lookup x = some c → H c = none
  pin : ∀ p ∈ X.pn ++ pins, s.heap.get? p.1 = some p.2 ∧ H p.1 = none ∧ p.1 ≠ X.env.locals ∧ p.1 ∉ X.fs ∧ ∀ v, p.2.data ≠ .cell v
  hok : HOk X.prog X.w H s.heap
  len : σ.length = X.N.length

section
variable {X : Cx} {pins : List (Addr × Obj)} {σ : List (Option V)} {H H' : Hp} {s : Shared} {h' : Heap}

theorem Cx.Ok.nofr (ok : X.Ok) {b : Addr} {o : Obj} (e : X.base.get? b = some o) : b ∉ X.fs := fun hb => by
  have := (ok.funs.mem hb).1
  rw [e] at this; cases this
theorem Inv.bs (I : Inv X pins σ H s) : ∀ b o, X.base.get? b = some o → s.heap.get? b = some o ∧ H b = none := fun b o e =>
  ⟨I.base.keep b o (I.ok.bs b o e).1 (I.ok.bs b o e).2 (I.ok.nofr e) (I.ok.noex b o e), I.base.free b o (I.ok.bs b o e).1 (I.ok.bs b o e).2 (I.ok.noex b o e)⟩
theorem Inv.bk (I : Inv X pins σ H s) : ∀ b o, X.base.get? b = some o → s.heap.get? b = some o := fun b o e => (I.bs b o e).1
theorem Inv.mod (I : Inv X pins σ H s) : Mod X.K X.mg X.base := I.ok.mod
theorem Inv.kIn (I : Inv X pins σ H s) : X.K.In s.heap := I.ok.mod.kin.keeps I.bk
theorem Inv.lt (I : Inv X pins σ H s) : X.env.locals < s.heap.objs.size := let ⟨_, hn, _⟩ := I.loc; hn.lt
theorem Inv.sz (I : Inv X pins σ H s) : X.s₀.heap.objs.size ≤ s.heap.objs.size := Nat.le_trans I.ok.above (Nat.le_of_lt I.lt)
theorem Inv.nofs (I : Inv X pins σ H s) {a : Addr} (h : s.heap.objs.size ≤ a) : a ∉ X.fs := fun hb => by
  obtain ⟨_, o, ho, _⟩ := I.ok.funs.mem hb
  exact absurd (Nat.lt_of_lt_of_le (Heap.lt_size ho) (Nat.le_trans I.sz h)) (Nat.lt_irrefl _)
theorem Inv.cne (I : Inv X pins σ H s) : ∀ x c, X.env.cells.lookup x = some c → c ≠ X.env.locals := fun x c e z => by
  obtain ⟨v, o, ho, hd⟩ := I.cell x c e
  obtain ⟨m, ⟨o', es, ep, ho', hd', _⟩, _⟩ := I.loc
  rw [z, ho'] at ho; cases ho; rw [hd'] at hd; cases hd
theorem Inv.funs (I : Inv X pins σ H s) : s.heap.FunFrames X.base X.outer := by
  have all : ∀ (l : List Env), (∀ b ∈ frs l, b ∈ X.fs) → X.s₀.heap.FunFrames X.base l → s.heap.FunFrames X.base l := by
    intro l
    induction l with
    | nil => intro _ _; trivial
    | cons env r ih =>
      intro hs hl
      obtain ⟨hk, ⟨L, o, hf, hn, ho, hd⟩, hr⟩ := hl
      have hL : L ∈ X.fs := hs L (by unfold frs; rw [List.filterMap_cons, hf]; exact List.mem_cons_self)
      obtain ⟨sl, e⟩ := I.base.slot L o ho (I.ok.frf L hL) hL fun z => I.ok.exfs L z hL
      exact ⟨hk, ⟨L, _, hf, hn, e, hd⟩, ih (fun b hb => hs b (by unfold frs; rw [List.filterMap_cons, hf]; exact List.mem_cons_of_mem _ hb)) hr⟩
  exact all X.outer (fun _ hb => hb) I.ok.funs

/-- the frames that run, for a call -/
theorem Inv.stack (I : Inv X pins σ H s) : s.heap.FunFrames X.base X.stack := by
  rcases I.ok.stk with e | ⟨e, hf⟩
  · rw [e]; exact I.funs
  · rw [e]
    obtain ⟨m, hn, _⟩ := I.loc
    refine .cons (by rw [I.ok.kind]; decide) hf hn ?_ I.funs
    exact Heap.get?_none_of_le (Nat.le_trans I.ok.bsz I.ok.above)
theorem Inv.stkSub (I : Inv X pins σ H s) : ∀ b ∈ frs X.stack, b ∈ X.env.locals :: X.fs := fun b hb => by
  rcases I.ok.stk with e | ⟨e, hf⟩
  · rw [e] at hb; exact List.mem_cons_of_mem _ hb
  · rw [e] at hb
    unfold frs at hb
    rw [List.filterMap_cons, hf] at hb
    exact hb
theorem Inv.stkFree (I : Inv X pins σ H s) : ∀ b ∈ frs X.stack, H b = none := fun b hb => by
  rcases List.mem_cons.mp (I.stkSub b hb) with e | hb
  · rw [e]; exact I.free
  · obtain ⟨_, o, ho, _⟩ := I.ok.funs.mem hb
    exact I.base.free b o ho (I.ok.frf b hb) fun z => I.ok.exfs b z hb

/-- THE STEP: the untracked objects but the frame and the records at ch are kept (the callers' frames up to slots), the frame's map is kept, the new abstract heap is held -/
theorem Inv.step {g' : Array GenState} {t' : Nat} {d' : Drawn} {ch : List Addr} (I : Inv X pins σ H s)
    (hch : ∀ b ∈ ch, (b ∈ X.ex ∨ X.s₀.heap.objs.size ≤ b) ∧ b ≠ X.env.locals ∧ (∀ x c, X.env.cells.lookup x = some c → c ≠ b) ∧ ∀ p ∈ X.pn ++ pins, p.1 ≠ b)
    (keep : ∀ b o, b ≠ X.env.locals → b ∉ X.fs → b ∉ ch → s.heap.get? b = some o → H b = none → h'.get? b = some o)
    (slot : ∀ b o, b ≠ X.env.locals → b ∈ X.fs → b ∉ ch → s.heap.get? b = some o → H b = none → ∃ sl, h'.get? b = some { o with slots := sl }) (free : ∀ b o, b ∉ ch → s.heap.get? b = some o → H b = none → H' b = none)
    (there : ∀ b o, b ∉ ch → s.heap.get? b = some o → ∃ o', h'.get? b = some o')
    (tups : ∀ b xs, H b = some (.tup xs) → H' b = some (.tup xs)) (frzs : ∀ b o u, H b = some (.frz o u) → H' b = some (.frz o u)) (tbls : ∀ b ps, H b = some (.tbl ps) → ∃ more, H' b = some (.tbl (ps ++ more)))
    (ns : ∀ m, s.heap.Ns X.env.locals m → h'.Ns X.env.locals m) (hok : HOk X.prog X.w H' h') (hg : AllBare g') :
    Inv X pins σ H' { s with heap := h', gens := g', drawn := d', toks := t' } := by
  have neL : ∀ b o, X.s₀.heap.get? b = some o → b ≠ X.env.locals := fun b o e => Nat.ne_of_lt (Nat.lt_of_lt_of_le (Heap.lt_size e) I.ok.above)
  have neC : ∀ b o, X.s₀.heap.get? b = some o → b ∉ X.ex → b ∉ ch := fun b o e hx hb => by
    rcases (hch b hb).1 with z | z
    · exact hx z
    · exact absurd (Nat.lt_of_lt_of_le (Heap.lt_size e) z) (Nat.lt_irrefl _)
  have cellK : ∀ x c, X.env.cells.lookup x = some c → ∀ v, s.heap.IsCell c v → h'.IsCell c v := fun x c e v ⟨o, ho, hd⟩ => by
    have nch : c ∉ ch := fun z => (hch c z).2.2.1 x c e rfl
    by_cases hc : c ∈ X.fs
    · obtain ⟨sl, q⟩ := slot c o (I.cne x c e) hc nch ho (I.freeC x c e)
      exact ⟨_, q, hd⟩
    · exact ⟨o, keep c o (I.cne x c e) hc nch ho (I.freeC x c e), hd⟩
  refine ⟨I.ok, I.os, hg, ⟨fun b o e n hb hx => ?_, fun b o e n hb hx => ?_, fun b o e n hx => ?_, fun b o e hx => ?_, fun b xs e => tups b xs (I.base.tups b xs e), fun b o xs e => frzs b o xs (I.base.frzs b o xs e), fun b ps e => ?_⟩, ?_, fun x c e => ?_, ?_, fun x c e => ?_, fun p hp => ?_, hok, I.len⟩
  · exact keep b o (neL b o e) hb (neC b o e hx) (I.base.keep b o e n hb hx) (I.base.free b o e n hx)
  · obtain ⟨sl, e1⟩ := I.base.slot b o e n hb hx
    obtain ⟨sl', e2⟩ := slot b _ (neL b o e) hb (neC b o e hx) e1 (I.base.free b o e n hx)
    exact ⟨sl', e2⟩
  · obtain ⟨o', e1⟩ := I.base.there b o e hx
    exact free b o' (neC b o e hx) e1 (I.base.free b o e n hx)
  · obtain ⟨o', e1⟩ := I.base.there b o e hx
    exact there b o' (neC b o e hx) e1
  · obtain ⟨m1, e1⟩ := I.base.tbls b ps e
    obtain ⟨m2, e2⟩ := tbls b _ e1
    exact ⟨m1 ++ m2, by rw [e2, Array.append_assoc]⟩
  · obtain ⟨m, hn, hl⟩ := I.loc
    refine ⟨m, ns m hn, fun i x v e1 e2 e3 => ?_⟩
    obtain ⟨u, r, l⟩ := hl i x v e1 e2 e3
    refine ⟨u, r, ?_⟩
    rcases l with l | ⟨k, c, e, z⟩
    · exact .inl l
    · exact .inr ⟨k, c, e, cellK x c e _ z⟩
  · obtain ⟨v, z⟩ := I.cell x c e
    exact ⟨v, cellK x c e v z⟩
  · obtain ⟨m, ⟨o, _, _, ho, _⟩, _⟩ := I.loc
    exact free _ o (fun z => (hch _ z).2.1 rfl) ho I.free
  · obtain ⟨v, o, ho, hd⟩ := I.cell x c e
    exact free c o (fun z => (hch c z).2.2.1 x c e rfl) ho (I.freeC x c e)
  · obtain ⟨e, n, ne, nf, d⟩ := I.pin p hp
    have nch : p.1 ∉ ch := fun z => (hch p.1 z).2.2.2 p hp rfl
    exact ⟨keep p.1 p.2 ne nf nch e n, free p.1 p.2 nch e n, ne, nf, d⟩
/-- .. where the frame's own object is kept too -/
theorem Inv.un {t' : Nat} (I : Inv X pins σ H s) (u : Un X.fs [] H H' s.heap h') (hok : HOk X.prog X.w H' h') : Inv X pins σ H' { s with heap := h', toks := t' } := by
  obtain ⟨m, ⟨o, es, ep, ho, r⟩, _⟩ := id I.loc
  obtain ⟨sl, hL⟩ := u.any ho I.free (by simp)
  exact I.step (g' := s.gens) (d' := s.drawn) (ch := []) (fun _ z => nomatch z) (fun b o _ hb _ e n => u.keep b o e n hb (by simp)) (fun b o _ hb _ e n => u.slot b o e n hb (by simp)) (fun b o _ e n => u.free b o e n (by simp)) (fun b o _ e => u.there b o e (by simp)) u.tups u.frzs u.tbls (fun m' hm => by
    obtain ⟨o', es', ep', ho', r'⟩ := hm
    rw [ho] at ho'; cases ho'
    exact ⟨_, es', ep', hL, r'⟩) hok I.bare
/-- behind a call (or a comprehension's block): the slots of this frame may have changed too, the records at ch may have turned -/
theorem Inv.call {g' : Array GenState} {t' : Nat} {d' : Drawn} {ch : List Addr} (I : Inv X pins σ H s) (u : Un (frs X.stack) ch H H' s.heap h') (hok : HOk X.prog X.w H' h') (hg : AllBare g')
    (hch : ∀ b ∈ ch, (b ∈ X.ex ∨ X.s₀.heap.objs.size ≤ b) ∧ b ≠ X.env.locals ∧ (∀ x c, X.env.cells.lookup x = some c → c ≠ b) ∧ ∀ p ∈ X.pn ++ pins, p.1 ≠ b) :
    Inv X pins σ H' { s with heap := h', gens := g', drawn := d', toks := t' } := by
  obtain ⟨m, ⟨o, es, ep, ho, r⟩, _⟩ := id I.loc
  obtain ⟨sl, hL⟩ := u.any ho I.free fun z => (hch _ z).2.1 rfl
  exact I.step (ch := ch) hch (fun b o hL hb hc e n => u.keep b o e n (fun z => (List.mem_cons.mp (I.stkSub b z)).elim hL hb) hc) (fun b o _ _ hc e n => u.any e n hc) (fun b o hc e n => u.free b o e n hc) (fun b o hc e => u.there b o e hc) u.tups u.frzs u.tbls (fun m' hm => by
    obtain ⟨o', es', ep', ho', r'⟩ := hm
    rw [ho] at ho'; cases ho'
    exact ⟨_, es', ep', hL, r'⟩) hok hg
/-- an untracked record of ours (an iterator) has turned -/
theorem Inv.turned {t' : Nat} {it : Addr} (I : Inv X pins σ H s) (k : ∀ b o, b ≠ it → s.heap.get? b = some o → h'.get? b = some o) (hn : H it = none) (hL : it ≠ X.env.locals)
    (h1 : it ∈ X.ex ∨ X.s₀.heap.objs.size ≤ it) (h2 : ∀ x c, X.env.cells.lookup x = some c → c ≠ it) (h3 : ∀ p ∈ X.pn ++ pins, p.1 ≠ it) : Inv X pins σ H { s with heap := h', toks := t' } := by
  have nit : ∀ b u, H b = some u → b ≠ it := fun b u e z => by rw [z, hn] at e; cases e
  refine I.step (g' := s.gens) (d' := s.drawn) (ch := [it]) (fun b hb => ?_) (fun b o _ _ hc e _ => k b o (fun z => hc (by simp [z])) e) (fun b o _ _ hc e _ => ⟨o.slots, k b o (fun z => hc (by simp [z])) e⟩) (fun _ _ _ _ n => n)
    (fun b o hc e => ⟨o, k b o (fun z => hc (by simp [z])) e⟩) (fun _ _ e => e) (fun _ _ _ e => e) (fun b ps e => ⟨#[], by rw [e]; simp⟩) (fun m hm => ?_) (fun b u e => ?_) I.bare
  · have e : b = it := by simpa using hb
    subst e
    exact ⟨h1, hL, h2, h3⟩
  · obtain ⟨o, es, ep, ho, r⟩ := hm
    exact ⟨o, es, ep, k _ o (Ne.symm hL) ho, r⟩
  · refine (I.hok b u e).stay (fun c v hc q => k c v ?_ q) (fun _ q => q) fun _ _ q => q
    rcases hc with z | z
    · rw [z]; exact nit b u e
    · exact nit c _ z
theorem Inv.tok (I : Inv X pins σ H s) (t : Nat) : Inv X pins σ H { s with toks := t } := I.un (h' := s.heap) (t' := t) Un.refl I.hok
/-- all objects kept -/
theorem Inv.kept {t' : Nat} (I : Inv X pins σ H s) (k : ∀ b u, s.heap.get? b = some u → h'.get? b = some u) : Inv X pins σ H { s with heap := h', toks := t' } := I.un (Un.kept k) (I.hok.kept k)
/-- a new object laid and tracked -/
theorem Inv.laid {a : Addr} {o : HO} {t' : Nat} (I : Inv X pins σ H s) (k : ∀ b u, s.heap.get? b = some u → h'.get? b = some u) (hp : s.heap.objs.size ≤ a) (new : ObjOk X.prog X.w (upd H a o) h' a o) :
    Inv X pins σ (upd H a o) { s with heap := h', toks := t' } := I.un (Un.laid k hp (I.hok.fresh hp)) (I.hok.laid k hp new)
/-- an object written -/
theorem Inv.write {x e : Addr} {o : HO} {t' : Nat} (I : Inv X pins σ H s) (mu : Mut (H x)) (he : e = x ∨ H e = some (.own x)) (k : ∀ b u, b ≠ e → s.heap.get? b = some u → h'.get? b = some u) (heo : ∃ u, h'.get? e = some u)
    (new : ObjOk X.prog X.w (upd H x o) h' x o) : Inv X pins σ (upd H x o) { s with heap := h', toks := t' } := I.un (Un.write mu he k heo) (I.hok.write mu he k heo new)
theorem Inv.pins_of {pins' : List (Addr × Obj)} (I : Inv X pins σ H s) (h : ∀ p ∈ pins', s.heap.get? p.1 = some p.2 ∧ H p.1 = none ∧ p.1 ≠ X.env.locals ∧ p.1 ∉ X.fs ∧ ∀ v, p.2.data ≠ .cell v) : Inv X pins' σ H s :=
  ⟨I.ok, I.os, I.bare, I.base, I.loc, I.cell, I.free, I.freeC, fun p hp => (List.mem_append.mp hp).elim (fun z => I.pin p (List.mem_append_left _ z)) (h p), I.hok, I.len⟩

theorem nodup_ix {N : List Str} (hN : N.Nodup) {i j : Nat} {x : Str} (a : N[i]? = some x) (b : N[j]? = some x) : i = j := by
  obtain ⟨h1, e1⟩ := List.getElem?_eq_some_iff.mp a
  obtain ⟨h2, e2⟩ := List.getElem?_eq_some_iff.mp b
  exact (List.getElem_inj hN).mp (e1.trans e2.symm)

/-- a name is stored; what changed -/
theorem store_ok2 {M : Model} {A : Around} {E : Value → Shared → Prop} {i : Nat} {x : Str} {v : V} {u : Value} {Q : Unit → Shared → Prop} (I : Inv X pins σ H s) (hN : X.N.Nodup) (hi : X.N[i]? = some x) (hx : Loc X.env.scope x) (r : RelV v u)
    (h : ∀ s', Inv X pins (σ.set i (some v)) H s' → (∃ a, Heap.SameBut a s.heap s'.heap ∧ (a = X.env.locals ∨ X.env.cells.lookup x = some a)) → Q () s') (hf : X.fn x = true ∨ X.env.scope.names.lookup x = some .local := by first | exact .inl rfl | exact .inr rfl | assumption) : wpAny M A (storeName X.env x u) Q E s := by
  obtain ⟨m, hn, hl⟩ := id I.loc
  have hcls : (X.env.scope.kind == .class || (X.env.scope.kind == .module && X.env.locals != X.env.globals)) = false := by rw [I.ok.kind]; rfl
  have hiσ : i < σ.length := by rw [I.len]; exact (List.getElem?_eq_some_iff.mp hi).1
  have cne := I.cne
  have tracked : ∀ {a : Addr} {h' : Heap}, (∃ o, s.heap.get? a = some o ∧ H a = none) → Heap.SameBut a s.heap h' → HOk X.prog X.w H h' := fun {a h'} ha hs b ob e => by
    obtain ⟨_, _, hfree⟩ := ha
    refine (I.hok b ob e).stay (fun c w' hc q => (hs.2 c ?_).trans q) (fun _ q => q) fun _ _ q => q
    rintro rfl
    rcases hc with rfl | hc
    · rw [hfree] at e; cases e
    · rw [hfree] at hc; cases hc
  rcases hx with hk | hk
  · refine wpAny_storeName_local hk hn (fun h' hn' hs => ?_) hcls
    obtain ⟨oL, _, _, hoL, _⟩ := id hn
    refine h _ ⟨I.ok, I.os, I.bare, ⟨fun b o e n hb hx => ?_, fun b o e n hb hx => ?_, I.base.free, fun b o e hx => ?_, I.base.tups, I.base.frzs, I.base.tbls⟩, ⟨_, hn', fun j y v' e1 e2 e3 => ?_⟩, fun y c e => ?_, I.free, I.freeC, fun p hp => ?_, tracked ⟨oL, hoL, I.free⟩ hs, by simpa using I.len⟩ ⟨_, hs, .inl rfl⟩
    · exact (hs.2 b (Nat.ne_of_lt (Nat.lt_of_lt_of_le (Heap.lt_size e) I.ok.above))).trans (I.base.keep b o e n hb hx)
    · obtain ⟨sl, e1⟩ := I.base.slot b o e n hb hx
      exact ⟨sl, (hs.2 b (Nat.ne_of_lt (Nat.lt_of_lt_of_le (Heap.lt_size e) I.ok.above))).trans e1⟩
    · obtain ⟨o', e1⟩ := I.base.there b o e hx
      exact ⟨o', (hs.2 b (Nat.ne_of_lt (Nat.lt_of_lt_of_le (Heap.lt_size e) I.ok.above))).trans e1⟩
    · by_cases hj : j = i
      · subst hj
        rw [hi] at e1; cases e1
        rw [List.getElem?_set_self hiσ] at e2
        cases e2
        exact ⟨u, r, .inl ⟨hk, by simp⟩⟩
      · rw [List.getElem?_set_ne (Ne.symm hj)] at e2
        obtain ⟨u', r', q⟩ := hl j y v' e1 e2 e3
        refine ⟨u', r', ?_⟩
        rcases q with ⟨k, e⟩ | ⟨k, c, e, z⟩
        · refine .inl ⟨k, ?_⟩
          have : y ≠ x := fun e => hj (nodup_ix hN e1 (e ▸ hi))
          simp [this, e]
        · exact .inr ⟨k, c, e, z.sameBut hs (cne y c e)⟩
    · obtain ⟨w', z⟩ := I.cell y c e
      exact ⟨w', z.sameBut hs (cne y c e)⟩
    · obtain ⟨e, n, ne, nf, d⟩ := I.pin p hp
      exact ⟨(hs.2 p.1 ne).trans e, n, ne, nf, d⟩
  · have hfn : X.fn x = true := by
      rcases hf with z | z
      · exact z
      · rw [z] at hk; cases hk
    obtain ⟨c, hc⟩ := I.ok.has x (.inl hk)
    obtain ⟨w', z⟩ := I.cell x c hc
    refine wpAny_storeName_cell I.ok.kind hk hc z (fun h' hc' hs => ?_)
    obtain ⟨oc, hoc, hocd⟩ := id z
    refine h { s with heap := h' } ⟨I.ok, I.os, I.bare, ⟨fun b o e n hb hx => ?_, fun b o e n hb hx => ?_, I.base.free, fun b o e hx => ?_, I.base.tups, I.base.frzs, I.base.tbls⟩, ⟨m, hn.sameBut hs (Ne.symm (cne x c hc)), fun j y v' e1 e2 e3 => ?_⟩, fun y c' e => ?_, I.free, I.freeC, fun p hp => ?_, tracked ⟨oc, hoc, I.freeC x c hc⟩ hs, by simpa using I.len⟩ ⟨c, hs, .inr hc⟩
    · exact (hs.2 b (Nat.ne_of_lt (Nat.lt_of_lt_of_le (Heap.lt_size e) (I.ok.cab x c hfn hc)))).trans (I.base.keep b o e n hb hx)
    · obtain ⟨sl, e1⟩ := I.base.slot b o e n hb hx
      exact ⟨sl, (hs.2 b (Nat.ne_of_lt (Nat.lt_of_lt_of_le (Heap.lt_size e) (I.ok.cab x c hfn hc)))).trans e1⟩
    · obtain ⟨o', e1⟩ := I.base.there b o e hx
      exact ⟨o', (hs.2 b (Nat.ne_of_lt (Nat.lt_of_lt_of_le (Heap.lt_size e) (I.ok.cab x c hfn hc)))).trans e1⟩
    · by_cases hj : j = i
      · subst hj
        rw [hi] at e1; cases e1
        rw [List.getElem?_set_self hiσ] at e2
        cases e2
        exact ⟨u, r, .inr ⟨.inl hk, c, hc, hc'⟩⟩
      · rw [List.getElem?_set_ne (Ne.symm hj)] at e2
        obtain ⟨u', r', q⟩ := hl j y v' e1 e2 e3
        refine ⟨u', r', ?_⟩
        rcases q with q | ⟨k, c', e, z'⟩
        · exact .inl q
        · refine .inr ⟨k, c', e, z'.sameBut hs ?_⟩
          rintro rfl
          exact hj (nodup_ix hN e1 (I.ok.inj _ _ _ e hc ▸ hi))
    · by_cases hcc : c' = c
      · subst hcc; exact ⟨_, hc'⟩
      · obtain ⟨w2, z2⟩ := I.cell y c' e
        exact ⟨w2, z2.sameBut hs hcc⟩
    · obtain ⟨e, n, ne, nf, d⟩ := I.pin p hp
      refine ⟨(hs.2 p.1 ?_).trans e, n, ne, nf, d⟩
      intro q
      rw [q, hoc] at e
      have q' : oc = p.2 := Option.some.inj e
      exact d w' (by rw [← q']; exact hocd)
theorem store_ok {M : Model} {A : Around} {E : Value → Shared → Prop} {i : Nat} {x : Str} {v : V} {u : Value} {Q : Unit → Shared → Prop} (I : Inv X pins σ H s) (hN : X.N.Nodup) (hi : X.N[i]? = some x) (hx : Loc X.env.scope x) (r : RelV v u)
    (h : ∀ s', Inv X pins (σ.set i (some v)) H s' → Q () s') (hf : X.fn x = true ∨ X.env.scope.names.lookup x = some .local := by first | exact .inl rfl | exact .inr rfl | assumption) : wpAny M A (storeName X.env x u) Q E s :=
  store_ok2 I hN hi hx r (fun s' I' _ => h s' I') hf
/-- behind a call or a block, the state as it is -/
theorem Inv.call' {s' : Shared} {ch : List Addr} (I : Inv X pins σ H s) (ho : s'.os = s.os) (u : Un (frs X.stack) ch H H' s.heap s'.heap) (hok : HOk X.prog X.w H' s'.heap) (hg : AllBare s'.gens)
    (hch : ∀ b ∈ ch, (b ∈ X.ex ∨ X.s₀.heap.objs.size ≤ b) ∧ b ≠ X.env.locals ∧ (∀ x c, X.env.cells.lookup x = some c → c ≠ b) ∧ ∀ p ∈ X.pn ++ pins, p.1 ≠ b) : Inv X pins σ H' s' := by
  obtain ⟨h', g', d', t', o'⟩ := s'
  have e : o' = s.os := ho
  subst e
  exact I.call (g' := g') (t' := t') (d' := d') u hok hg hch
end

/-! ### the judgements -/
/-- an exception: its class, its own dict's address (where it has one), the abstract heap behind it -/
abbrev XK := Value → Option Addr → Hp → Prop
abbrev St := List (Option V)
abbrev VK := V → Hp → Prop
/-- an expression's reading; a test's; an argument list's -/
abbrev TE := St → Hp → VK → Prop
abbrev TT := St → Hp → (Bool → Hp → Prop) → Prop
abbrev TA := St → Hp → (List V → Hp → Prop) → Prop
/-- what is wanted behind a statement -/
structure Ends where
  nx : St → Hp → Prop
  rt : VK
  bk : St → Hp → Prop := fun _ _ => False
  ct : St → Hp → Prop := fun _ _ => False
abbrev TS := Ends → St → Hp → Prop

def EP (X : Cx) (pins : List (Addr × Obj)) (σ : St) (Q : VK) (u : Value) (s' : Shared) : Prop := ∃ v H', Inv X pins σ H' s' ∧ RelV v u ∧ Q v H'
def TP (X : Cx) (pins : List (Addr × Obj)) (σ : St) (Q : Bool → Hp → Prop) (b : Bool) (s' : Shared) : Prop := ∃ H', Inv X pins σ H' s' ∧ Q b H'
def AP (X : Cx) (pins : List (Addr × Obj)) (σ : St) (Q : List V → Hp → Prop) (us : List Value) (s' : Shared) : Prop := ∃ vs H', Inv X pins σ H' s' ∧ Vals vs us ∧ Q vs H'
def SP (X : Cx) (pins : List (Addr × Obj)) (D : Ends) (f : Flow) (s' : Shared) : Prop :=
  match f with
  | .next => ∃ σ' H', Inv X pins σ' H' s' ∧ D.nx σ' H'
  | .brk => ∃ σ' H', Inv X pins σ' H' s' ∧ D.bk σ' H'
  | .cont => ∃ σ' H', Inv X pins σ' H' s' ∧ D.ct σ' H'
  | .ret u => ∃ v σ' H', Inv X pins σ' H' s' ∧ RelV v u ∧ D.rt v H'

def PE (X : Cx) (e : Expr) (t : TE) : Prop :=
  ∀ (pins : List (Addr × Obj)) (s : Shared) (σ : St) (H : Hp) (Q : VK), Inv X pins σ H s → t σ H Q → wpAny (model X.prog X.w) X.A (eval e X.env) (EP X pins σ Q) X.xe s
def PT (X : Cx) (e : Expr) (t : TT) : Prop :=
  ∀ (pins : List (Addr × Obj)) (s : Shared) (σ : St) (H : Hp) (Q : Bool → Hp → Prop), Inv X pins σ H s → t σ H Q → wpAny (model X.prog X.w) X.A (isTrue e X.env (eval e X.env)) (TP X pins σ Q) X.xe s
/-- a test whatever its 'whole' is (and, or) -/
def PW (X : Cx) (e : Expr) (t : TT) : Prop :=
  ∀ (whole : Sem Value) (pins : List (Addr × Obj)) (s : Shared) (σ : St) (H : Hp) (Q : Bool → Hp → Prop), Inv X pins σ H s → t σ H Q → wpAny (model X.prog X.w) X.A (isTrue e X.env whole) (TP X pins σ Q) X.xe s
theorem PW.pt {X : Cx} {e : Expr} {t : TT} (h : PW X e t) : PT X e t := h _
/-- an argument list (no star), from the left -/
def PA (X : Cx) (es : List Expr) (t : TA) : Prop :=
  ∀ (pos : Pos) (pins : List (Addr × Obj)) (s : Shared) (σ : St) (H : Hp) (Q : List V → Hp → Prop), Inv X pins σ H s → t σ H Q → wpAny (model X.prog X.w) X.A (spliced (backTo pos (starEach es X.env))) (AP X pins σ Q) X.xe s
def PS (X : Cx) (st : Stmt) (t : TS) : Prop :=
  ∀ (pins : List (Addr × Obj)) (s : Shared) (σ : St) (H : Hp) (D : Ends), Inv X pins σ H s → t D σ H → wpAny (model X.prog X.w) X.A (exec st X.env) (SP X pins D) X.xe s
def PSs (X : Cx) (st : List Stmt) (t : TS) : Prop :=
  ∀ (pins : List (Addr × Obj)) (s : Shared) (σ : St) (H : Hp) (D : Ends), Inv X pins σ H s → t D σ H → wpAny (model X.prog X.w) X.A (execs st X.env) (SP X pins D) X.xe s
/-- weaken the end -/
theorem thn {α : Type} {t : Sem α} {Q Q' : α → Shared → Prop} {M : Model} {A : Around} {E : Value → Shared → Prop} {s : Shared} (h : wpAny M A t Q E s) (hQ : ∀ a s, Q a s → Q' a s) : wpAny M A t Q' E s := wpAny_mono h hQ fun _ _ x => x
end L2

namespace L2
open PySem PySem.Spec PyProof.Rows
section
variable {X : Cx}

/-! ### names and constants -/
def tVar (i : Nat) : TE := fun σ H Q => ∃ v, σ[i]? = some (some v) ∧ Q v H
def tC (v : V) : TE := fun _ H Q => Q v H
theorem pe_var {i : Nat} {x : Str} {pos : Pos} (hN : X.N[i]? = some x) (hv : Vis X.env.scope x) (hd : (x == ("__debug__" : Str)) = false := by decide) (hcd : (x == ("__classdict__" : Str)) = false := by decide) : PE X (.Name x pos) (tVar i) := by
  intro pins s σ H Q I h
  obtain ⟨v, e, h⟩ := h
  obtain ⟨m, hn, hl⟩ := I.loc
  obtain ⟨u, r, l⟩ := hl i x v hN e hv
  have fin : EP X pins σ Q u s := ⟨v, H, I, r, h⟩
  rcases l with ⟨hk, hm⟩ | ⟨hk, c, hc, hcell⟩
  · exact wpAny_Name (wpAny_loadName_local I.ok.kind hk hn hm fin) hd
  · rcases hk with hk | hk
    · exact wpAny_Name (wpAny_loadName_cell I.ok.kind hk hc hcell fin) hd
    · exact wpAny_Name (wpAny_loadName_free I.ok.kind hk hc hcell fin hcd) hd
theorem pe_int {i j pos} : PE X (.Constant (.int i) j pos) (tC (.int i)) := fun _ _ _ H _ I h => wpAny_Constant_int ⟨.int i, H, I.tok _, ⟨_, rfl⟩, h⟩
theorem pe_bl {b j pos} : PE X (.Constant (.bool b) j pos) (tC (.bl b)) := fun _ _ _ H _ I h => Constant_bool ⟨.bl b, H, I, rfl, h⟩
theorem pe_non {j pos} : PE X (.Constant .none j pos) (tC .non) := fun _ _ _ H _ I h => Constant_none ⟨.non, H, I, rfl, h⟩
theorem pe_str {x j pos} : PE X (.Constant (.str x) j pos) (tC (.str x)) := fun _ _ _ H _ I h => Calls.Constant_str ⟨.str x, H, I.tok _, ⟨_, rfl⟩, h⟩

/-- a global name of the def -/
def Gl (X : Cx) (x : Str) : Prop := X.env.kindOf x = some .globalImplicit
theorem ld_glob {E : Value → Shared → Prop} {pins : List (Addr × Obj)} {s : Shared} {σ : St} {H : Hp} {x : Str} {u : Value} {pos : Pos} {Q : Value → Shared → Prop} (I : Inv X pins σ H s) (hg : Gl X x) (hm : X.mg x = some u) (h : Q u s)
    (hd : (x == ("__debug__" : Str)) = false := by decide) : wpAny (model X.prog X.w) X.A (eval (.Name x pos) X.env) Q E s :=
  Calls.Name_function_global I.ok.kind hg (Calls.loadGlobal_global (by rw [I.ok.glob]; exact I.mod.glob.keeps I.bk) hm h) hd
theorem ld_blt {E : Value → Shared → Prop} {pins : List (Addr × Obj)} {s : Shared} {σ : St} {H : Hp} {x : Str} {u : Value} {pos : Pos} {Q : Value → Shared → Prop} (I : Inv X pins σ H s) (hg : Gl X x) (hm : X.mg x = none) (hv : bootBuiltins x = some u) (h : Q u s)
    (hn : x ≠ "__name__" := by decide) (hd : (x == ("__debug__" : Str)) = false := by decide) : wpAny (model X.prog X.w) X.A (eval (.Name x pos) X.env) Q E s := by
  obtain ⟨mb, h1, h2⟩ := I.mod.blt
  exact Calls.Name_function_global I.ok.kind hg (Calls.loadGlobal_builtin (by rw [I.ok.glob]; exact I.mod.glob.keeps I.bk) hm (by rw [I.ok.blt]; exact h1.keeps I.bk) ((h2 x hn).trans hv) h) hd
/-- a module's constant, a class, a function, as a value -/
theorem pe_glob {x : Str} {v : V} {u : Value} {pos : Pos} (hg : Gl X x) (hm : X.mg x = some u) (r : RelV v u) (hd : (x == ("__debug__" : Str)) = false := by decide) : PE X (.Name x pos) (tC v) :=
  fun _ _ _ H _ I h => ld_glob I hg hm ⟨v, H, I, r, h⟩ hd
theorem pe_bltn {x : Str} {v : V} {u : Value} {pos : Pos} (hg : Gl X x) (hm : X.mg x = none) (hv : bootBuiltins x = some u) (r : RelV v u) (hn : x ≠ "__name__" := by decide) (hd : (x == ("__debug__" : Str)) = false := by decide) : PE X (.Name x pos) (tC v) :=
  fun _ _ _ H _ I h => ld_blt I hg hm hv ⟨v, H, I, r, h⟩ hn hd

/-! ### arithmetic -/
/-- two ints -/
def t2I (ta tb : TE) (k : Int → Int → Hp → Prop) : St → Hp → Prop := fun σ H => ta σ H fun x H1 => tb σ H1 fun y H2 => ∃ i j, x = .int i ∧ y = .int j ∧ k i j H2
def tAdd (ta tb : TE) : TE := fun σ H Q => t2I ta tb (fun i j H2 => Q (.int (i + j)) H2) σ H
def tSub (ta tb : TE) : TE := fun σ H Q => t2I ta tb (fun i j H2 => Q (.int (i - j)) H2) σ H
/-- the left factor below 2^64 -/
def tMul (ta tb : TE) : TE := fun σ H Q => t2I ta tb (fun i j H2 => (-(2 ^ 64) < i ∧ i < 2 ^ 64) ∧ Q (.int (i * j)) H2) σ H
variable {a b : Expr} {ta tb : TE} {pos : Pos}
/-! ### comparisons -/
def PC (X : Cx) (op : CmpOp) (a b : Expr) (t : TE) : Prop :=
  ∀ (pins : List (Addr × Obj)) (s : Shared) (σ : St) (H : Hp) (Q : VK), Inv X pins σ H s → t σ H Q →
    wpAny (model X.prog X.w) X.A (eval a X.env) (fun v s₁ => wpAny (model X.prog X.w) X.A (eval b X.env) (fun u s₂ => wpAny (model X.prog X.w) X.A (compareOp op v u) (EP X pins σ Q) X.xe s₂) X.xe s₁) X.xe s
def tCmp (p : Int → Int → Bool) (ta tb : TE) : TE := fun σ H Q => t2I ta tb (fun i j H2 => Q (.bl (p i j)) H2) σ H
abbrev tLt : TE → TE → TE := tCmp fun i j => decide (i < j)
abbrev tLe : TE → TE → TE := tCmp fun i j => decide (i ≤ j)
abbrev tGt : TE → TE → TE := tCmp fun i j => decide (j < i)
abbrev tGe : TE → TE → TE := tCmp fun i j => decide (j ≤ i)
abbrev tEqI : TE → TE → TE := tCmp fun i j => decide (i = j)
abbrev tNeI : TE → TE → TE := tCmp fun i j => !decide (i = j)
/-- is None -/
def tIsN (ta : TE) : TE := fun σ H Q => ta σ H fun x H1 => Q (.bl (decide (x = .non))) H1
def tNotN (ta : TE) : TE := fun σ H Q => ta σ H fun x H1 => Q (.bl (!decide (x = .non))) H1
/-- a comparison as a value, as a test -/
def tB (t : TE) : TT := fun σ H Q => t σ H fun x H1 => ∃ c, x = .bl c ∧ Q c H1
/-- an expression whose value is a bool, as a test -/
theorem pt_val {e : Expr} {t : TE} (h : PE X e t) (he : ∀ whole, isTrue e X.env whole = (do let v ← whole; standAt e.pos; holding [v] (truthy v)) := by intro _; rfl) : PT X e (tB t) := by
  intro pins s σ H Q I hw
  refine isTrue_plain (thn (h pins s σ H _ I hw) fun v s1 ⟨x, H1, I1, r1, q1⟩ => ?_) (he _)
  obtain ⟨d, rfl, q⟩ := q1
  cases r1
  exact wpAny_truthy_bool ⟨H1, I1, q⟩

/-! ### and, or, not -/
variable {tA tB' : TT} {rest : List Expr}
def tAnd (t u : TT) : TT := fun σ H Q => t σ H fun c H1 => if c = true then u σ H1 Q else Q false H1
def tOr (t u : TT) : TT := fun σ H Q => t σ H fun c H1 => if c = true then Q true H1 else u σ H1 Q
def tNot (t : TT) : TT := fun σ H Q => t σ H fun c H1 => Q (!c) H1
theorem pw_or1 (ha : PT X a tA) : PW X (.BoolOp .Or [a] pos) tA := by
  intro wh pins s σ H Q I h
  refine isTrue_or (thn (ha pins s σ H Q I h) fun c s1 e => ?_)
  cases c with
  | false => exact isTrue_or_nil e
  | true => exact e
theorem pw_or (ha : PT X a tA) (hb : PW X (.BoolOp .Or (b :: rest) pos) tB') : PW X (.BoolOp .Or (a :: b :: rest) pos) (tOr tA tB') := by
  intro wh pins s σ H Q I h
  refine isTrue_or (thn (ha pins s σ H _ I h) fun c s1 ⟨H1, I1, q1⟩ => ?_)
  cases c with
  | true => exact ⟨H1, I1, q1⟩
  | false => exact hb wh pins s1 σ H1 Q I1 q1
theorem pt_not (ha : PT X a tA) : PT X (.UnaryOp .Not a pos) (tNot tA) := by
  intro pins s σ H Q I h
  exact isTrue_not (ha pins s σ H (fun c H1 => Q (!c) H1) I h)
/-- .. as values (bools) -/
def tAndV (ta tb : TE) : TE := fun σ H Q => ta σ H fun x H1 => ∃ c, x = .bl c ∧ if c = true then tb σ H1 Q else Q (.bl false) H1
def tOrV (ta tb : TE) : TE := fun σ H Q => ta σ H fun x H1 => ∃ c, x = .bl c ∧ if c = true then Q (.bl true) H1 else tb σ H1 Q
def tNotV (ta : TE) : TE := fun σ H Q => ta σ H fun x H1 => ∃ c, x = .bl c ∧ Q (.bl (!c)) H1
theorem pe_one {op} {t : TE} (h : PE X a t) : PE X (.BoolOp op [a] pos) t := fun pins s σ H Q I hw => BoolOp_one (h pins s σ H Q I hw)
theorem pe_and (ha : PE X a ta) (hb : PE X (.BoolOp .And (b :: rest) pos) tb) : PE X (.BoolOp .And (a :: b :: rest) pos) (tAndV ta tb) := by
  intro pins s σ H Q I h
  refine BoolOp_and (thn (ha pins s σ H _ I h) fun v s1 ⟨x, H1, I1, r1, q1⟩ => ?_)
  obtain ⟨c, rfl, q1⟩ := q1
  cases r1
  refine wpAny_truthy_bool ?_
  cases c with
  | true => exact hb pins s1 σ H1 Q I1 q1
  | false => exact ⟨.bl false, H1, I1, rfl, q1⟩
theorem pe_or (ha : PE X a ta) (hb : PE X (.BoolOp .Or (b :: rest) pos) tb) : PE X (.BoolOp .Or (a :: b :: rest) pos) (tOrV ta tb) := by
  intro pins s σ H Q I h
  refine BoolOp_or (thn (ha pins s σ H _ I h) fun v s1 ⟨x, H1, I1, r1, q1⟩ => ?_)
  obtain ⟨c, rfl, q1⟩ := q1
  cases r1
  refine wpAny_truthy_bool ?_
  cases c with
  | false => exact hb pins s1 σ H1 Q I1 q1
  | true => exact ⟨.bl true, H1, I1, rfl, q1⟩
/-- a if t else b -/
def tIf (t : TT) (ta tb : TE) : TE := fun σ H Q => t σ H fun c H1 => if c = true then ta σ H1 Q else tb σ H1 Q
theorem pe_ifExp {c : Expr} (hc : PT X c tA) (ha : PE X a ta) (hb : PE X b tb) : PE X (.IfExp c a b pos) (tIf tA ta tb) := by
  intro pins s σ H Q I h
  refine wpAny_IfExp (thn (hc pins s σ H _ I h) fun d s1 ⟨H1, I1, q1⟩ => ?_)
  cases d with
  | true => exact ha pins s1 σ H1 Q I1 q1
  | false => exact hb pins s1 σ H1 Q I1 q1
end
end L2

namespace L2
open PySem PySem.Spec PyProof.Rows

/-! ### a list, a tuple that is read: tracked, frozen, or an object of the module -/
def SqL (K : PySem.W.Frag) (H : Hp) (a : Addr) (xs : List V) : Prop :=
  Rd H a (.lst xs) ∨
    ∃ (o : Obj) (its : Array Value) (n : Nat), K.lookup a = some o ∧ o.cls = .type "list" ∧ o.dict = none ∧ o.data = .seq its n ∧ its.size ≤ sizeLine ∧ Vals xs its.toList
def SqT (K : PySem.W.Frag) (H : Hp) (a : Addr) (xs : List V) : Prop :=
  Rd H a (.tup xs) ∨
    ∃ (o : Obj) (its : Array Value) (n : Nat), K.lookup a = some o ∧ o.cls = .type "tuple" ∧ o.data = .seq its n ∧ its.size ≤ sizeLine ∧ Vals xs its.toList
def absV : Value → Option V
  | .none => some .non
  | .bool b => some (.bl b)
  | .int i _ => some (.int i)
  | .str x _ => some (.str x)
  | .bytes b _ => some (.byt b)
  | .float b _ => some (.flt b)
  | .ref a => some (.ref a)
  | .type n => some (.ty n)
  | _ => none
theorem RelV.abs {x : V} {u : Value} (r : RelV x u) : absV u = some x := by
  cases x with
  | non => cases r; rfl
  | bl _ => cases r; rfl
  | int _ => obtain ⟨t, rfl⟩ := r; rfl
  | str _ => obtain ⟨t, rfl⟩ := r; rfl
  | byt _ => obtain ⟨t, rfl⟩ := r; rfl
  | flt _ => obtain ⟨t, rfl⟩ := r; rfl
  | ref _ => cases r; rfl
  | ty _ => cases r; rfl
theorem RelV.inj {x y : V} {u : Value} (r : RelV x u) (q : RelV y u) : x = y := Option.some.inj (r.abs.symm.trans q.abs)
theorem Vals.inj : ∀ {xs ys : List V} {us : List Value}, Vals xs us → Vals ys us → xs = ys
  | _, _, _, .nil, .nil => rfl
  | _, _, _, .cons r t, .cons r' t' => by rw [r.inj r', Vals.inj t t']
section
variable {X : Cx} {pins : List (Addr × Obj)} {σ : St} {H : Hp} {s : Shared} {a : Addr} {xs ys : List V}
theorem SqL.of {K : PySem.W.Frag} (h : H a = some (.lst xs)) : SqL K H a xs := .inl (.inl h)
theorem SqT.of {K : PySem.W.Frag} (h : H a = some (.tup xs)) : SqT K H a xs := .inl (.inl h)
theorem Inv.list (I : Inv X pins σ H s) (h : SqL X.K H a xs) : ∃ its : List Value, Vals xs its ∧ PlainL s.heap a its.toArray ∧ xs.length ≤ sizeLine := by
  rcases h with h | ⟨o, its, n, hk, hc, hd, hs, hz, r⟩
  · obtain ⟨z, its, n, r, e⟩ := h.ok I.hok
    exact ⟨its, r, ⟨_, n, e, rfl, rfl, rfl⟩, z⟩
  · refine ⟨its.toList, r, ⟨o, n, I.kIn a o hk, hc, hd, by simpa using hs⟩, ?_⟩
    have e := r.length
    simp only [Array.length_toList] at e
    omega
theorem Inv.tuple (I : Inv X pins σ H s) (h : SqT X.K H a xs) : ∃ its : List Value, Vals xs its ∧ IsTup s.heap a its.toArray ∧ xs.length ≤ sizeLine := by
  rcases h with h | ⟨o, its, n, hk, hc, hs, hz, r⟩
  · obtain ⟨z, its, r, p⟩ := h.ok I.hok
    exact ⟨its, r, p, z⟩
  · refine ⟨its.toList, r, ⟨o, I.kIn a o hk, hc, n, by simpa using hs⟩, ?_⟩
    have e := r.length
    simp only [Array.length_toList] at e
    omega
theorem Inv.list_inj (I : Inv X pins σ H s) (h : SqL X.K H a xs) (h' : SqL X.K H a ys) : xs = ys := by
  obtain ⟨its, r, ⟨o, n, e, _, _, d⟩, _⟩ := I.list h
  obtain ⟨its', r', ⟨o', n', e', _, _, d'⟩, _⟩ := I.list h'
  rw [e] at e'; cases e'
  rw [d] at d'
  injection d' with d1 _
  have : its = its' := by simpa using congrArg Array.toList d1
  subst this
  exact r.inj r'
theorem Inv.tuple_inj (I : Inv X pins σ H s) (h : SqT X.K H a xs) (h' : SqT X.K H a ys) : xs = ys := by
  obtain ⟨its, r, ⟨o, e, _, n, d⟩, _⟩ := I.tuple h
  obtain ⟨its', r', ⟨o', e', _, n', d'⟩, _⟩ := I.tuple h'
  rw [e] at e'; cases e'
  rw [d] at d'
  injection d' with d1 _
  have : its = its' := by simpa using congrArg Array.toList d1
  subst this
  exact r.inj r'
end

/-! ### another wish about exceptions -/
abbrev Cx.wish (X : Cx) (E : Value → Shared → Prop) : Cx := { X with xe := E }
/-- no exception leaves -/
abbrev Cx.nox (X : Cx) : Cx := X.wish fun _ _ => False
theorem Cx.Ok.wish {X : Cx} (ok : X.Ok) (E : Value → Shared → Prop) : (X.wish E).Ok :=
  ⟨ok.mod, ok.kind, ok.glob, ok.blt, ok.above, ok.inj, ok.has, ok.cab, ok.hd, ok.frames, ok.stk, ok.exf, ok.bs, ok.bsz, ok.noex, ok.exfs, ok.funs, ok.frf⟩
theorem Cx.Ok.unwish {X : Cx} {E : Value → Shared → Prop} (ok : (X.wish E).Ok) : X.Ok :=
  ⟨ok.mod, ok.kind, ok.glob, ok.blt, ok.above, ok.inj, ok.has, ok.cab, ok.hd, ok.frames, ok.stk, ok.exf, ok.bs, ok.bsz, ok.noex, ok.exfs, ok.funs, ok.frf⟩
section
variable {X : Cx} {pins : List (Addr × Obj)} {σ : St} {H : Hp} {s : Shared} {E : Value → Shared → Prop}
theorem Inv.wish (I : Inv X pins σ H s) (E : Value → Shared → Prop) : Inv (X.wish E) pins σ H s := ⟨I.ok.wish E, I.os, I.bare, I.base, I.loc, I.cell, I.free, I.freeC, I.pin, I.hok, I.len⟩
theorem Inv.unwish (I : Inv (X.wish E) pins σ H s) : Inv X pins σ H s := ⟨I.ok.unwish, I.os, I.bare, I.base, I.loc, I.cell, I.free, I.freeC, I.pin, I.hok, I.len⟩
theorem SP.unwish {D : Ends} {f : Flow} {s' : Shared} (h : SP (X.wish E) pins D f s') : SP X pins D f s' := by
  cases f with
  | next => obtain ⟨σ', H', I, q⟩ := h; exact ⟨σ', H', I.unwish, q⟩
  | brk => obtain ⟨σ', H', I, q⟩ := h; exact ⟨σ', H', I.unwish, q⟩
  | cont => obtain ⟨σ', H', I, q⟩ := h; exact ⟨σ', H', I.unwish, q⟩
  | ret u => obtain ⟨v, σ', H', I, r, q⟩ := h; exact ⟨v, σ', H', I.unwish, r, q⟩
theorem PSs.nox {st : List Stmt} {t : TS} (h : PSs X.nox st t) : PSs X st t := fun pins s σ H D I hw =>
  wpAny_mono (h pins s σ H D (I.wish _) hw) (fun _ _ q => q.unwish) fun _ _ z => False.elim z
end

/-! ### blocks and small statements -/
section
variable {X : Cx} {st : Stmt} {rest : List Stmt} {t u : TS} {e : Expr} {te : TE} {pos : Pos}
def tNext : TS := fun D σ H => D.nx σ H
def tSeq (t u : TS) : TS := fun D σ H => t { D with nx := u D } σ H
theorem pss_nil : PSs X [] tNext := fun _ _ σ H _ I h => wpAny_execs_nil ⟨σ, H, I, h⟩
theorem pss_cons (h1 : PS X st t) (h2 : PSs X rest u) : PSs X (st :: rest) (tSeq t u) := by
  intro pins s σ H D I h
  refine wpAny_execs_cons (thn (h1 pins s σ H { D with nx := u D } I h) fun f s1 q => ?_)
  cases f with
  | next =>
    obtain ⟨σ', H', I', q⟩ := q
    exact h2 pins s1 σ' H' D I' q
  | ret v => exact q
  | brk => exact q
  | cont => exact q
theorem pss_one (h1 : PS X st t) : PSs X [st] t := by
  intro pins s σ H D I h
  refine wpAny_execs_cons (thn (h1 pins s σ H D I h) fun f s1 q => ?_)
  cases f with
  | next => exact wpAny_execs_nil q
  | ret v => exact q
  | brk => exact q
  | cont => exact q
def tBreak : TS := fun D σ H => D.bk σ H
def tCont : TS := fun D σ H => D.ct σ H
/-- in a def's body nothing is shown -/
theorem Inv.quiet {pins : List (Addr × Obj)} {σ : St} {H : Hp} {s : Shared} (I : Inv X pins σ H s) : interactive X.env = false := by simp [interactive, I.ok.kind]
/-- an expression whose value is dropped -/
def tDrop (te : TE) : TS := fun D σ H => te σ H fun _ H1 => D.nx σ H1
theorem ps_expr (he : PE X e te) (hs : swapsWith e none pos.line X.env = pure false := by rfl) : PS X (.Expr e pos) (tDrop te) := by
  intro pins s σ H D I h
  exact wpAny_Expr_any (thn (he pins s σ H _ I h) fun v s1 ⟨x, H1, I1, r1, q1⟩ => ⟨σ, H1, I1, q1⟩) I.quiet hs
def tRet (te : TE) : TS := fun D σ H => te σ H D.rt
theorem ps_ret (he : PE X e te) : PS X (.Return (some e) pos) (tRet te) := by
  intro pins s σ H D I h
  exact wpAny_Return_some (thn (he pins s σ H _ I h) fun v s1 ⟨x, H1, I1, r1, q1⟩ => ⟨x, σ, H1, I1, r1, q1⟩)
def tRetN : TS := fun D _ H => D.rt .non H
def tIfS (c : TT) (t u : TS) : TS := fun D σ H => c σ H fun b H1 => if b = true then t D σ H1 else u D σ H1
theorem ps_if {c : Expr} {a b : List Stmt} {tc : TT} (hc : PT X c tc) (ha : PSs X a t) (hb : PSs X b u) : PS X (.If c a b pos) (tIfS tc t u) := by
  intro pins s σ H D I h
  refine wpAny_If (thn (hc pins s σ H _ I h) fun d s1 ⟨H1, I1, q1⟩ => ?_)
  cases d with
  | true => exact ha pins s1 σ H1 D I1 q1
  | false => exact hb pins s1 σ H1 D I1 q1
/-- code that the proof never comes to -/
def tNever : TS := fun _ _ _ => False
theorem ps_never : PS X st tNever := fun _ _ _ _ _ _ h => h.elim
theorem pss_never {sts : List Stmt} : PSs X sts tNever := fun _ _ _ _ _ _ h => h.elim
end

/-! ### targets -/
abbrev TG := V → St → Hp → (St → Hp → Prop) → Prop
abbrev TGs := List V → St → Hp → (St → Hp → Prop) → Prop
def PG (X : Cx) (target : Expr) (t : TG) : Prop :=
  ∀ (pins : List (Addr × Obj)) (s : Shared) (σ : St) (H : Hp) (v : V) (u : Value) (Q : St → Hp → Prop), Inv X pins σ H s → RelV v u → t v σ H Q →
    wpAny (model X.prog X.w) X.A (assign target X.env u) (fun _ s' => ∃ σ' H', Inv X pins σ' H' s' ∧ Q σ' H') X.xe s
/-- several targets, one after another -/
def PGs (X : Cx) (ts : List Expr) (t : TGs) : Prop :=
  ∀ (pins : List (Addr × Obj)) (s : Shared) (σ : St) (H : Hp) (vs : List V) (us : List Value) (Q : St → Hp → Prop), Inv X pins σ H s → Vals vs us → t vs σ H Q →
    wpAny (model X.prog X.w) X.A (assignInOrder ((assignEach ts X.env).map (·.2)) us) (fun _ s' => ∃ σ' H', Inv X pins σ' H' s' ∧ Q σ' H') X.xe s
/-- o[i] = v, by values -/
abbrev TSet := V → V → V → Hp → (Hp → Prop) → Prop
def PSet (X : Cx) (t : TSet) : Prop :=
  ∀ (pins : List (Addr × Obj)) (s : Shared) (σ : St) (H : Hp) (o i v : V) (ov iv u : Value) (Q : Hp → Prop), Inv X pins σ H s → RelV o ov → RelV i iv → RelV v u → t o i v H Q →
    wpAny (model X.prog X.w) X.A (setItem ov iv u) (fun _ s' => ∃ H', Inv X pins σ H' s' ∧ Q H') X.xe s
/-- a op= b, by values -/
abbrev TIp := V → V → Hp → VK → Prop
def PIp (X : Cx) (op : Operator) (t : TIp) : Prop :=
  ∀ (pins : List (Addr × Obj)) (s : Shared) (σ : St) (H : Hp) (x y : V) (v u : Value) (Q : VK), Inv X pins σ H s → RelV x v → RelV y u → t x y H Q →
    wpAny (model X.prog X.w) X.A (inplaceOp op v u) (EP X pins σ Q) X.xe s
section
variable {X : Cx} {pos : Pos}
def gName (i : Nat) : TG := fun v σ H Q => Q (σ.set i (some v)) H
theorem pg_name {i : Nat} {x : Str} (hN : X.N.Nodup) (hi : X.N[i]? = some x) (hx : Loc X.env.scope x) (hf : X.fn x = true ∨ X.env.scope.names.lookup x = some .local := by first | exact .inl rfl | exact .inr rfl | assumption) : PG X (.Name x pos) (gName i) := by
  intro pins s σ H v u Q I r h
  exact wpAny_assign_Name (store_ok I hN hi hx r (fun s' I' => ⟨_, H, I', h⟩) hf)
def gNil : TGs := fun vs σ H Q => vs = [] ∧ Q σ H
def gCons (t : TG) (u : TGs) : TGs := fun vs σ H Q => ∃ v r, vs = v :: r ∧ t v σ H fun σ' H' => u r σ' H' Q
theorem pgs_nil : PGs X [] gNil := by
  intro pins s σ H vs us Q I r h
  obtain ⟨e, h⟩ := h
  subst e
  cases r
  exact assignInOrder_nil ⟨σ, H, I, h⟩
theorem pgs_cons {e : Expr} {es : List Expr} {t : TG} {u : TGs} (h1 : PG X e t) (h2 : PGs X es u)
    (hs : (assignEach (e :: es) X.env).map (·.2) = assign e X.env :: (assignEach es X.env).map (·.2) := by rfl) : PGs X (e :: es) (gCons t u) := by
  intro pins s σ H vs us Q I r h
  obtain ⟨v, vr, e1, h⟩ := h
  subst e1
  cases r with
  | cons r rr =>
    rw [hs]
    refine assignInOrder_cons (thn (h1 pins s σ H _ _ _ I r h) fun _ s1 ⟨σ1, H1, I1, q1⟩ => ?_)
    exact h2 pins s1 σ1 H1 _ _ Q I1 rr q1
/-- (a, b, ..) = a tuple of that length -/
def gTup (K : PySem.W.Frag) (n : Nat) (t : TGs) : TG := fun v σ H Q => ∃ a xs, v = .ref a ∧ SqT K H a xs ∧ xs.length = n ∧ t xs σ H Q
theorem pg_tup {es : List Expr} {k : Nat} {t : TGs} {n : Nat} (hc : X.calm = true) (h : PGs X es t)
    (hn : (assignEach es X.env).length = n := by rfl) (hst : (assignEach es X.env).findIdx? (·.1) = none := by rfl) : PG X (.Tuple es k pos) (gTup X.K n t) := by
  intro pins s σ H v u Q I r hw
  obtain ⟨a, xs, e1, hq, hl, hw⟩ := hw
  subst e1
  cases r
  obtain ⟨its, rv, ht, hz⟩ := I.tuple hq
  refine assign_Tuple_tuple (I.ok.hd hc) ht (by simp [hn, ← hl, rv.length]) hst fun h' hx => ?_
  have I1 : Inv X pins σ H { s with heap := h' } := I.kept (t' := s.toks) fun b o e => hx b o (Nat.ne_of_lt (Heap.lt_size e)) e
  exact h pins _ σ H xs _ Q I1 (by simpa using rv) hw
/-- o[i] = .. -/
def gSub (to ti : TE) (t : TSet) : TG := fun v σ H Q => to σ H fun o H1 => ti σ H1 fun i H2 => t o i v H2 fun H3 => Q σ H3
/-- target = value -/
def tAsg (te : TE) (g : TG) : TS := fun D σ H => te σ H fun x H1 => g x σ H1 D.nx
/-- name = value -/
theorem ps_set {i : Nat} {x : Str} {e : Expr} {te : TE} {pos' : Pos} (hN : X.N.Nodup) (hi : X.N[i]? = some x) (hx : Loc X.env.scope x) (he : PE X e te) (hs : swapsWith e (some (.Name x pos')) pos.line X.env = pure false := by rfl) (hf : X.fn x = true ∨ X.env.scope.names.lookup x = some .local := by first | exact .inl rfl | exact .inr rfl | assumption) :
    PS X (.Assign [.Name x pos'] e pos) (tAsg te (gName i)) := by
  intro pins s σ H D I h
  refine wpAny_Assign_Name (thn (he pins s σ H _ I h) fun v s1 ⟨y, H1, I1, r1, q1⟩ => ?_) hs
  exact store_ok I1 hN hi hx r1 (fun s2 I2 => ⟨_, H1, I2, q1⟩) hf
/-- a, b = x, y with plain local names: stored from the right; the pair itself is not tracked (the opening rows as in PyProof/Rows/TupAssign.lean:23) -/
def tPar (i j : Nat) (ta : TA) : TS := fun D σ H => ta σ H fun vs H1 => ∃ v w, vs = [v, w] ∧ D.nx ((σ.set i (some v)).set j (some w)) H1
/-- name op= e -/
def tAug (i : Nat) (te : TE) (ti : TIp) : TS := fun D σ H => ∃ x, σ[i]? = some (some x) ∧ te σ H fun y H1 => ti x y H1 fun z H2 => D.nx (σ.set i (some z)) H2
theorem ps_aug {i : Nat} {x : Str} {e : Expr} {te : TE} {op : Operator} {ti : TIp} {pos' : Pos} (hN : X.N.Nodup) (hi : X.N[i]? = some x) (hx : Loc X.env.scope x) (he : PE X e te) (ho : PIp X op ti) (hf : X.fn x = true ∨ X.env.scope.names.lookup x = some .local := by first | exact .inl rfl | exact .inr rfl | assumption) :
    PS X (.AugAssign (.Name x pos') op e pos) (tAug i te ti) := by
  intro pins s σ H D I h
  obtain ⟨v, e1, h⟩ := h
  obtain ⟨m, hn, hl⟩ := I.loc
  have vis : Vis X.env.scope x := by rcases hx with k | k; exact .inl k; exact .inr (.inl k)
  obtain ⟨u, r, l⟩ := hl i x v hi e1 vis
  refine wpAny_AugAssign_Name ?_
  have go : wpAny (model X.prog X.w) X.A (eval e X.env) (fun w s₂ => wpAny (model X.prog X.w) X.A (inplaceOp op u w) (fun r s₃ => wpAny (model X.prog X.w) X.A (storeName X.env x r) (fun _ => SP X pins D .next) X.xe s₃) X.xe s₂) X.xe s := by
    refine thn (he pins s σ H _ I h) fun w s1 ⟨y, H1, I1, r1, q1⟩ => ?_
    refine thn (ho pins s1 σ H1 v y u w _ I1 r r1 q1) fun z s2 ⟨zv, H2, I2, r2, q2⟩ => ?_
    exact store_ok I2 hN hi hx r2 (fun s3 I3 => ⟨_, H2, I3, q2⟩) hf
  rcases l with ⟨hk, hm⟩ | ⟨hk, c, hc, hcell⟩
  · exact wpAny_loadName_local I.ok.kind hk hn hm go
  · rcases hk with hk | hk
    · exact wpAny_loadName_cell I.ok.kind hk hc hcell go
    · rcases hx with k | k
      · have : X.env.scope.names.lookup x = some .free := hk
        rw [k] at this; cases this
      · have : X.env.scope.names.lookup x = some .free := hk
        rw [k] at this; cases this
/-- o[i] op= e -/
def tAugS (to ti te : TE) (tget : V → V → Hp → VK → Prop) (tip : TIp) (tset : TSet) : TS := fun D σ H => to σ H fun o H1 => ti σ H1 fun i H2 => tget o i H2 fun x H3 => te σ H3 fun y H4 => tip x y H4 fun z H5 => tset o i z H5 fun H6 => D.nx σ H6
/-- o[i], by values -/
def PGet (X : Cx) (t : V → V → Hp → VK → Prop) : Prop :=
  ∀ (pins : List (Addr × Obj)) (s : Shared) (σ : St) (H : Hp) (o i : V) (ov iv : Value) (Q : VK), Inv X pins σ H s → RelV o ov → RelV i iv → t o i H Q →
    wpAny (model X.prog X.w) X.A (getItem ov iv) (EP X pins σ Q) X.xe s
/-- ints -/
def ipI (f : Int → Int → Int) : TIp := fun x y H Q => ∃ i j, x = .int i ∧ y = .int j ∧ Q (.int (f i j)) H
theorem ip_add : PIp X .Add (ipI fun i j => i + j) := by
  intro pins s σ H x y v u Q I r1 r2 h
  obtain ⟨i, j, e1, e2, q⟩ := h
  subst e1; subst e2
  obtain ⟨t, rfl⟩ := r1
  obtain ⟨t', rfl⟩ := r2
  exact iadd_int ⟨.int _, H, I.tok _, ⟨_, rfl⟩, q⟩
theorem ip_sub : PIp X .Sub (ipI fun i j => i - j) := by
  intro pins s σ H x y v u Q I r1 r2 h
  obtain ⟨i, j, e1, e2, q⟩ := h
  subst e1; subst e2
  obtain ⟨t, rfl⟩ := r1
  obtain ⟨t', rfl⟩ := r2
  exact isub_int ⟨.int _, H, I.tok _, ⟨_, rfl⟩, q⟩
end

/-! ### while -/
section
variable {X : Cx} {pos : Pos}
/-- the invariant W with its measure -/
def tWhile (c : TT) (tb : TS) : TS := fun D σ H => ∃ W : Nat → St → Hp → Prop, (∃ m, W m σ H) ∧ ∀ m σ H, W m σ H →
  c σ H fun b H1 => if b = true then ∃ N : St → Hp → Prop, (∀ σ' H', N σ' H' → ∃ m', m' < m ∧ W m' σ' H') ∧ tb { D with nx := N, ct := N, bk := D.nx } σ H1 else D.nx σ H1
theorem ps_while {c : Expr} {body : List Stmt} {tc : TT} {tb : TS} (hp : PassesOwn (model X.prog X.w) X.A X.env X.xe) (hc : PT X c tc) (hb : PSs X body tb) : PS X (.While c body [] pos) (tWhile tc tb) := by
  intro pins s σ H D I h
  obtain ⟨W, ⟨m0, w0⟩, turn⟩ := h
  refine wpAny_While (codeAny_whileLoop (fun n s' => ∃ σ' H', Inv X pins σ' H' s' ∧ W n σ' H') ?_ m0 ⟨σ, H, I, w0⟩)
  rintro n s1 ⟨σ1, H1, I1, w1⟩
  refine wpAny_passesOwn hp (thn (hc pins s1 σ1 H1 _ I1 (turn n σ1 H1 w1)) fun b s2 ⟨H2, I2, q2⟩ => ?_)
  cases b with
  | true =>
    obtain ⟨N, hN, q2⟩ := q2
    rw [if_pos rfl]
    refine wpAny_passesOwn hp (thn (hb pins s2 σ1 H2 _ I2 q2) fun f s3 q3 => ?_)
    cases f with
    | next =>
      obtain ⟨σ3, H3, I3, n3⟩ := q3
      obtain ⟨m', hm, w3⟩ := hN σ3 H3 n3
      exact ⟨m', hm, σ3, H3, I3, w3⟩
    | cont =>
      obtain ⟨σ3, H3, I3, n3⟩ := q3
      obtain ⟨m', hm, w3⟩ := hN σ3 H3 n3
      exact ⟨m', hm, σ3, H3, I3, w3⟩
    | brk => exact q3
    | ret v => exact q3
  | false =>
    rw [if_neg Bool.false_ne_true]
    exact wpAny_execs_nil ⟨σ1, H2, I2, q2⟩
end

/-! ### what a loop or a comprehension walks -/
/-- at turn i: it yields x (the heap may grow), or it stops -/
structure It where
  go : Nat → Hp → Prop
  yld : Nat → Hp → V → Hp → Prop
  stop : Nat → Hp → Prop
/-- the iterator's own objects may turn: they are not the frame's, not pinned, younger than the entry (or a comprehension's own) -/
def FpOk (X : Cx) (pins : List (Addr × Obj)) (H : Hp) (b : Addr) : Prop :=
  H b = none ∧ b ≠ X.env.locals ∧ b ∉ X.fs ∧ (b ∈ X.ex ∨ X.s₀.heap.objs.size ≤ b) ∧ (∀ x c, X.env.cells.lookup x = some c → c ≠ b) ∧ ∀ p ∈ X.pn ++ pins, p.1 ≠ b
theorem Inv.fpOk {X : Cx} {pins : List (Addr × Obj)} {σ : St} {H H' : Hp} {s : Shared} {b : Addr} (I : Inv X pins σ H s) (hb : s.heap.objs.size ≤ b) (hn : H' b = none) : FpOk X pins H' b := by
  refine ⟨hn, Nat.ne_of_gt (Nat.lt_of_lt_of_le I.lt hb), I.nofs hb, .inr (Nat.le_trans I.sz hb), fun x c e z => ?_, fun p hp z => ?_⟩
  · obtain ⟨v, q⟩ := I.cell x c e
    exact absurd (Nat.lt_of_lt_of_le q.lt (by rw [z]; exact hb)) (Nat.lt_irrefl _)
  · exact absurd (Nat.lt_of_lt_of_le (Heap.lt_size (I.pin p hp).1) (by rw [z]; exact hb)) (Nat.lt_irrefl _)
structure Turn (P : Program) (w : World) (K : PySem.W.Frag) (tg : Expr) (J : It) (fp : List Addr) (it : Addr) (tn : Nat → Heap → Prop) : Prop where
  mem : it ∈ fp
  obj : ∀ i h, tn i h → ∀ b ∈ fp, ∃ o, h.get? b = some o ∧ ∀ v, o.data ≠ .cell v
  keep : ∀ i h h', tn i h → (∀ b ∈ fp, ∀ o, h.get? b = some o → h'.get? b = some o) → tn i h'
  item : ∀ (X : Cx), X.prog = P → X.w = w → X.K = K → X.calm = true → ∀ (i : Nat) (pins : List (Addr × Obj)) (s : Shared) (σ : St) (H : Hp) (E : Value → Shared → Prop), Inv X pins σ H s → (∀ b ∈ fp, FpOk X pins H b) → tn i s.heap → J.go i H →
    wpAny (model P w) X.A (pyNext (.ref it)) (fun r s1 => ∃ u, r = some u ∧
      wpAny (model P w) X.A (letOwnedTupleGo tg (.ref it) u) (fun _ s2 => ∃ x H', Inv X pins σ H' s2 ∧ RelV x u ∧ J.yld i H x H' ∧ tn (i + 1) s2.heap ∧ ∀ b ∈ fp, H' b = none) E s1) E s
  done : ∀ (X : Cx), X.prog = P → X.w = w → X.K = K → X.calm = true → ∀ (i : Nat) (pins : List (Addr × Obj)) (s : Shared) (σ : St) (H : Hp) (E : Value → Shared → Prop), Inv X pins σ H s → (∀ b ∈ fp, FpOk X pins H b) → tn i s.heap → J.stop i H →
    wpAny (model P w) X.A (pyNext (.ref it)) (fun r s1 => r = none ∧ Inv X pins σ H s1) E s
  self : ∀ (A : Around) (i : Nat) (s : Shared) (Q : Value → Shared → Prop) (E : Value → Shared → Prop), tn i s.heap → Q (.ref it) s → wpAny (model P w) A (pyIter (.ref it)) Q E s
abbrev TI := St → Hp → (It → Hp → Prop) → Prop
/-- an iterator has come -/
def PIE (X : Cx) (pins : List (Addr × Obj)) (σ : St) (tg : Expr) (R : It → Hp → Prop) (itv : Value) (s2 : Shared) : Prop :=
  ∃ (it : Addr) (fp : List Addr) (tn : Nat → Heap → Prop) (J : It) (H' : Hp), itv = .ref it ∧ Inv X pins σ H' s2 ∧ Turn X.prog X.w X.K tg J fp it tn ∧ tn 0 s2.heap ∧ (∀ b ∈ fp, FpOk X pins H' b) ∧ R J H'
def PI (X : Cx) (tg iter : Expr) (wi : TI) : Prop :=
  ∀ (pins : List (Addr × Obj)) (s : Shared) (σ : St) (H : Hp) (R : It → Hp → Prop), Inv X pins σ H s → wi σ H R →
    wpAny (model X.prog X.w) X.A (eval iter X.env) (fun v s1 => wpAny (model X.prog X.w) X.A (pyIter v) (PIE X pins σ tg R) X.xe s1) X.xe s

/-- the step ahead of the store is nothing for an iterator that keeps no tuple -/
theorem go_of {M : Model} {A : Around} {E : Value → Shared → Prop} {s : Shared} {tg : Expr} {it : Addr} {u : Value} {o : Obj} {n : String} {vs : Array Value} {Q : Unit → Shared → Prop} (ho : s.heap.get? it = some o) (hc : o.cls = .type n) (hd : o.data = .fields vs)
    (hn : ["enumerate", "zip", "dict_itemiterator", "dict_reverseitemiterator", "odict_iterator", "itertools.zip_longest", "itertools.pairwise"].contains n = false) (hQ : Q () s) : wpAny M A (letOwnedTupleGo tg (.ref it) u) Q E s := by
  unfold letOwnedTupleGo
  cases tg <;> first
    | exact wpAny_pure hQ
    | (cases u <;> first
        | exact wpAny_pure hQ
        | (refine wpAny_bind (wpAny_load ho ?_)
           rw [hc, hd]
           show wpAny M A (if (["enumerate", "zip", "dict_itemiterator", "dict_reverseitemiterator", "odict_iterator", "itertools.zip_longest", "itertools.pairwise"].contains n && vs[0]? == some (rawInt _)) = true then _ else _) Q E s
           rw [if_neg (by intro h; rw [hn, Bool.false_and] at h; cases h)]
           exact wpAny_pure hQ))

/-- the list at a, as it stands at each turn (a loop may append to it) -/
def Itl (K : PySem.W.Frag) (a : Addr) : It :=
  ⟨fun i H => ∃ xs x, SqL K H a xs ∧ xs[i]? = some x, fun i H x H' => H' = H ∧ ∀ xs, SqL K H a xs → xs[i]? = some x, fun i H => ∃ xs, SqL K H a xs ∧ xs.length ≤ i⟩
def Itt (K : PySem.W.Frag) (a : Addr) : It :=
  ⟨fun i H => ∃ xs x, SqT K H a xs ∧ xs[i]? = some x, fun i H x H' => H' = H ∧ ∀ xs, SqT K H a xs → xs[i]? = some x, fun i H => ∃ xs, SqT K H a xs ∧ xs.length ≤ i⟩
/-- lo, lo + 1, .. (n of them) -/
def Itr (lo : Int) (n : Nat) : It := ⟨fun i _ => i < n, fun i H x H' => H' = H ∧ x = .int (lo + i), fun i _ => n ≤ i⟩
theorem turn_list {P : Program} {w : World} {K : PySem.W.Frag} {tg : Expr} (a it : Addr) : Turn P w K tg (Itl K a) [it] it (fun i h => h.IsListIter it a i) where
  mem := by simp
  obj := fun i h st b hb => by
    have e : b = it := by simpa using hb
    subst e
    obtain ⟨o, e, c, d⟩ := st
    exact ⟨o, e, fun v z => by rw [d] at z; cases z⟩
  keep := fun i h h' st k => st.at fun o e => k it (by simp) o e
  item := by
    intro X hP hw hK hc i pins s σ H E I hf st hg
    subst hP hw hK
    obtain ⟨xs, x, hq, hx⟩ := hg
    obtain ⟨its, rv, p, hz⟩ := I.list hq
    obtain ⟨u, hu, ru⟩ := rv.get hx
    obtain ⟨f0, f1, f2, f3, f4, f5⟩ := hf it (by simp)
    refine wpAny_pyNext_list_item st p.isList (x := u) (by simpa using hu) fun h' st' sb => ?_
    have I1 : Inv X pins σ H { s with heap := h' } := I.turned (t' := s.toks) (fun b o hb e => (sb.2 b hb).trans e) f0 f1 f3 f4 f5
    obtain ⟨o, e, c, d⟩ := id st'
    exact ⟨u, rfl, go_of (s := { s with heap := h' }) e c d (by decide) ⟨x, H, I1, ru, ⟨rfl, fun ys hy => by rw [I.list_inj hy hq]; exact hx⟩, st', fun b hb => (hf b hb).1⟩⟩
  done := by
    intro X hP hw hK hc i pins s σ H E I hf st hg
    subst hP hw hK
    obtain ⟨xs, hq, hx⟩ := hg
    obtain ⟨its, rv, p, hz⟩ := I.list hq
    obtain ⟨f0, f1, f2, f3, f4, f5⟩ := hf it (by simp)
    have hl := rv.length
    exact wpAny_pyNext_list_end (I.ok.hd hc) st p.isList (by simp; omega) fun h' eb => ⟨rfl, I.turned (t' := s.toks) (fun b o hb e => eb b o hb e) f0 f1 f3 f4 f5⟩
  self := fun _ _ _ _ _ st h => wpAny_pyIter_listiter st h
theorem turn_tuple {P : Program} {w : World} {K : PySem.W.Frag} {tg : Expr} (a it : Addr) : Turn P w K tg (Itt K a) [it] it (fun i h => h.IsTupleIter it a i) where
  mem := by simp
  obj := fun i h st b hb => by
    have e : b = it := by simpa using hb
    subst e
    obtain ⟨o, e, c, d⟩ := st
    exact ⟨o, e, fun v z => by rw [d] at z; cases z⟩
  keep := fun i h h' st k => st.at fun o e => k it (by simp) o e
  item := by
    intro X hP hw hK hc i pins s σ H E I hf st hg
    subst hP hw hK
    obtain ⟨xs, x, hq, hx⟩ := hg
    obtain ⟨its, rv, p, hz⟩ := I.tuple hq
    obtain ⟨u, hu, ru⟩ := rv.get hx
    obtain ⟨f0, f1, f2, f3, f4, f5⟩ := hf it (by simp)
    refine wpAny_pyNext_tuple_item st (show s.heap.IsTuple a its.toArray from p) (x := u) (by simpa using hu) fun h' st' sb => ?_
    have I1 : Inv X pins σ H { s with heap := h' } := I.turned (t' := s.toks) (fun b o hb e => (sb.2 b hb).trans e) f0 f1 f3 f4 f5
    obtain ⟨o, e, c, d⟩ := id st'
    exact ⟨u, rfl, go_of (s := { s with heap := h' }) e c d (by decide) ⟨x, H, I1, ru, ⟨rfl, fun ys hy => by rw [I.tuple_inj hy hq]; exact hx⟩, st', fun b hb => (hf b hb).1⟩⟩
  done := by
    intro X hP hw hK hc i pins s σ H E I hf st hg
    subst hP hw hK
    obtain ⟨xs, hq, hx⟩ := hg
    obtain ⟨its, rv, p, hz⟩ := I.tuple hq
    obtain ⟨f0, f1, f2, f3, f4, f5⟩ := hf it (by simp)
    have hl := rv.length
    exact wpAny_pyNext_tuple_end (I.ok.hd hc) st (show s.heap.IsTuple a its.toArray from p) (by simp; omega) fun h' eb => ⟨rfl, I.turned (t' := s.toks) (fun b o hb e => eb b o hb e) f0 f1 f3 f4 f5⟩
  self := fun _ _ _ _ _ st h => wpAny_pyIter_tupleiter st h
theorem turn_range {P : Program} {w : World} {K : PySem.W.Frag} {tg : Expr} (it : Addr) (lo : Int) (n : Nat) : Turn P w K tg (Itr lo n) [it] it (fun i h => IsRangeIter h it (lo + (i : Nat) * 1) ((n : Int) - (i : Nat)) 1) where
  mem := by simp
  obj := fun i h st b hb => by
    have e : b = it := by simpa using hb
    subst e
    exact ⟨_, st, fun v z => by
      have z' : Data.fields _ = Data.cell v := z
      cases z'⟩
  keep := fun i h h' st k => k it (by simp) _ st
  item := by
    intro X hP hw hK hc i pins s σ H E I hf st hg
    subst hP hw hK
    obtain ⟨f0, f1, f2, f3, f4, f5⟩ := hf it (by simp)
    have W := Walks.range (prog := X.prog) (w := X.w) (I.ok.hd hc) it lo 1 n
    refine W.item i s _ _ hg st fun v h' tk hv st' kk => ?_
    obtain ⟨t, rfl⟩ := hv
    have I1 : Inv X pins σ H { s with heap := h', toks := tk } := I.turned (fun b o hb e => kk b o (by simpa using hb) e) f0 f1 f3 f4 f5
    refine ⟨_, rfl, go_of (s := { s with heap := h', toks := tk }) (n := "range_iterator") st' rfl rfl (by decide) ⟨.int (lo + i), H, I1, ⟨t, ?_⟩, ⟨rfl, rfl⟩, st', fun b hb => (hf b hb).1⟩⟩
    rw [Int.mul_one]
  done := by
    intro X hP hw hK hc i pins s σ H E I hf st hg
    subst hP hw hK
    obtain ⟨f0, f1, f2, f3, f4, f5⟩ := hf it (by simp)
    exact wpAny_pyNext_range_end (I.ok.hd hc) st (by have : n ≤ i := hg; omega) fun h' eb => ⟨rfl, I.turned (t' := s.toks) (fun b o hb e => eb b o hb e) f0 f1 f3 f4 f5⟩
  self := fun _ _ _ _ _ st h => wpAny_pyIter_rangeiter st h
end L2

namespace L2
open PySem PySem.Spec PyProof.Rows
section
variable {X : Cx} {tg : Expr}
def iList (K : PySem.W.Frag) (tl : TE) : TI := fun σ H R => tl σ H fun x H1 => ∃ a, x = .ref a ∧ (∃ xs, SqL K H1 a xs) ∧ R (Itl K a) H1
def iTup (K : PySem.W.Frag) (tl : TE) : TI := fun σ H R => tl σ H fun x H1 => ∃ a, x = .ref a ∧ (∃ xs, SqT K H1 a xs) ∧ R (Itt K a) H1
theorem pi_list {l : Expr} {tl : TE} (hl : PE X l tl) : PI X tg l (iList X.K tl) := by
  intro pins s σ H R I h
  refine thn (hl pins s σ H _ I h) fun v s1 ⟨x, H1, I1, r1, q1⟩ => ?_
  obtain ⟨a, e, ⟨xs, hq⟩, q⟩ := q1
  subst e
  cases r1
  obtain ⟨its, rv, p, hz⟩ := I1.list hq
  refine wpAny_pyIter_list p.isList ?_
  refine ⟨s1.heap.objs.size, [s1.heap.objs.size], _, _, H1, rfl, I1.kept (t' := s1.toks) fun b o e => Heap.get?_push_of_some _ e, turn_list a _, ⟨_, Heap.get?_push_size _ rfl, rfl, rfl⟩, fun b hb => ?_, q⟩
  have e : b = s1.heap.objs.size := by simpa using hb
  subst e
  exact I1.fpOk (Nat.le_refl _) (I1.hok.fresh (Nat.le_refl _))
theorem pi_tup {l : Expr} {tl : TE} (hl : PE X l tl) : PI X tg l (iTup X.K tl) := by
  intro pins s σ H R I h
  refine thn (hl pins s σ H _ I h) fun v s1 ⟨x, H1, I1, r1, q1⟩ => ?_
  obtain ⟨a, e, ⟨xs, hq⟩, q⟩ := q1
  subst e
  cases r1
  obtain ⟨its, rv, p, hz⟩ := I1.tuple hq
  refine wpAny_pyIter_tuple (show s1.heap.IsTuple a its.toArray from p) ?_
  refine ⟨s1.heap.objs.size, [s1.heap.objs.size], _, _, H1, rfl, I1.kept (t' := s1.toks) fun b o e => Heap.get?_push_of_some _ e, turn_tuple a _, ⟨_, Heap.get?_push_size _ rfl, rfl, rfl⟩, fun b hb => ?_, q⟩
  have e : b = s1.heap.objs.size := by simpa using hb
  subst e
  exact I1.fpOk (Nat.le_refl _) (I1.hok.fresh (Nat.le_refl _))
/-- a range object just made, walked -/
theorem range_it {pins : List (Addr × Obj)} {σ : St} {H : Hp} {s : Shared} {R : It → Hp → Prop} {E : Value → Shared → Prop} {lo hi : Int} {t u v : Tok} {tk : Nat} (I : Inv X pins σ H s) (h1 : -(2 ^ 62) ≤ lo) (h2 : lo < 2 ^ 62) (h3 : -(2 ^ 62) ≤ hi) (h4 : hi < 2 ^ 62)
    (q : R (Itr lo (hi - lo).toNat) H) : wpAny (model X.prog X.w) X.A (pyIter (.ref s.heap.objs.size)) (PIE X pins σ tg R) E { s with heap := s.heap.push { cls := .type "range", data := .fields #[.int lo t, .int hi u, .int 1 v] }, toks := tk } := by
  refine wpAny_pyIter_range (IsRange.new ..) (small_one h1 h2 h3 h4) ?_
  have I1 : Inv X pins σ H { s with heap := s.heap.push { cls := .type "range", data := .fields #[.int lo t, .int hi u, .int 1 v] }, toks := tk } := I.kept fun b o e => Heap.get?_push_of_some _ e
  refine ⟨(s.heap.push { cls := .type "range", data := .fields #[.int lo t, .int hi u, .int 1 v] }).objs.size, [(s.heap.push { cls := .type "range", data := .fields #[.int lo t, .int hi u, .int 1 v] }).objs.size], _, _, H, rfl,
    I1.kept (t' := tk) fun b o e => Heap.get?_push_of_some _ e, turn_range _ lo (hi - lo).toNat, ?_, fun b hb => ?_, q⟩
  · have e1 : lo + ((0 : Nat) : Int) * 1 = lo := by simp
    have e2 : (((hi - lo).toNat : Nat) : Int) - ((0 : Nat) : Int) = Builtin.Range.rangeSize lo hi 1 := by rw [rangeSize_one]; split <;> omega
    show IsRangeIter _ _ (lo + ((0 : Nat) : Int) * 1) ((((hi - lo).toNat : Nat) : Int) - ((0 : Nat) : Int)) 1
    rw [e1, e2]
    exact Heap.get?_push_size _ rfl
  · have e : b = (s.heap.push { cls := .type "range", data := .fields #[.int lo t, .int hi u, .int 1 v] }).objs.size := by simpa using hb
    subst e
    exact I1.fpOk (Nat.le_refl _) (I1.hok.fresh (Nat.le_refl _))
def iRng1 (ta : TA) : TI := fun σ H R => ta σ H fun vs H1 => ∃ j : Int, vs = [.int j] ∧ -(2 ^ 62) ≤ j ∧ j < 2 ^ 62 ∧ R (Itr 0 j.toNat) H1
def iRng2 (ta : TA) : TI := fun σ H R => ta σ H fun vs H1 => ∃ i j : Int, vs = [.int i, .int j] ∧ (-(2 ^ 62) ≤ i ∧ i < 2 ^ 62 ∧ -(2 ^ 62) ≤ j ∧ j < 2 ^ 62) ∧ R (Itr i (j - i).toNat) H1
theorem pi_range1 {a : Expr} {ta : TA} {p pos : Pos} (hg : Gl X "range") (hm : X.mg "range" = none) (ha : PA X [a] ta) (hs : starEach [a] X.env = [(false, eval a X.env)] := by rfl) : PI X tg (.Call (.Name "range" p) [a] [] pos) (iRng1 ta) := by
  intro pins s σ H R I h
  refine Call_ (ld_blt I hg hm boot_range (PyProof.Rows.callWith_type1 (thn (ha pos pins s σ H _ I h) fun us s1 ⟨vs, H1, I1, r1, q1⟩ => ?_) hs rfl))
  obtain ⟨j, e, q1, q2, q⟩ := q1
  subst e
  cases r1 with
  | cons r rr =>
    cases rr
    obtain ⟨t, rfl⟩ := r
    exact call_range_1 (range_it I1 (by omega) (by omega) q1 q2 (by simpa using q))
/-! ### for -/
/-- W: the invariant by the turn and a measure; N: what the body is to reach -/
def tFor (wi : TI) (g : TG) (tb : TS) : TS := fun D σ H => wi σ H fun J H1 => ∃ W : Nat → Nat → St → Hp → Prop, (∃ m, W 0 m σ H1) ∧ ∀ i m σ H, W i m σ H →
  (J.stop i H ∧ D.nx σ H) ∨ (J.go i H ∧ ∃ N : St → Hp → Prop, (∀ σ' H', N σ' H' → ∃ m', m' < m ∧ W (i + 1) m' σ' H') ∧ ∀ x H', J.yld i H x H' → g x σ H' fun σ2 H2 => tb { D with nx := N, ct := N, bk := D.nx } σ2 H2)
/-- the records at fp as they stand -/
def pinsAt (fp : List Addr) (h : Heap) : List (Addr × Obj) := fp.filterMap fun b => (h.get? b).map fun o => (b, o)
theorem mem_pinsAt {fp : List Addr} {h : Heap} {b : Addr} {o : Obj} (hb : b ∈ fp) (e : h.get? b = some o) : (b, o) ∈ pinsAt fp h := List.mem_filterMap.mpr ⟨b, hb, by rw [e]; rfl⟩
theorem of_pinsAt {fp : List Addr} {h : Heap} {p : Addr × Obj} (hp : p ∈ pinsAt fp h) : p.1 ∈ fp ∧ h.get? p.1 = some p.2 := by
  obtain ⟨b, hb, e⟩ := List.mem_filterMap.mp hp
  cases q : h.get? b with
  | none => rw [q] at e; cases e
  | some o =>
    rw [q] at e
    have e' : (b, o) = p := Option.some.inj e
    subst e'
    exact ⟨hb, q⟩
theorem Inv.pinned {pins : List (Addr × Obj)} {σ : St} {H : Hp} {s : Shared} {fp : List Addr} (I : Inv X pins σ H s) (hf : ∀ b ∈ fp, FpOk X pins H b) (ho : ∀ b ∈ fp, ∃ o, s.heap.get? b = some o ∧ ∀ v, o.data ≠ .cell v) : Inv X (pins ++ pinsAt fp s.heap) σ H s :=
  I.pins_of fun p hp => (List.mem_append.mp hp).elim (fun z => I.pin p (List.mem_append_right _ z)) fun z => by
    obtain ⟨hb, e⟩ := of_pinsAt z
    obtain ⟨f0, f1, f2, _⟩ := hf p.1 hb
    obtain ⟨o, e', d⟩ := ho p.1 hb
    rw [e] at e'; cases e'
    exact ⟨e, f0, f1, f2, d⟩
theorem Inv.unpinned {pins pl : List (Addr × Obj)} {σ : St} {H : Hp} {s : Shared} (I : Inv X (pins ++ pl) σ H s) : Inv X pins σ H s := I.pins_of fun p hp => I.pin p (List.mem_append_right _ (List.mem_append_left _ hp))
theorem ps_for {iter : Expr} {body : List Stmt} {wi : TI} {g : TG} {tb : TS} {pos : Pos} (hp : PassesOwn (model X.prog X.w) X.A X.env X.xe) (hc : X.calm = true) (hi : PI X tg iter wi) (hg : PG X tg g) (hb : PSs X body tb)
    (hs : ∀ x, foldedSetIterable iter X.env x = pure x := by intro _; rfl) : PS X (.For tg iter body [] pos) (tFor wi g tb) := by
  intro pins s σ H D I h
  refine wpAny_For (thn (hi pins s σ H _ I h) fun v s1 h1 => thn h1 fun itv s2 h2 => ?_) hs
  obtain ⟨it, fp, tn, J, H2, e, I2, T, st2, f2, W, ⟨m0, w0⟩, turn⟩ := h2
  subst e
  -- what stays true of the iterator's objects through the loop
  have stat : ∀ {H' : Hp}, (∀ b ∈ fp, H' b = none) → ∀ b ∈ fp, FpOk X pins H' b := fun hn b hb => ⟨hn b hb, (f2 b hb).2⟩
  refine codeAny_forLoop_any (fun n s' => ∃ i σ' H', Inv X pins σ' H' s' ∧ tn i s'.heap ∧ (∀ b ∈ fp, H' b = none) ∧ W i n σ' H') ?_ m0 ⟨0, σ, H2, I2, st2, fun b hb => (f2 b hb).1, w0⟩
  rintro n s3 ⟨i, σ3, H3, I3, st3, fr3, w3⟩
  rcases turn i n σ3 H3 w3 with ⟨stop, qn⟩ | ⟨go, N, hN, step⟩
  · refine wpAny_passesOwn hp (thn (T.done X rfl rfl rfl hc i pins s3 σ3 H3 X.xe I3 (stat fr3) st3 stop) fun r s4 ⟨hr, I4⟩ => ?_)
    subst hr
    exact wpAny_execs_nil ⟨σ3, H3, I4, qn⟩
  · refine wpAny_passesOwn hp (thn (T.item X rfl rfl rfl hc i pins s3 σ3 H3 X.xe I3 (stat fr3) st3 go) fun r s4 ⟨u, hr, h4⟩ => ?_)
    subst hr
    refine wpAny_passesOwn hp (thn h4 fun _ s5 ⟨x, H5, I5, r5, y5, st5, fr5⟩ => ?_)
    have I5' := I5.pinned (stat fr5) (T.obj _ _ st5)
    refine wpAny_passesOwn hp (thn (hg _ s5 σ3 H5 x u _ I5' r5 (step x H5 y5)) fun _ s6 ⟨σ6, H6, I6, q6⟩ => ?_)
    refine wpAny_passesOwn hp (thn (hb _ s6 σ6 H6 _ I6 q6) fun f s7 q7 => ?_)
    have again : ∀ {σ7 : St} {H7 : Hp}, Inv X (pins ++ pinsAt fp s5.heap) σ7 H7 s7 → N σ7 H7 → ∃ m, m < n ∧ ∃ i σ' H', Inv X pins σ' H' s7 ∧ tn i s7.heap ∧ (∀ b ∈ fp, H' b = none) ∧ W i m σ' H' := fun {σ7 H7} I7 n7 => by
      obtain ⟨m', hm, w7⟩ := hN σ7 H7 n7
      refine ⟨m', hm, i + 1, σ7, H7, I7.unpinned, T.keep _ _ _ st5 fun b hb o e => (I7.pin (b, o) (List.mem_append_right _ (List.mem_append_right _ (mem_pinsAt hb e)))).1, fun b hb => ?_, w7⟩
      obtain ⟨o, e, d⟩ := T.obj _ _ st5 b hb
      exact (I7.pin (b, o) (List.mem_append_right _ (List.mem_append_right _ (mem_pinsAt hb e)))).2.1
    cases f with
    | next => obtain ⟨σ7, H7, I7, n7⟩ := q7; exact again I7 n7
    | cont => obtain ⟨σ7, H7, I7, n7⟩ := q7; exact again I7 n7
    | brk => obtain ⟨σ7, H7, I7, q7⟩ := q7; exact ⟨σ7, H7, I7.unpinned, q7⟩
    | ret v => obtain ⟨x7, σ7, H7, I7, r7, q7⟩ := q7; exact ⟨x7, σ7, H7, I7.unpinned, r7, q7⟩
end

/-! ### the forms one uses -/
end L2

namespace L2
open PySem PySem.Spec PyProof.Rows

abbrev R2 := V → V → Hp → VK → Prop
/-- a two-place operation on values: f is binaryOp op, inplaceOp op or compareOp op -/
def OpR (X : Cx) (f : Value → Value → Sem Value) (r : R2) : Prop :=
  ∀ (pins : List (Addr × Obj)) (s : Shared) (σ : St) (H : Hp) (x y : V) (v u : Value) (Q : VK), Inv X pins σ H s → RelV x v → RelV y u → r x y H Q →
    wpAny (model X.prog X.w) X.A (f v u) (EP X pins σ Q) X.xe s
/-- a one-place operation -/
def UnR (X : Cx) (f : Value → Sem Value) (r : V → Hp → VK → Prop) : Prop :=
  ∀ (pins : List (Addr × Obj)) (s : Shared) (σ : St) (H : Hp) (x : V) (v : Value) (Q : VK), Inv X pins σ H s → RelV x v → r x H Q →
    wpAny (model X.prog X.w) X.A (f v) (EP X pins σ Q) X.xe s
/-- a call of a value that is known (a builtin, a type) with values -/
def CallR (X : Cx) (f : Value) (r : List V → Hp → VK → Prop) : Prop :=
  ∀ (pins : List (Addr × Obj)) (s : Shared) (σ : St) (H : Hp) (xs : List V) (us : List Value) (Q : VK), Inv X pins σ H s → Vals xs us → r xs H Q →
    wpAny (model X.prog X.w) X.A (call f us) (EP X pins σ Q) X.xe s
/-- a value's truth -/
def TruR (X : Cx) (r : V → Hp → (Bool → Hp → Prop) → Prop) : Prop :=
  ∀ (pins : List (Addr × Obj)) (s : Shared) (σ : St) (H : Hp) (x : V) (v : Value) (Q : Bool → Hp → Prop), Inv X pins σ H s → RelV x v → r x H Q →
    wpAny (model X.prog X.w) X.A (truthy v) (TP X pins σ Q) X.xe s

def tOp (r : R2) (ta tb : TE) : TE := fun σ H Q => ta σ H fun x H1 => tb σ H1 fun y H2 => r x y H2 Q
def tUn (r : V → Hp → VK → Prop) (ta : TE) : TE := fun σ H Q => ta σ H fun x H1 => r x H1 Q
/-- ints in, under C, and a value out -/
def rI (C : Int → Int → Prop) (g : Int → Int → V) : R2 := fun x y H Q => ∃ i j, x = .int i ∧ y = .int j ∧ C i j ∧ Q (g i j) H
def rI0 (g : Int → Int → V) : R2 := fun x y H Q => ∃ i j, x = .int i ∧ y = .int j ∧ Q (g i j) H
def rU (g : Int → V) : V → Hp → VK → Prop := fun x H Q => ∃ i, x = .int i ∧ Q (g i) H

section
variable {X : Cx} {a b c : Expr} {ta tb tc : TE} {pos : Pos}

theorem binT (ha : PE X a ta) (hb : PE X b tb) {pins : List (Addr × Obj)} {s : Shared} {σ : St} {H : Hp} {R : V → V → Hp → Prop} (I : Inv X pins σ H s)
    (h : ta σ H fun x H1 => tb σ H1 fun y H2 => R x y H2) {Q : Value → Shared → Prop} {f : Value → Value → Sem Value}
    (hf : ∀ v u s2 x y H2, Inv X pins σ H2 s2 → RelV x v → RelV y u → R x y H2 → wpAny (model X.prog X.w) X.A (f v u) Q X.xe s2) :
    wpAny (model X.prog X.w) X.A (eval a X.env) (fun v s₁ => wpAny (model X.prog X.w) X.A (eval b X.env) (fun u s₂ => wpAny (model X.prog X.w) X.A (f v u) Q X.xe s₂) X.xe s₁) X.xe s := by
  refine thn (ha pins s σ H _ I h) fun v s1 ⟨x, H1, I1, r1, q1⟩ => ?_
  refine thn (hb pins s1 σ H1 _ I1 q1) fun u s2 ⟨y, H2, I2, r2, q2⟩ => ?_
  exact hf v u s2 x y H2 I2 r1 r2 q2

theorem pe_op {op : Operator} {r : R2} (ho : OpR X (binaryOp op) r) (ha : PE X a ta) (hb : PE X b tb) : PE X (.BinOp a op b pos) (tOp r ta tb) := by
  intro pins s σ H Q I h
  exact wpAny_BinOp (binT ha hb I h fun v u s2 x y H2 I2 rx ry q => ho pins s2 σ H2 x y v u Q I2 rx ry q)
/-! ### ints -/
theorem opI {f : Value → Value → Sem Value} {C : Int → Int → Prop} {g : Int → Int → Int}
    (rule : ∀ (i j : Int) (t u : Tok) (s : Shared) (Q : Value → Shared → Prop) (E : Value → Shared → Prop), C i j → Q (.int (g i j) s.toks) { s with toks := s.toks + 1 } → wpAny (model X.prog X.w) X.A (f (.int i t) (.int j u)) Q E s) :
    OpR X f (rI C fun i j => .int (g i j)) := by
  intro pins s σ H x y v u Q I rx ry h
  obtain ⟨i, j, rfl, rfl, hc, q⟩ := h
  obtain ⟨t, rfl⟩ := rx
  obtain ⟨t', rfl⟩ := ry
  exact rule i j t t' s _ _ hc ⟨.int (g i j), H, I.tok _, ⟨_, rfl⟩, q⟩
theorem opI0 {f : Value → Value → Sem Value} {g : Int → Int → Int}
    (rule : ∀ (i j : Int) (t u : Tok) (s : Shared) (Q : Value → Shared → Prop) (E : Value → Shared → Prop), Q (.int (g i j) s.toks) { s with toks := s.toks + 1 } → wpAny (model X.prog X.w) X.A (f (.int i t) (.int j u)) Q E s) :
    OpR X f (rI0 fun i j => .int (g i j)) := by
  intro pins s σ H x y v u Q I rx ry h
  obtain ⟨i, j, rfl, rfl, q⟩ := h
  obtain ⟨t, rfl⟩ := rx
  obtain ⟨t', rfl⟩ := ry
  exact rule i j t t' s _ _ ⟨.int (g i j), H, I.tok _, ⟨_, rfl⟩, q⟩
theorem opB0 {f : Value → Value → Sem Value} {g : Int → Int → Bool}
    (rule : ∀ (i j : Int) (t u : Tok) (s : Shared) (Q : Value → Shared → Prop) (E : Value → Shared → Prop), Q (.bool (g i j)) s → wpAny (model X.prog X.w) X.A (f (.int i t) (.int j u)) Q E s) :
    OpR X f (rI0 fun i j => .bl (g i j)) := by
  intro pins s σ H x y v u Q I rx ry h
  obtain ⟨i, j, rfl, rfl, q⟩ := h
  obtain ⟨t, rfl⟩ := rx
  obtain ⟨t', rfl⟩ := ry
  exact rule i j t t' s _ _ ⟨.bl (g i j), H, I, rfl, q⟩

def CDiv (i j : Int) : Prop := 0 < j ∧ j < 1073741824
def CDivN (i j : Int) : Prop := j ≠ 0 ∧ j.natAbs < 1073741824
def CPow (i j : Int) : Prop := 0 ≤ j ∧ j ≤ 1000000 ∧ i.natAbs < 2 ^ 64
def CMul (i j : Int) : Prop := (-(2 ^ 64) < i ∧ i < 2 ^ 64) ∨ (-(2 ^ 64) < j ∧ j < 2 ^ 64)
theorem CMul.ok {i j : Int} (h : CMul i j) : IntMulOk i j := by
  rcases h with ⟨h1, h2⟩ | ⟨h1, h2⟩
  · exact .of_left (intBits_le_64 h1 h2)
  · exact .of_right (intBits_le_64 h1 h2)
theorem op_add : OpR X (binaryOp .Add) (rI0 fun i j => .int (i + j)) := opI0 fun _ _ _ _ _ _ _ q => add_int q
theorem op_sub : OpR X (binaryOp .Sub) (rI0 fun i j => .int (i - j)) := opI0 fun _ _ _ _ _ _ _ q => sub_int q
/-- % by a positive divisor of any size -/
theorem op_mod : OpR X (binaryOp .Mod) (rI (fun _ j => 0 < j) fun i j => .int (i % j)) := opI fun i j _ _ _ _ _ hc q => by
  have h1 : (0 : Int) < j := hc
  exact mod_int' (by omega) (by rw [Int.fmod_eq_emod_of_nonneg i (by omega)]; exact q)
theorem op_pow : OpR X (binaryOp .Pow) (rI CPow fun i j => .int (i ^ j.toNat)) := opI fun _ _ _ _ _ _ _ hc q => pow_int_small hc.1 hc.2.1 hc.2.2 q
/-! ### bools among ints: n += (a < b) -/
end

/-! ### comparisons -/
/-- the scalars that == tells apart as data does -/
def scal : V → V → Bool
  | .non, .non => true | .non, .int _ => true | .int _, .non => true | .non, .bl _ => true | .bl _, .non => true | .non, .str _ => true | .str _, .non => true
  | .int _, .int _ => true | .bl _, .bl _ => true | .str _, .str _ => true | .byt _, .byt _ => true
  | .int _, .str _ => true | .str _, .int _ => true | .bl _, .str _ => true | .str _, .bl _ => true
  | _, _ => false
def rEq : R2 := fun x y H Q => scal x y = true ∧ Q (.bl (decide (x = y))) H
def rNe : R2 := fun x y H Q => scal x y = true ∧ Q (.bl (!decide (x = y))) H

theorem dec_int {i j : Int} : decide (V.int i = V.int j) = (i == j) := by
  rw [Bool.eq_iff_iff]
  simp
theorem dec_bl {i j : Bool} : decide (V.bl i = V.bl j) = (i == j) := by
  rw [Bool.eq_iff_iff]
  simp
theorem dec_str {i j : Str} : decide (V.str i = V.str j) = (i == j) := by
  rw [Bool.eq_iff_iff]
  simp
theorem dec_byt {i j : Array UInt8} : decide (V.byt i = V.byt j) = (i.toList == j.toList) := by
  rw [Bool.eq_iff_iff]
  cases i
  cases j
  simp

section
variable {X : Cx} {a b c : Expr} {ta tb tc : TE} {pos : Pos}
theorem fin_bl {pins : List (Addr × Obj)} {σ : St} {H : Hp} {s : Shared} {Q : VK} {k k' : Bool} (I : Inv X pins σ H s) (q : Q (.bl k) H) (e : k = k') : EP X pins σ Q (.bool k') s := by
  subst e
  exact ⟨.bl k, H, I, rfl, q⟩
theorem op_eq : OpR X (compareOp .Eq) rEq := by
  intro pins s σ H x y v u Q I rx ry h
  obtain ⟨hs, q⟩ := h
  cases x with
  | non =>
    cases rx
    cases y with
    | non => cases ry; exact PySem.EqNone.eq_none_none (fin_bl I q (by simp))
    | bl j => cases ry; exact PySem.EqNone.eq_none_bool (fin_bl I q (by simp))
    | int j => obtain ⟨t', rfl⟩ := ry; exact PySem.EqNone.eq_none_int (fin_bl I q (by simp))
    | str j => obtain ⟨t', rfl⟩ := ry; exact PySem.EqNone.eq_none_str (fin_bl I q (by simp))
    | _ => exact absurd (show false = true from hs) Bool.false_ne_true
  | bl i =>
    cases rx
    cases y with
    | non => cases ry; exact PySem.EqNone.eq_bool_none (fin_bl I q (by simp))
    | bl j => cases ry; exact eq_bool (fin_bl I q dec_bl)
    | str j => obtain ⟨t', rfl⟩ := ry; exact PySem.EqMixed.eq_bool_str (fin_bl I q (by simp))
    | _ => exact absurd (show false = true from hs) Bool.false_ne_true
  | int i =>
    obtain ⟨t, rfl⟩ := rx
    cases y with
    | non => cases ry; exact PySem.EqNone.eq_int_none (fin_bl I q (by simp))
    | int j => obtain ⟨t', rfl⟩ := ry; exact eq_int (fin_bl I q dec_int)
    | str j => obtain ⟨t', rfl⟩ := ry; exact PySem.EqMixed.eq_int_str (fin_bl I q (by simp))
    | _ => exact absurd (show false = true from hs) Bool.false_ne_true
  | str i =>
    obtain ⟨t, rfl⟩ := rx
    cases y with
    | non => cases ry; exact PySem.EqNone.eq_str_none (fin_bl I q (by simp))
    | bl j => cases ry; exact PySem.EqMixed.eq_str_bool (fin_bl I q (by simp))
    | int j => obtain ⟨t', rfl⟩ := ry; exact PySem.EqMixed.eq_str_int (fin_bl I q (by simp))
    | str j => obtain ⟨t', rfl⟩ := ry; exact eq_str (fin_bl I q dec_str)
    | _ => exact absurd (show false = true from hs) Bool.false_ne_true
  | byt i =>
    obtain ⟨t, rfl⟩ := rx
    cases y with
    | byt j => obtain ⟨t', rfl⟩ := ry; exact PySem.W.eq_bytes (fin_bl I q dec_byt)
    | _ => exact absurd (show false = true from hs) Bool.false_ne_true
  | _ => cases y <;> exact absurd (show false = true from hs) Bool.false_ne_true
theorem op_ne : OpR X (compareOp .NotEq) rNe := by
  intro pins s σ H x y v u Q I rx ry h
  obtain ⟨hs, q⟩ := h
  cases x with
  | non =>
    cases rx
    cases y with
    | non => cases ry; exact PySem.EqNone.ne_none_none (fin_bl I q (by simp))
    | bl j => cases ry; exact PySem.EqNone.ne_none_bool (fin_bl I q (by simp))
    | int j => obtain ⟨t', rfl⟩ := ry; exact PySem.EqNone.ne_none_int (fin_bl I q (by simp))
    | str j => obtain ⟨t', rfl⟩ := ry; exact PySem.EqNone.ne_none_str (fin_bl I q (by simp))
    | _ => exact absurd (show false = true from hs) Bool.false_ne_true
  | bl i =>
    cases rx
    cases y with
    | non => cases ry; exact PySem.EqNone.ne_bool_none (fin_bl I q (by simp))
    | bl j => cases ry; exact ne_bool (fin_bl I q (congrArg not dec_bl))
    | str j => obtain ⟨t', rfl⟩ := ry; exact PySem.EqMixed.ne_bool_str (fin_bl I q (by simp))
    | _ => exact absurd (show false = true from hs) Bool.false_ne_true
  | int i =>
    obtain ⟨t, rfl⟩ := rx
    cases y with
    | non => cases ry; exact PySem.EqNone.ne_int_none (fin_bl I q (by simp))
    | int j => obtain ⟨t', rfl⟩ := ry; exact ne_int (fin_bl I q (congrArg not dec_int))
    | str j => obtain ⟨t', rfl⟩ := ry; exact PySem.EqMixed.ne_int_str (fin_bl I q (by simp))
    | _ => exact absurd (show false = true from hs) Bool.false_ne_true
  | str i =>
    obtain ⟨t, rfl⟩ := rx
    cases y with
    | non => cases ry; exact PySem.EqNone.ne_str_none (fin_bl I q (by simp))
    | bl j => cases ry; exact PySem.EqMixed.ne_str_bool (fin_bl I q (by simp))
    | int j => obtain ⟨t', rfl⟩ := ry; exact PySem.EqMixed.ne_str_int (fin_bl I q (by simp))
    | str j => obtain ⟨t', rfl⟩ := ry; exact ne_str (fin_bl I q (congrArg not dec_str))
    | _ => exact absurd (show false = true from hs) Bool.false_ne_true
  | byt i =>
    obtain ⟨t, rfl⟩ := rx
    cases y with
    | byt j => obtain ⟨t', rfl⟩ := ry; exact PySem.W.ne_bytes (fin_bl I q (congrArg not dec_byt))
    | _ => exact absurd (show false = true from hs) Bool.false_ne_true
  | _ => cases y <;> exact absurd (show false = true from hs) Bool.false_ne_true

theorem op_lt : OpR X (compareOp .Lt) (rI0 fun i j => .bl (decide (i < j))) := opB0 fun _ _ _ _ _ _ _ q => lt_int q
theorem op_le : OpR X (compareOp .LtE) (rI0 fun i j => .bl (decide (i ≤ j))) := opB0 fun _ _ _ _ _ _ _ q => le_int q
theorem op_gt : OpR X (compareOp .Gt) (rI0 fun i j => .bl (decide (j < i))) := opB0 fun _ _ _ _ _ _ _ q => gt_int q
/-- is None, is not None: the right side a value none -/
theorem op_isN : OpR X (compareOp .Is) (fun x y H Q => y = .non ∧ Q (.bl (decide (x = .non))) H) := by
  intro pins s σ H x y v u Q I rx ry h
  obtain ⟨rfl, q⟩ := h
  cases ry
  refine is_none_gen (fin_bl I q ?_)
  cases x <;> first
    | (cases rx; rfl)
    | (obtain ⟨t, rfl⟩ := rx; rfl)
theorem op_notN : OpR X (compareOp .IsNot) (fun x y H Q => y = .non ∧ Q (.bl (!decide (x = .non))) H) := by
  intro pins s σ H x y v u Q I rx ry h
  obtain ⟨rfl, q⟩ := h
  cases ry
  refine isnot_none_gen (fin_bl I q ?_)
  cases x <;> first
    | (cases rx; rfl)
    | (obtain ⟨t, rfl⟩ := rx; rfl)

/-- is, is not of two objects that are tracked lists or instances -/
def isObj : HO → Bool
  | .lst _ => true
  | .ins _ _ _ => true
  | _ => false
theorem nomark (b : Expr) {op : CmpOp} (h : op ≠ .In := by decide) (h2 : op ≠ .NotIn := by decide) : behindInMarks op b = false := by
  have e1 : (op == CmpOp.In) = false := by cases op <;> first | rfl | exact absurd rfl h
  have e2 : (op == CmpOp.NotIn) = false := by cases op <;> first | rfl | exact absurd rfl h2
  cases b <;> simp [behindInMarks, e1, e2]
/-- a comparison as a value; hm: nomark b, or (for in, not in) by with_unfolding_all rfl -/
theorem pe_cmpR {op : CmpOp} {r : R2} (ho : OpR X (compareOp op) r) (ha : PE X a ta) (hb : PE X b tb) (hm : behindInMarks op b = false) : PE X (.Compare a [op] [b] pos) (tOp r ta tb) := by
  intro pins s σ H Q I h
  exact wpAny_Compare1 (binT ha hb I h fun v u s2 x y H2 I2 rx ry q => ho pins s2 σ H2 x y v u Q I2 rx ry q) hm
/-- a reading of a value as a test -/
def tTest (t : TE) : TT := fun σ H Q => t σ H fun x H' => ∃ k, x = .bl k ∧ Q k H'
theorem pt_cmpR {op : CmpOp} {r : R2} (ho : OpR X (compareOp op) r) (ha : PE X a ta) (hb : PE X b tb) (hm : behindInMarks op b = false) : PT X (.Compare a [op] [b] pos) (tTest (tOp r ta tb)) := by
  intro pins s σ H Q I h
  refine wpAny_isTrue_Compare1 (thn (ha pins s σ H _ I h) fun v s1 ⟨x, H1, I1, r1, q1⟩ => thn (hb pins s1 σ H1 _ I1 q1) fun u s2 ⟨y, H2, I2, r2, q2⟩ =>
    thn (ho pins s2 σ H2 x y v u _ I2 r1 r2 q2) fun c s3 ⟨z, H3, I3, r3, k, e, q3⟩ => ?_) hm
  subst e
  cases r3
  exact wpAny_truthy_bool ⟨H3, I3, q3⟩
/-- a op1 b op2 c -/
def tChain (r r' : R2) (ta tb tc : TE) : TE := fun σ H Q => ta σ H fun x H1 => tb σ H1 fun y H2 => r x y H2 fun z H3 => ∃ k, z = .bl k ∧
  (if k = true then tc σ H3 fun w' H4 => r' y w' H4 Q else Q (.bl false) H3)
theorem pe_chain {op op' : CmpOp} {r r' : R2} (ho : OpR X (compareOp op) r) (ho' : OpR X (compareOp op') r') (ha : PE X a ta) (hb : PE X b tb) (hc : PE X c tc)
    (hm : lastMarks [op, op'] [b, c] = false := by with_unfolding_all rfl) : PE X (.Compare a [op, op'] [b, c] pos) (tChain r r' ta tb tc) := by
  intro pins s σ H Q I h
  refine Compare_chain (thn (ha pins s σ H _ I h) fun v s1 ⟨x, H1, I1, r1, q1⟩ => chain_link (thn (hb pins s1 σ H1 _ I1 q1) fun u s2 ⟨y, H2, I2, r2, q2⟩ =>
    thn (ho pins s2 σ H2 x y v u _ I2 r1 r2 q2) fun d s3 ⟨z, H3, I3, r3, k, e, q3⟩ => ?_)) hm
  subst e
  cases r3
  refine wpAny_truthy_bool ?_
  cases k with
  | false => exact ite_ff ⟨.bl false, H3, I3, rfl, q3⟩
  | true => exact ite_tt (chain_last (thn (hc pins s3 σ H3 _ I3 q3) fun w' s4 ⟨z', H4, I4, r4, q4⟩ => ho' pins s4 σ H4 y z' u w' Q I4 r2 r4 q4))
theorem pt_chain {op op' : CmpOp} {r r' : R2} (ho : OpR X (compareOp op) r) (ho' : OpR X (compareOp op') r') (ha : PE X a ta) (hb : PE X b tb) (hc : PE X c tc)
    (hm : lastMarks [op, op'] [b, c] = false := by with_unfolding_all rfl) : PT X (.Compare a [op, op'] [b, c] pos) (tTest (tChain r r' ta tb tc)) := by
  intro pins s σ H Q I h
  refine isTrue_chain (thn (ha pins s σ H _ I h) fun v s1 ⟨x, H1, I1, r1, q1⟩ => test_link (thn (hb pins s1 σ H1 _ I1 q1) fun u s2 ⟨y, H2, I2, r2, q2⟩ =>
    thn (ho pins s2 σ H2 x y v u _ I2 r1 r2 q2) fun d s3 ⟨z, H3, I3, r3, k, e, q3⟩ => ?_)) hm
  subst e
  cases r3
  refine wpAny_truthy_bool ?_
  cases k with
  | false =>
    obtain ⟨k', e', q'⟩ := q3
    cases e'
    exact ite_ff ⟨H3, I3, q'⟩
  | true =>
    refine ite_tt (test_last (thn (hc pins s3 σ H3 _ I3 q3) fun w' s4 ⟨z', H4, I4, r4, q4⟩ => thn (ho' pins s4 σ H4 y z' u w' _ I4 r2 r4 q4) fun d' s5 ⟨z2, H5, I5, r5, k2, e2, q5⟩ => ?_))
    subst e2
    cases r5
    exact wpAny_truthy_bool ⟨H5, I5, q5⟩

/-! ### truth -/
/-- a value's truth by the abstract heap -/
def TruV (K : PySem.W.Frag) (x : V) (H : Hp) (k : Bool) : Prop :=
  match x with
  | .non => k = false
  | .bl b => k = b
  | .int i => k = (i != 0)
  | .str y => y.length ≤ sizeLine ∧ k = ((y.length : Int) != 0)
  | .byt y => y.size ≤ sizeLine ∧ k = ((y.size : Int) != 0)
  | .ref p => (∃ xs, SqL K H p xs ∧ k = !xs.isEmpty) ∨ (∃ xs, SqT K H p xs ∧ k = !xs.isEmpty) ∨ ∃ kvs, H p = some (.dK kvs) ∧ k = !kvs.isEmpty
  | _ => False
theorem line63 : (sizeLine : Nat) < 2 ^ 63 := by rw [sizeLine_eq]; decide
/-! ### strs and bytes -/
theorem op_add_str : OpR X (binaryOp .Add) (fun x y H Q => ∃ i j, x = .str i ∧ y = .str j ∧ i.length + j.length ≤ sizeLine ∧ Q (.str (i ++ j)) H) := by
  intro pins s σ H x y v u Q I rx ry h
  obtain ⟨i, j, rfl, rfl, hz, q⟩ := h
  obtain ⟨t, rfl⟩ := rx
  obtain ⟨t', rfl⟩ := ry
  exact add_str (fun t' tk => ⟨.str (i ++ j), H, I.tok _, ⟨_, rfl⟩, q⟩) hz
def PlainIxT (b : Expr) : Prop := ∀ o i, subscripted b false o i = operate [o, i] (getItem o i)
/-! ### scalar builtins, by CallR -/
theorem vals1 {x : V} {us : List Value} (r : Vals [x] us) : ∃ u, us = [u] ∧ RelV x u := by
  cases r with
  | cons r1 r2 => cases r2; exact ⟨_, rfl, r1⟩
theorem vals2 {x y : V} {us : List Value} (r : Vals [x, y] us) : ∃ u w', us = [u, w'] ∧ RelV x u ∧ RelV y w' := by
  cases r with
  | cons r1 r2 =>
    cases r2 with
    | cons r3 r4 => cases r4; exact ⟨_, _, rfl, r1, r3⟩
theorem call_str_int : CallR X (.type "str") (fun xs H Q => ∃ i, xs = [.int i] ∧ i.natAbs.log2 < 1920 ∧ Q (.str (toString i)) H) := by
  intro pins s σ H xs us Q I r h
  obtain ⟨i, rfl, hz, q⟩ := h
  obtain ⟨u, rfl, t, rfl⟩ := vals1 r
  exact PySem.P.str_of_int hz ⟨.str _, H, I.tok _, ⟨_, rfl⟩, q⟩
/-- len of a str, a bytes, a list, a tuple -/
def LenV (K : PySem.W.Frag) (x : V) (H : Hp) (n : Nat) : Prop :=
  match x with
  | .str y => y.length ≤ sizeLine ∧ n = y.length
  | .byt y => y.size ≤ sizeLine ∧ n = y.size
  | .ref p => (∃ xs, SqL K H p xs ∧ n = xs.length) ∨ ∃ xs, SqT K H p xs ∧ n = xs.length
  | _ => False
end
end L2

namespace L2
open PySem PySem.Spec PyProof.Rows

/-! ### an instance, its attributes a map -/
structure ObjM (h : Heap) (x dx C : Addr) (mA : Str → Option Value) : Prop where
  obj : h.get? x = some (PySem.W.instObj C dx)
  ns : h.Ns1 dx mA
  ne : dx ≠ x

theorem lookIn_ns {h : Heap} {dx : Addr} {mA : Str → Option Value} (n : h.Ns1 dx mA) : ∃ od, h.get? dx = some od ∧ ∀ name, PySem.W.lookIn name od = some (mA name) := by
  obtain ⟨o, es, ep, ho, hd, hk, _, hm⟩ := n
  refine ⟨o, ho, fun name => ?_⟩
  have e := hm name
  unfold nsFind findBy at e
  rw [← Array.find?_toList] at e
  unfold PySem.W.lookIn
  rw [hd]
  dsimp only
  split
  · rename_i y q
    rw [q] at e
    exact congrArg some e
  · rename_i q
    rw [q] at e
    have a : es.toList.any (·.refKey) = false := by
      rw [List.any_eq_false]
      intro y hy
      obtain ⟨z, t, hkey⟩ := hk y (Array.mem_toList_iff.mp hy)
      simp [DictEntry.refKey, hkey]
    have a' : ¬ es.toList.any (·.refKey) = true := by rw [a]; exact Bool.false_ne_true
    rw [if_neg a']
    exact congrArg some e

theorem ObjM.look {h : Heap} {x dx C : Addr} {mA : Str → Option Value} (I : ObjM h x dx C mA) : ∃ od, PySem.W.InstAt h x (PySem.W.instObj C dx) C (some od) ∧ ∀ name, PySem.W.lookIn name od = some (mA name) :=
  let ⟨od, ho, hl⟩ := lookIn_ns I.ns
  ⟨od, ⟨I.obj, rfl, rfl, ho⟩, hl⟩

section
variable {prog : Program} {w : World} {A : Around} {E : Value → Shared → Prop} {s : Shared} {K : PySem.W.Frag} {x dx C f : Addr} {mA : Str → Option Value} {name : Str} {v : Value}

theorem get_map {expr : Bool} {Q : Value → Shared → Prop} (X : K.In s.heap) (I : ObjM s.heap x dx C mA) (hg : PySem.W.plainGet K C name = true) (hh : PySem.W.hasDictIn K C = true)
    (ha : PySem.W.findIn K (.ref C) name = some none) (hv : mA name = some v) (hv' : PySem.W.handedIn v = true) (h : Q v { s with toks := s.toks + 1 }) :
    wpAny (model prog w) A (getAttr (.ref x) name expr) Q E s := by
  obtain ⟨od, J, hl⟩ := I.look
  exact PySem.W.get_value X J (PySem.W.plainGet_of hg).1 (PySem.W.findObj_own hh ha rfl (by rw [hl, hv])) hv' h

theorem get_meth {pl : Sem Bool} {Q : Value × List Value → Shared → Prop} (X : K.In s.heap) (I : ObjM s.heap x dx C mA) (hg : PySem.W.plainGet K C name = true)
    (hf : PySem.W.findIn K (.ref C) name = some (some (.ref f))) (ht : PySem.W.isFn K (.ref f) = true) (hv : mA name = none) (h : Q (.ref f, [.ref x]) s) :
    wpAny (model prog w) A (getMethod (.ref x) name pl) Q E s := by
  obtain ⟨od, J, hl⟩ := I.look
  exact PySem.W.method_fn X J (PySem.W.plainGet_of hg).1 (PySem.W.plainGet_of hg).2 hf (beq_iff_eq.mp ht) (by show (PySem.W.lookIn name od).map (·.isSome) = some false; rw [hl, hv]; rfl) h

theorem set_map {ns : List Str} {Q : Unit → Shared → Prop} (X : K.In s.heap) (I : ObjM s.heap x dx C mA)
    (hs : PySem.W.findIn K (.ref C) "__setattr__" = some (some (.builtin "object.__setattr__"))) (hp : PySem.W.plainOver K C = true) (ht : PySem.W.takerIn K C name = some none) (hh : PySem.W.hasDictIn K C = true)
    (hw : PySem.Within mA ns) (hsz : ns.length ≤ sizeLine)
    (h : ∀ h', ObjM h' x dx C (fun y => if y = name then some v else mA y) → Heap.SameBut dx s.heap h' → Q () { s with heap := h', toks := s.toks + 2 }) :
    wpAny (model prog w) A (setAttr (.ref x) name v) Q E s := by
  obtain ⟨od, J, hl⟩ := I.look
  refine PySem.W.set_plain X J hs (PySem.W.osa_open (s := { s with toks := s.toks + 1 }) (r := none) X J hp ht fun b => ?_)
  obtain ⟨cd, hc, hd'⟩ := PySem.W.any_some hh
  have hx : s.heap.get? x = some ⟨.ref C, some dx, .plain, #[]⟩ := I.obj
  refine wpAny_bind (wpAny_pure (wpAny_bind (wpAny_bind (wpAny_loadPart hx (wpAny_bind (PySem.W.Looks.here (s := { s with toks := s.toks + 1 }) (PySem.W.looks_clsIn X hc) ?_))))))
  rw [hd']
  refine wpAny_pure (a := some dx) (wpAny_bind (wpAny_pure (wpAny_bind ?_)))
  refine wpAny_nsSet1 (s := { s with toks := s.toks + 1 }) I.ns fun h' hn2 hs2 => ?_
  obtain ⟨oD, esD, epD, hoD, hdD, hcD⟩ := hn2.count (PySem.Within.cons name v hw)
  refine wpAny_bind (wpAny_lookBehind hoD (by rw [hdD]; exact pastItsLine_dict (Nat.le_trans hcD (by rw [List.length_cons]; omega))) ?_)
  exact wpAny_pure (h _ ⟨(hs2.2 _ (Ne.symm I.ne)).trans I.obj, hn2, I.ne⟩ hs2)

/-- C(..): the dict at the heap's end, the instance behind it; then its __init__ -/
theorem make_map {R : Result → Shared → Prop} {vs : List Value} {kw : List (Str × Value)} (X : K.In s.heap) (hm : PySem.W.makesIn K C = true)
    (hi : PySem.W.findIn K (.ref C) "__init__" = some (some (.ref f))) (hf : PySem.W.typeIn K (.ref f) = some (.type "function"))
    (h : codeAny (model prog w) (A.under (.builtin "type.__call__" ⟨.ref C :: vs, kw⟩)) (.call (.ref f) ⟨.ref (s.heap.objs.size + 1) :: vs, kw⟩) (PySem.W.InitBack (s.heap.objs.size + 1) R)
      { s with heap := (s.heap.push PySem.W.emptyDict).push (PySem.W.instObj C s.heap.objs.size) }) :
    codeAny (model prog w) A (.call (.ref C) ⟨vs, kw⟩) R s := by
  obtain ⟨hh, g, d, t, os⟩ := s
  exact PySem.W.make_core (PySem.W.makes_of X hm) (PySem.W.looks_findIn X hi) (fun self => PySem.W.bind_fn X self hf) (.inl rfl) h
end

/-! ### the attributes as a list of pairs -/
def putF (f : Str) (v : V) : List (Str × V) → List (Str × V)
  | [] => [(f, v)]
  | (g, x) :: r => if g = f then (g, v) :: r else (g, x) :: putF f v r
theorem lookup_putF (f g : Str) (v : V) : ∀ fs : List (Str × V), (putF f v fs).lookup g = if g = f then some v else fs.lookup g
  | [] => by
    show List.lookup g [(f, v)] = _
    by_cases h : g = f
    · have hb : (g == f) = true := beq_iff_eq.mpr h
      simp only [List.lookup, hb, if_pos h]
    · have hb : (g == f) = false := beq_eq_false_iff_ne.mpr h
      simp only [List.lookup, hb, if_neg h]
  | (k, x) :: r => by
    have ih := lookup_putF f g v r
    rw [show putF f v ((k, x) :: r) = (if k = f then (k, v) :: r else (k, x) :: putF f v r) from rfl]
    by_cases hk : k = f
    · rw [if_pos hk]
      by_cases h : g = k
      · have hb : (g == k) = true := beq_iff_eq.mpr h
        simp only [List.lookup, hb, if_pos (h.trans hk)]
      · have hb : (g == k) = false := beq_eq_false_iff_ne.mpr h
        simp only [List.lookup, hb, if_neg (fun e : g = f => h (e.trans hk.symm))]
    · rw [if_neg hk]
      by_cases h : g = k
      · have hb : (g == k) = true := beq_iff_eq.mpr h
        simp only [List.lookup, hb, if_neg (fun e : g = f => hk (h.symm.trans e))]
      · have hb : (g == k) = false := beq_eq_false_iff_ne.mpr h
        simp only [List.lookup, hb]
        exact ih
theorem keys_putF (f : Str) (v : V) : ∀ fs : List (Str × V), f ∈ (putF f v fs).map (·.1) ∧ ∀ g, g ∈ fs.map (·.1) → g ∈ (putF f v fs).map (·.1)
  | [] => ⟨by simp [putF], fun g h => by simp at h⟩
  | (k, x) :: r => by
    obtain ⟨i1, i2⟩ := keys_putF f v r
    rw [show putF f v ((k, x) :: r) = (if k = f then (k, v) :: r else (k, x) :: putF f v r) from rfl]
    by_cases hk : k = f
    · rw [if_pos hk]
      subst hk
      exact ⟨by simp, fun g h => by simpa using h⟩
    · rw [if_neg hk]
      refine ⟨?_, fun g h => ?_⟩
      · rw [List.map_cons]
        exact List.mem_cons_of_mem _ i1
      · rw [List.map_cons] at h ⊢
        rcases List.mem_cons.mp h with e | e
        · exact List.mem_cons.mpr (.inl e)
        · exact List.mem_cons_of_mem _ (i2 g e)
theorem length_putF (f : Str) (v : V) : ∀ fs : List (Str × V), (putF f v fs).length ≤ fs.length + 1
  | [] => by simp [putF]
  | (k, x) :: r => by
    have ih := length_putF f v r
    rw [show putF f v ((k, x) :: r) = (if k = f then (k, v) :: r else (k, x) :: putF f v r) from rfl]
    by_cases hk : k = f
    · rw [if_pos hk, List.length_cons, List.length_cons]; omega
    · rw [if_neg hk, List.length_cons, List.length_cons]; omega

theorem RelO.some_of {v : V} {o : Option Value} (r : RelO (some v) o) : ∃ u, o = some u ∧ RelV v u := by
  cases o with
  | none => exact (show False from r).elim
  | some u => exact ⟨u, rfl, r⟩
theorem RelO.none_of {o : Option Value} (r : RelO none o) : o = none := by
  cases o with
  | none => rfl
  | some u => exact (show False from r).elim
theorem handed_of {v : V} {u : Value} (r : RelV v u) : PySem.W.handedIn u = true := by
  cases v with
  | non => cases (show u = Value.none from r); rfl
  | bl b => cases (show u = Value.bool b from r); rfl
  | int i => obtain ⟨t, e⟩ := (show ∃ t, u = Value.int i t from r); cases e; rfl
  | str x => obtain ⟨t, e⟩ := (show ∃ t, u = Value.str x t from r); cases e; rfl
  | byt b => obtain ⟨t, e⟩ := (show ∃ t, u = Value.bytes b t from r); cases e; rfl
  | flt b => obtain ⟨t, e⟩ := (show ∃ t, u = Value.float b t from r); cases e; rfl
  | ref a => cases (show u = Value.ref a from r); rfl
  | ty n => cases (show u = Value.type n from r); rfl

section
variable {P : Program} {w : World} {H H' : Hp} {h h' : Heap} {a C dx : Addr} {fs fs' : List (Str × V)}
theorem ins_get (hok : HOk P w H h) (e : H a = some (.ins C dx fs)) : ∃ mA, ObjM h a dx C mA ∧ (∀ f, RelO (fs.lookup f) (mA f)) ∧ PySem.Within mA (fs.map (·.1)) ∧ fs.length ≤ 1000 ∧ H dx = some (.own a) := by
  obtain ⟨d, z, ne, ob, mA, n, r, q⟩ := (show ObjOk P w H h a (.ins C dx fs) from hok a _ e)
  exact ⟨mA, ⟨ob, n, ne⟩, r, q, z, d⟩
end

/-! ### what of the text a class must have -/
structure Cls (K : PySem.W.Frag) (C : Addr) : Prop where
  pg : PySem.W.plainGet K C Str.empty = true
  hd : PySem.W.hasDictIn K C = true
  po : PySem.W.plainOver K C = true
  sa : PySem.W.findIn K (.ref C) "__setattr__" = some (some (.builtin "object.__setattr__"))
theorem Cls.get {K : PySem.W.Frag} {C : Addr} (c : Cls K C) (f : Str) : PySem.W.plainGet K C f = true := c.pg
/-- no class of it has the name -/
def NoAttr (K : PySem.W.Frag) (C : Addr) (f : Str) : Prop := PySem.W.findIn K (.ref C) f = some none
theorem NoAttr.taker {K : PySem.W.Frag} {C : Addr} {f : Str} (n : NoAttr K C f) : PySem.W.takerIn K C f = some none := by
  unfold PySem.W.takerIn
  rw [show PySem.W.findIn K (.ref C) f = some none from n]
  rfl
/-- a constant of the class -/
structure Con (K : PySem.W.Frag) (C : Addr) (f : Str) (v : V) (u : Value) : Prop where
  at_ : PySem.W.findIn K (.ref C) f = some (some u)
  rel : RelV v u
  get : PySem.W.specialIn K u "__get__" = some none
  cp : PySem.W.copiedNames.contains f = false
/-- a method: a plain def of the class or of one above it -/
structure Meth (K : PySem.W.Frag) (C : Addr) (m : Str) (f : Addr) : Prop where
  at_ : PySem.W.findIn K (.ref C) m = some (some (.ref f))
  fn : PySem.W.isFn K (.ref f) = true
  kp : PySem.W.keepIn K (.ref f) = true

section
variable {X : Cx} {pins : List (Addr × Obj)} {σ : St} {H : Hp} {s : Shared} {a C dx : Addr} {fs : List (Str × V)} {f : Str} {v : V} {A : Around} {E : Value → Shared → Prop}

theorem getattr_ok {b : Bool} {Q : Value → Shared → Prop} (I : Inv X pins σ H s) (e : H a = some (.ins C dx fs)) (c : Cls X.K C) (n : NoAttr X.K C f) (l : fs.lookup f = some v)
    (h : ∀ u s', Inv X pins σ H s' → RelV v u → Q u s') : wpAny (model X.prog X.w) A (getAttr (.ref a) f b) Q E s := by
  obtain ⟨mA, O, r, _, _, _⟩ := ins_get I.hok e
  obtain ⟨u, hu, ru⟩ := RelO.some_of (v := v) (o := mA f) (by rw [← l]; exact r f)
  exact get_map I.kIn O (c.get f) c.hd n hu (handed_of ru) (h u _ (I.tok _) ru)

theorem getmeth_ok {m : Str} {g : Addr} {pl : Sem Bool} {Q : Value × List Value → Shared → Prop} (I : Inv X pins σ H s) (e : H a = some (.ins C dx fs)) (c : Cls X.K C) (k : Meth X.K C m g) (l : fs.lookup m = none)
    (h : Q (.ref g, [.ref a]) s) : wpAny (model X.prog X.w) A (getMethod (.ref a) m pl) Q E s := by
  obtain ⟨mA, O, r, _, _, _⟩ := ins_get I.hok e
  have hn : mA m = none := RelO.none_of (by rw [← l]; exact r m)
  exact get_meth I.kIn O (c.get m) k.at_ k.fn hn h

theorem setattr_ok {y : V} {u : Value} {Q : Unit → Shared → Prop} (I : Inv X pins σ H s) (e : H a = some (.ins C dx fs)) (c : Cls X.K C) (n : NoAttr X.K C f) (hl : fs.length < 1000) (ry : RelV y u)
    (h : ∀ s', Inv X pins σ (upd H a (.ins C dx (putF f y fs))) s' → Q () s') : wpAny (model X.prog X.w) A (setAttr (.ref a) f u) Q E s := by
  obtain ⟨mA, O, r, wi, _, ho⟩ := ins_get I.hok e
  have hz : (fs.map (·.1)).length ≤ sizeLine := by rw [List.length_map, sizeLine_eq]; omega
  refine set_map I.kIn O c.sa c.po n.taker c.hd wi hz fun h' O' sb => h _ ?_
  have hd : ∃ o, h'.get? dx = some o := let ⟨o, _, _, e', _⟩ := O'.ns; ⟨o, e'⟩
  refine I.write (x := a) (e := dx) (by rw [e]; exact True.intro) (.inr ho) (fun b q hb z => (sb.2 b hb).trans z) hd ?_
  refine ⟨by rw [upd_ne O.ne]; exact ho, ?_, O.ne, O'.obj, _, O'.ns, fun g => ?_, fun g hg => ?_⟩
  · have := length_putF f y fs; omega
  · show RelO ((putF f y fs).lookup g) (if g = f then some u else mA g)
    rw [lookup_putF]
    by_cases q : g = f
    · rw [if_pos q, if_pos q]; exact ry
    · rw [if_neg q, if_neg q]; exact r g
  · by_cases q : g = f
    · rw [q]; exact (keys_putF f y fs).1
    · refine (keys_putF f y fs).2 g (wi g fun z => hg ?_)
      show (if g = f then some u else mA g) = none
      rw [if_neg q]; exact z

/-- a new instance, tracked, without attributes -/
theorem Inv.made (I : Inv X pins σ H s) : Inv X pins σ (upd (upd H s.heap.objs.size (.own (s.heap.objs.size + 1))) (s.heap.objs.size + 1) (.ins C s.heap.objs.size []))
    { s with heap := (s.heap.push PySem.W.emptyDict).push (PySem.W.instObj C s.heap.objs.size) } := by
  have e1 : (s.heap.push PySem.W.emptyDict).get? s.heap.objs.size = some PySem.W.emptyDict := Heap.get?_push_size s.heap rfl
  have e2 : ((s.heap.push PySem.W.emptyDict).push (PySem.W.instObj C s.heap.objs.size)).get? (s.heap.objs.size + 1) = some (PySem.W.instObj C s.heap.objs.size) := by
    have := Heap.get?_push_size (s.heap.push PySem.W.emptyDict) (o := PySem.W.instObj C s.heap.objs.size) rfl
    rwa [Heap.size_push] at this
  have e3 : (s.heap.push PySem.W.emptyDict).Ns s.heap.objs.size (fun _ => none) := ⟨PySem.W.emptyDict, #[], _, e1, rfl, (fun e he => absurd he (by simp)), fun _ => rfl⟩
  have I1 := I.laid (a := s.heap.objs.size) (o := .own (s.heap.objs.size + 1)) (h' := s.heap.push PySem.W.emptyDict) (t' := s.toks) (fun b u q => Heap.get?_push_of_some _ q) (Nat.le_refl _) ⟨_, e1⟩
  refine I1.laid (a := s.heap.objs.size + 1) (o := .ins C s.heap.objs.size []) (t' := s.toks) (fun b u q => Heap.get?_push_of_some _ q) (Nat.le_of_eq (Heap.size_push _ _)) ?_
  have ne : s.heap.objs.size ≠ s.heap.objs.size + 1 := Nat.ne_of_lt (Nat.lt_succ_self _)
  refine ⟨by rw [upd_ne ne, upd_same], Nat.zero_le _, ne, e2, fun _ => none, (Heap.Ns1.of_empty e3).at fun o q => Heap.get?_push_of_some _ q, fun _ => True.intro, fun y hy => absurd rfl hy⟩

/-- e.f where nothing but the object is asked: through attributeBase (super) and the last hold -/
theorem attr_of {prog : Program} {w : World} {env : Env} {e : Expr} {f : Str} {pos : Pos} {s : Shared} {Q : Value → Shared → Prop} (hb : attributeBase e f env (eval e env) = eval e env)
    (h : wpAny (model prog w) A (eval e env) (fun o s₁ => wpAny (model prog w) A (getAttr o f true) Q E s₁) E s) : wpAny (model prog w) A (eval (.Attribute e f pos) env) Q E s :=
  Attribute_any_ h (by rw [arm_eval_Attribute, hb])
end

/-! ### readings and rules -/
/-- e.f, an attribute of the instance -/
def tFld (K : PySem.W.Frag) (ta : TE) (f : Str) : TE := fun σ H Q => ta σ H fun x H1 => ∃ a C dx fs v, x = .ref a ∧ H1 a = some (.ins C dx fs) ∧ Cls K C ∧ NoAttr K C f ∧ fs.lookup f = some v ∧ Q v H1
/-- e.f, a constant of the class -/
def tCon (K : PySem.W.Frag) (ta : TE) (f : Str) : TE := fun σ H Q => ta σ H fun x H1 => ∃ a C dx fs v u, x = .ref a ∧ H1 a = some (.ins C dx fs) ∧ Cls K C ∧ Con K C f v u ∧ fs.lookup f = none ∧ Q v H1
/-- e.f = value -/
def sFld (K : PySem.W.Frag) (ta tv : TE) (f : Str) : TS := fun D σ H => tv σ H fun y H1 => ta σ H1 fun x H2 => ∃ a C dx fs, x = .ref a ∧ H2 a = some (.ins C dx fs) ∧ Cls K C ∧ NoAttr K C f ∧ fs.length < 1000 ∧
  D.nx σ (upd H2 a (.ins C dx (putF f y fs)))
/-- an augmented operator on two values -/
def InOp (X : Cx) (op : Operator) (rd : V → V → Hp → VK → Prop) : Prop :=
  ∀ (pins : List (Addr × Obj)) (s : Shared) (σ : St) (H : Hp) (x y : V) (u v : Value) (Q : VK), Inv X pins σ H s → RelV x u → RelV y v → rd x y H Q → wpAny (model X.prog X.w) X.A (inplaceOp op u v) (EP X pins σ Q) X.xe s
/-- e.f op= value -/
def sFldAug (K : PySem.W.Frag) (ta tv : TE) (rd : V → V → Hp → VK → Prop) (f : Str) : TS := fun D σ H => ta σ H fun x H1 => ∃ a C dx fs v, x = .ref a ∧ H1 a = some (.ins C dx fs) ∧ Cls K C ∧ NoAttr K C f ∧ fs.lookup f = some v ∧
  tv σ H1 fun y H2 => rd v y H2 fun z H3 => ∃ dx' fs', H3 a = some (.ins C dx' fs') ∧ fs'.length < 1000 ∧ D.nx σ (upd H3 a (.ins C dx' (putF f z fs')))

section
variable {X : Cx} {o e value : Expr} {f : Str} {pos pos' tpos : Pos} {ta tv : TE}
theorem pe_fld (he : PE X e ta) (hb : attributeBase e f X.env (eval e X.env) = eval e X.env) : PE X (.Attribute e f pos) (tFld X.K ta f) := by
  intro pins s σ H Q I h
  refine attr_of hb (thn (he pins s σ H _ I h) fun u s1 ⟨x, H1, I1, rx, a, C, dx, fs, v, ex, ea, c, n, l, q⟩ => ?_)
  subst ex
  obtain rfl : u = Value.ref a := rx
  exact getattr_ok I1 ea c n l fun u' s2 I2 ru => ⟨v, H1, I2, ru, q⟩
theorem ps_fld (ha : PE X o ta) (hv : PE X value tv) (hs : swapsWith value (some (.Attribute o f pos')) pos.line X.env = pure false) : PS X (.Assign [.Attribute o f pos'] value pos) (sFld X.K ta tv f) := by
  intro pins s σ H D I h
  refine plainObj_wpAny_Assign_Attribute (thn (hv pins s σ H _ I h) fun u s1 ⟨y, H1, I1, ry, q⟩ => thn (ha pins s1 σ H1 _ I1 q) fun ov s2 ⟨x, H2, I2, rx, a, C, dx, fs, ex, ea, c, n, l, q2⟩ => ?_) hs
  subst ex
  obtain rfl : ov = Value.ref a := rx
  exact setattr_ok I2 ea c n l ry fun s3 I3 => ⟨σ, _, I3, q2⟩
theorem ps_fldaug {op : Operator} {rd : V → V → Hp → VK → Prop} (ha : PE X o ta) (hv : PE X value tv) (hop : InOp X op rd) : PS X (.AugAssign (.Attribute o f tpos) op value pos) (sFldAug X.K ta tv rd f) := by
  intro pins s σ H D I h
  refine wpAny_AugAssign_AttributeAny (thn (ha pins s σ H _ I h) fun ov s1 ⟨x, H1, I1, rx, a, C, dx, fs, v, ex, ea, c, n, l, q⟩ => ?_)
  subst ex
  obtain rfl : ov = Value.ref a := rx
  refine getattr_ok I1 ea c n l fun u s2 I2 ru => thn (hv pins s2 σ H1 _ I2 q) fun w3 s3 ⟨y, H2, I3, ry, q3⟩ => thn (hop pins s3 σ H2 v y u w3 _ I3 ru ry q3) fun w4 s4 ⟨z, H3, I4, rz, dx', fs', ea', l', q4⟩ => ?_
  exact setattr_ok I4 ea' c n l' rz fun s5 I5 => ⟨σ, _, I5, q4⟩
def rAdd : V → V → Hp → VK → Prop := fun x y H Q => ∃ i j, x = .int i ∧ y = .int j ∧ Q (.int (i + j)) H
def rSub : V → V → Hp → VK → Prop := fun x y H Q => ∃ i j, x = .int i ∧ y = .int j ∧ Q (.int (i - j)) H
theorem in_add : InOp X .Add rAdd := by
  rintro pins s σ H x y u v Q I rx ry ⟨i, j, rfl, rfl, q⟩
  obtain ⟨t, rfl⟩ := (show ∃ t, u = Value.int i t from rx)
  obtain ⟨t', rfl⟩ := (show ∃ t', v = Value.int j t' from ry)
  exact PyProof.Rows.iadd_int ⟨.int (i + j), H, I.tok _, ⟨_, rfl⟩, q⟩
end

/-! ### isinstance -/
section
variable {X : Cx} {pins : List (Addr × Obj)} {σ : St} {H : Hp} {s : Shared} {A : Around} {E : Value → Shared → Prop} {Q : Value → Shared → Prop} {c : Value} {b : Bool}
/-- the type of a value, as the fragment's deciders take it; for an instance its class -/
inductive TyOf (K : PySem.W.Frag) (H : Hp) : V → Value → Prop where
  | non : TyOf K H .non (.type "NoneType")
  | bl (x : Bool) : TyOf K H (.bl x) (.type "bool")
  | int (i : Int) : TyOf K H (.int i) (.type "int")
  | str (x : Str) : TyOf K H (.str x) (.type "str")
  | flt (x : UInt64) : TyOf K H (.flt x) (.type "float")
  | lst {a : Addr} {xs : List V} (e : H a = some (.lst xs)) : TyOf K H (.ref a) (.type "list")
  | frz {a : Addr} {o : Obj} {xs : List V} (e : H a = some (.frz o (.lst xs))) : TyOf K H (.ref a) (.type "list")
  | tup {a : Addr} {xs : List V} (e : H a = some (.tup xs)) : TyOf K H (.ref a) (.type "tuple")
  | dK {a : Addr} {kvs : List (Key × V)} (e : H a = some (.dK kvs)) : TyOf K H (.ref a) (.type "dict")
  | dT {a : Addr} {kvs : List (List Key × V)} (e : H a = some (.dT kvs)) : TyOf K H (.ref a) (.type "dict")
  | ins {a C dx : Addr} {fs : List (Str × V)} (e : H a = some (.ins C dx fs)) (cl : Cls K C) (ha : PySem.W.findIn K (.ref C) "__class__" = some (some (.builtin "object.__class__")))
      (hn : PySem.W.specialIn K (.builtin "object.__class__") "__get__" = some (some (.builtin "getset_descriptor.__get__"))) (htk : PySem.W.takesIn K (.builtin "object.__class__") = some true)
      (hm : PySem.W.mroIn K C (.type "object") = some true) : TyOf K H (.ref a) (.ref C)
/-- isinstance(x, c) for one class c, a built-in or an own one: kitOne's answer -/
theorem isinst_ok {x : V} {u t : Value} (I : Inv X pins σ H s) (rx : RelV x u) (ty : TyOf X.K H x t) (e : PySem.W.kitOne X.K t c = some b) (h : ∀ tk, Q (.bool b) { s with toks := tk }) :
    wpAny (model X.prog X.w) A (call (.builtin "isinstance") [u, c]) Q E s := by
  cases ty with
  | non => cases (show u = Value.none from rx); exact PySem.W.kia_one PySem.W.kitx_none I.kIn True.intro e (fun z => nomatch z) h
  | bl y => cases (show u = Value.bool y from rx); exact PySem.W.kia_one PySem.W.kitx_bool I.kIn True.intro e (fun z => nomatch z) h
  | int i => obtain ⟨t, q⟩ := (show ∃ t, u = Value.int i t from rx); cases q; exact PySem.W.kia_one PySem.W.kitx_int I.kIn True.intro e (fun z => nomatch z) h
  | str y => obtain ⟨t, q⟩ := (show ∃ t, u = Value.str y t from rx); cases q; exact PySem.W.kia_one PySem.W.kitx_str I.kIn True.intro e (fun z => nomatch z) h
  | flt y => obtain ⟨t, q⟩ := (show ∃ t, u = Value.float y t from rx); cases q; exact PySem.W.kia_one PySem.W.kitx_float I.kIn True.intro e (fun z => nomatch z) h
  | @lst a xs ea =>
    cases (show u = Value.ref a from rx)
    obtain ⟨_, _, n, _, h1⟩ := (show ObjOk X.prog X.w H s.heap a (.lst xs) from I.hok a _ ea)
    exact PySem.W.kia_one PySem.W.kitx_list I.kIn ⟨_, h1, rfl⟩ e (fun z => nomatch z) h
  | @frz a ob xs ea =>
    cases (show u = Value.ref a from rx)
    obtain ⟨_, _, _, n, _, h1⟩ := (show ObjOk X.prog X.w H s.heap a (.frz ob (.lst xs)) from I.hok a _ ea)
    exact PySem.W.kia_one PySem.W.kitx_list I.kIn ⟨_, h1, rfl⟩ e (fun z => nomatch z) h
  | @tup a xs ea =>
    cases (show u = Value.ref a from rx)
    obtain ⟨_, _, _, p⟩ := (show ObjOk X.prog X.w H s.heap a (.tup xs) from I.hok a _ ea)
    obtain ⟨o, h1, h2, _⟩ := p
    exact PySem.W.kia_one PySem.W.kitx_tuple I.kIn ⟨o, h1, h2⟩ e (fun z => nomatch z) h
  | @dK a kvs ea =>
    cases (show u = Value.ref a from rx)
    obtain ⟨_, _, vs, _, p⟩ := (show ObjOk X.prog X.w H s.heap a (.dK kvs) from I.hok a _ ea)
    obtain ⟨o, es, ep, h1, h2, _⟩ := p
    exact PySem.W.kia_one PySem.W.kitx_dict I.kIn ⟨o, h1, h2.1⟩ e (fun z => nomatch z) h
  | @dT a kvs ea =>
    cases (show u = Value.ref a from rx)
    obtain ⟨_, _, xs, _, o, es, ep, h1, h2, _⟩ := (show ObjOk X.prog X.w H s.heap a (.dT kvs) from I.hok a _ ea)
    exact PySem.W.kia_one PySem.W.kitx_dict I.kIn ⟨o, h1, h2.1⟩ e (fun z => nomatch z) h
  | @ins a C dx fs ea cl ha hn htk hm =>
    cases (show u = Value.ref a from rx)
    obtain ⟨mA, O, _⟩ := ins_get I.hok ea
    obtain ⟨od, J, _⟩ := O.look
    exact PySem.W.kia_one (PySem.W.kitx_own (cl.get _) cl.hd ha hn htk hm) I.kIn J e (fun z => nomatch z) h
end
end L2

namespace L2
open PySem PySem.Spec PyProof.Rows

/-! ### room -/
structure Room (k : Nat) (A : Around) : Prop where
  hd : A.handled = none
  dp : A.depth + 3 * k + 5 < recursionLimit
  un : A.units + 16 * k + 200 < cLine
theorem Room.mono {j k : Nat} {A : Around} (r : Room k A) (h : j ≤ k) : Room j A := ⟨r.hd, by have := r.dp; omega, by have := r.un; omega⟩
theorem Room.deeper {k : Nat} {A : Around} (r : Room (k + 1) A) (env : Env) : Room k (A.deeper env) :=
  ⟨r.hd, by have := r.dp; show A.depth + 1 + 3 * k + 5 < _; omega, by have := r.un; show A.units + 3 + 16 * k + 200 < _; omega⟩
theorem make_depth {A : Around} {C : Addr} {us : List Value} {kw : List (Str × Value)} : (A.under (.builtin "type.__call__" ⟨.ref C :: us, kw⟩)).depth = A.depth + 1 := by
  first | rfl | simp [Around.under, Code.weight, Code.isCreation, Code.isGuard, Code.isCaller, Code.frames, Code.isFrame, guardIds]
theorem make_units {A : Around} {C : Addr} {us : List Value} {kw : List (Str × Value)} : (A.under (.builtin "type.__call__" ⟨.ref C :: us, kw⟩)).units = A.units + 1 := by
  first | rfl | simp [Around.under, Code.cUnits, Code.frames, Code.isFrame]
theorem Room.make {k : Nat} {A : Around} (r : Room (k + 1) A) (C : Addr) (us : List Value) (kw : List (Str × Value)) : Room k (A.under (.builtin "type.__call__" ⟨.ref C :: us, kw⟩)) :=
  ⟨r.hd, by have := r.dp; rw [make_depth]; omega, by have := r.un; rw [make_units]; omega⟩
theorem Room.depth {k : Nat} {A : Around} (r : Room k A) : A.depth < recursionLimit := by have := r.dp; omega
theorem Room.units {k : Nat} {A : Around} (r : Room k A) : A.units + 64 < cLine := by have := r.un; omega
/-! ### argument lists and displays -/
def tNil : TA := fun _ H Q => Q [] H
def tCons (ta : TE) (tr : TA) : TA := fun σ H Q => ta σ H fun x H1 => tr σ H1 fun xs H2 => Q (x :: xs) H2
section
variable {X : Cx} {e : Expr} {es : List Expr} {te : TE} {t : TA} {pos : Pos}
theorem pa_nil : PA X [] tNil := fun _ _ _ _ H Q I h => Calls.spliced_nil ⟨[], H, I, .nil, h⟩
theorem pa_cons (ha : PE X e te) (hr : PA X es t) (hs : starEach (e :: es) X.env = (false, eval e X.env) :: starEach es X.env := by rfl) : PA X (e :: es) (tCons te t) := by
  intro pos pins s σ H Q I h
  rw [hs]
  show wpAny _ _ (spliced ((false, eval e X.env) :: backTo pos (starEach es X.env))) _ _ s
  refine Calls.spliced_cons (thn (ha pins s σ H _ I h) fun u s1 ⟨x, H1, I1, r1, q1⟩ => ?_)
  exact thn (hr pos pins s1 σ H1 _ I1 q1) fun us s2 ⟨xs, H2, I2, r2, q2⟩ => ⟨x :: xs, H2, I2, .cons r1 r2, q2⟩

/-- a tuple, a list of written items -/
def tTup (t : TA) : TE := fun σ H Q => t σ H fun xs H1 => xs.length ≤ sizeLine ∧ ∀ p, H1 p = none → Q (.ref p) (upd H1 p (.tup xs))
def tLst (t : TA) : TE := fun σ H Q => t σ H fun xs H1 => xs.length ≤ sizeLine ∧ ∀ p, H1 p = none → Q (.ref p) (upd H1 p (.lst xs))
theorem pe_tup {x1} (h : PA X es t) : PE X (.Tuple es x1 pos) (tTup t) := by
  intro pins s σ H Q I hq
  refine wpAny_Tuple_spliced (thn (h pos pins s σ H _ I hq) fun us s1 ⟨xs, H1, I1, r, z, q⟩ => ⟨by rw [← r.length]; exact z, ?_⟩)
  have hf : H1 s1.heap.objs.size = none := I1.hok.fresh (Nat.le_refl _)
  refine ⟨.ref s1.heap.objs.size, upd H1 s1.heap.objs.size (.tup xs), I1.laid (t' := s1.toks) (fun b u e => Heap.get?_push_of_some _ e) (Nat.le_refl _) ?_, rfl, q _ hf⟩
  exact ⟨z, us, r, ⟨_, Heap.get?_push_size _ rfl, rfl, _, rfl⟩⟩
theorem pe_lst (h : PA X es t) : PE X (.List es pos) (tLst t) := by
  intro pins s σ H Q I hq
  refine wpAny_List_spliced (thn (h pos pins s σ H _ I hq) fun us s1 ⟨xs, H1, I1, r, z, q⟩ => ⟨by rw [← r.length]; exact z, ?_⟩)
  have hf : H1 s1.heap.objs.size = none := I1.hok.fresh (Nat.le_refl _)
  refine ⟨.ref s1.heap.objs.size, upd H1 s1.heap.objs.size (.lst xs), I1.laid (t' := s1.toks) (fun b u e => Heap.get?_push_of_some _ e) (Nat.le_refl _) ?_, rfl, q _ hf⟩
  exact ⟨z, us, 0, r, Heap.get?_push_size _ rfl⟩
end

/-! ### what a def promises -/
/-- a def's promise: the bound arguments in the parameters' order, the heap, the wanted end, the wanted exception -/
abbrev Sp := List V → Hp → VK → XK → Prop
/-- how an exception lies behind a call (file 08 gives it): the callers' frames, abstract heap and state ahead of the call, the wish, the exception, the state -/
abbrev CXT := List Env → Hp → Shared → XK → Value → Shared → Prop

/-- the state at a call -/
structure Env0 (P : Program) (w : World) (K : PySem.W.Frag) (mg : Str → Option Value) (base : Heap) (A : Around) (outer : List Env) (s : Shared) (H : Hp) : Prop where
  frames : A.frames = some outer
  mod : Mod K mg base
  bs : ∀ b o, base.get? b = some o → s.heap.get? b = some o ∧ H b = none
  bsz : base.objs.size ≤ s.heap.objs.size
  funs : s.heap.FunFrames base outer
  frf : ∀ b ∈ frs outer, H b = none
  hok : HOk P w H s.heap
  bare : AllBare s.gens
/-- a call's end -/
def CE (outer : List Env) (P : Program) (w : World) (H : Hp) (s : Shared) (Q : VK) (u : Value) (s' : Shared) : Prop :=
  ∃ v H', s'.os = s.os ∧ AllBare s'.gens ∧ Un (frs outer) [] H H' s.heap s'.heap ∧ HOk P w H' s'.heap ∧ RelV v u ∧ Q v H'
def CR (CX : CXT) (outer : List Env) (P : Program) (w : World) (H : Hp) (s : Shared) (Q : VK) (E : XK) (r : Result) (s' : Shared) : Prop :=
  match r with
  | .ok (.ret u) => CE outer P w H s Q u s'
  | .ok _ => False
  | .error e => CX outer H s E e s'
structure FnOk (P : Program) (w : World) (K : PySem.W.Frag) (mg : Str → Option Value) (base : Heap) (CX : CXT) (k : Nat) (f : Addr) (fd : FuncData) (ps : List Str) (sp : Sp) : Prop where
  len : ∀ vs H Q E, sp vs H Q E → vs.length = ps.length
  run : ∀ (A : Around) (outer : List Env) (s : Shared) (H : Hp) (args : Args) (us : List Value) (vs : List V) (Q : VK) (E : XK), Room k A → Env0 P w K mg base A outer s H → BindsTo s fd args (ps.zip us) → Vals vs us → sp vs H Q E →
    codeAny (model P w) A (.call (.ref f) args) (CR CX outer P w H s Q E) s
theorem FnOk.mono {P : Program} {w : World} {K : PySem.W.Frag} {mg : Str → Option Value} {base : Heap} {CX : CXT} {j k : Nat} {f : Addr} {fd : FuncData} {ps : List Str} {sp : Sp} (F : FnOk P w K mg base CX j f fd ps sp) (h : j ≤ k) :
    FnOk P w K mg base CX k f fd ps sp := ⟨F.len, fun A outer s H args us vs Q E hr => F.run A outer s H args us vs Q E (hr.mono h)⟩
theorem Env0.make {P : Program} {w : World} {K : PySem.W.Frag} {mg : Str → Option Value} {base : Heap} {A : Around} {outer : List Env} {s : Shared} {H : Hp} (e : Env0 P w K mg base A outer s H) (C : Addr) (us : List Value) (kw : List (Str × Value)) :
    Env0 P w K mg base (A.under (.builtin "type.__call__" ⟨.ref C :: us, kw⟩)) outer s H := ⟨by first | exact e.frames | (simpa [Around.under, Code.envs, Code.isFrame, pushEnvs] using e.frames), e.mod, e.bs, e.bsz, e.funs, e.frf, e.hok, e.bare⟩
section
variable {X : Cx} {pins : List (Addr × Obj)} {σ : St} {H : Hp} {s s' : Shared}
/-- from a body: what a callee wants -/
theorem Inv.env0 (I : Inv X pins σ H s) : Env0 X.prog X.w X.K X.mg X.base X.A X.stack s H :=
  ⟨I.ok.frames, I.ok.mod, I.bs, Nat.le_trans I.ok.bsz I.sz, I.stack, I.stkFree, I.hok, I.bare⟩
/-- behind a call -/
theorem Inv.after {Q : VK} {u : Value} (I : Inv X pins σ H s) (h : CE X.stack X.prog X.w H s Q u s') : EP X pins σ Q u s' := by
  obtain ⟨v, H', os, bare, un, hok, r, q⟩ := h
  obtain ⟨hh, g, d, t, os'⟩ := s'
  obtain rfl : os' = s.os := os
  exact ⟨v, H', I.call (h' := hh) (g' := g) (d' := d) (t' := t) (ch := []) un hok bare (fun b z => absurd z (by simp)), r, q⟩
end

/-! ### calls -/
/-- f(..): the written arguments, then the defaults dvs; E: what is wanted of an exception -/
def tCall (sp : Sp) (dvs : List V) (E : XK) (t : TA) : TE := fun σ H Q => t σ H fun vs H1 => sp (vs ++ dvs) H1 Q E
/-- o.m(..) of an instance of the class at C -/
def tMeth (C : Addr) (m : Str) (sp : Sp) (dvs : List V) (E : XK) (ta : TE) (t : TA) : TE := fun σ H Q => ta σ H fun x H1 => ∃ a dx fs, x = .ref a ∧ H1 a = some (.ins C dx fs) ∧ fs.lookup m = none ∧
  t σ H1 fun vs H2 => sp (x :: (vs ++ dvs)) H2 Q E
/-- C(..): a new instance and its dict, then __init__ -/
def tMake (C : Addr) (sp : Sp) (dvs : List V) (E : XK) (t : TA) : TE := fun σ H Q => t σ H fun vs H1 => ∀ x dx, H1 x = none → H1 dx = none → dx ≠ x →
  sp (.ref x :: (vs ++ dvs)) (upd (upd H1 dx (.own x)) x (.ins C dx [])) (fun v H2 => v = .non ∧ Q (.ref x) H2) E

/-- how the parameters are bound: us the positional arguments, kw the keywords' values by name, ds the defaults that fill up -/
def Binds (K : PySem.W.Frag) (fd : FuncData) (ps : List Str) (ds : List Value) : Prop :=
  ∀ (s : Shared) (us : List Value), K.In s.heap → (us ++ ds).length = ps.length → BindsTo s fd ⟨us, []⟩ (ps.zip (us ++ ds))
/-- every parameter is given -/
theorem Binds.all {K : PySem.W.Frag} {fd : FuncData} {ps : List Str} (h : ∀ us : List Value, us.length = ps.length → bindArgs fd ⟨us, []⟩ = pure (ps.zip us)) : Binds K fd ps [] := fun s us _ hl => by
  rw [List.append_nil] at hl ⊢
  exact .of_eq (h us hl)

/-- an exception of a callee reaches what this body wants of exceptions -/
def Passes (CX : CXT) (X : Cx) (E : XK) : Prop := ∀ (pins : List (Addr × Obj)) (σ : St) (H : Hp) (s : Shared) (e : Value) (s' : Shared), Inv X pins σ H s → CX X.stack H s E e s' → X.xe e s'

section
variable {X : Cx} {CX : CXT} {k : Nat} {f C : Addr} {fd : FuncData} {ps : List Str} {sp : Sp} {dvs : List V} {ds : List Value} {E : XK} {x m : Str} {p pos apos : Pos} {e o : Expr} {es : List Expr} {ta : TE} {t : TA}

/-- the callee runs -/
theorem run_fn {pins : List (Addr × Obj)} {σ : St} {H : Hp} {s : Shared} {Q : VK} {us : List Value} {vs : List V} (F : FnOk X.prog X.w X.K X.mg X.base CX k f fd ps sp) (hr : Room k X.A) (hb : Binds X.K fd ps ds) (hd : Vals dvs ds) (hx : Passes CX X E)
    (I : Inv X pins σ H s) (r : Vals vs us) (h : sp (vs ++ dvs) H Q E) : wpAny (model X.prog X.w) X.A (call (.ref f) us) (EP X pins σ Q) X.xe s := by
  have r2 : Vals (vs ++ dvs) (us ++ ds) := r.append hd
  have hl : (us ++ ds).length = ps.length := by rw [← r2.length]; exact F.len _ _ _ _ h
  refine wpAny_call (codeAny_mono (F.run X.A X.stack s H ⟨us, []⟩ (us ++ ds) (vs ++ dvs) Q E hr I.env0 (hb s us I.kIn hl) r2 h) fun r s' hq => ?_)
  cases r with
  | error e => exact hx pins σ H s e s' I hq
  | ok fl =>
    cases fl with
    | ret u => exact I.after hq
    | next => exact False.elim hq
    | brk => exact False.elim hq
    | cont => exact False.elim hq

theorem pe_call (F : FnOk X.prog X.w X.K X.mg X.base CX k f fd ps sp) (hr : Room k X.A) (hg : Gl X x) (hm : X.mg x = some (.ref f)) (hk : PySem.W.keepIn X.K (.ref f) = true) (hb : Binds X.K fd ps ds) (hd : Vals dvs ds) (hx : Passes CX X E)
    (ha : PA X (e :: es) t) (hdb : (x == ("__debug__" : Str)) = false := by decide) (he : starEach (e :: es) X.env = (false, eval e X.env) :: starEach es X.env := by rfl) (hpl : (backTo pos (starEach es X.env)).any (·.1) = false := by rfl) :
    PE X (.Call (.Name x p) (e :: es) [] pos) (tCall sp dvs E t) := by
  intro pins s σ H Q I h
  refine wpAny_Call_Name_kw (ld_glob I hg hm ?_ hdb)
  refine PySem.W.callWith_K (h₀ := X.base) I.ok.mod.kin hk (thn (ha pos pins s σ H _ I h) fun us s1 ⟨vs, H1, I1, r, q⟩ => ⟨I1.kIn, ?_⟩) he hpl
  exact run_fn F hr hb hd hx I1 r q
/-- o.m(e, ..) -/
theorem pe_meth {pl : Sem Bool} (he : PE X o ta) (c : Cls X.K C) (hm : Meth X.K C m f) (F : FnOk X.prog X.w X.K X.mg X.base CX k f fd ps sp) (hr : Room k X.A) (hb : Binds X.K fd ps ds) (hd : Vals dvs ds) (hx : Passes CX X E) (ha : PA X (e :: es) t)
    (hst : starEach (e :: es) X.env = (false, eval e X.env) :: starEach es X.env := by rfl) (hpl : (backTo pos (starEach es X.env)).any (·.1) = false := by rfl)
    (ht : eval (.Call (.Attribute o m apos) (e :: es) [] pos) X.env = (do
      let ov ← eval o X.env
      standAt apos.atName
      let (f, first) ← holding [ov] (getMethod ov m pl)
      callWith pos f first (backTo pos (starEach (e :: es) X.env)) (backToKw pos (keywordEach [] X.env))) := by rfl) :
    PE X (.Call (.Attribute o m apos) (e :: es) [] pos) (tMeth C m sp dvs E ta t) := by
  intro pins s σ H Q I h
  refine PySem.W.methodCall_KW (pl := pl) (thn (he pins s σ H _ I h) fun u s1 ⟨x, H1, I1, rx, a, dx, fs, ex, ea, l, q⟩ => ?_) ht
  subst ex
  obtain rfl : u = Value.ref a := rx
  refine getmeth_ok I1 ea c hm l ?_
  refine PySem.W.callWith_K (first := [.ref a]) (h₀ := X.base) I.ok.mod.kin hm.kp (thn (ha pos pins s1 σ H1 _ I1 q) fun us s2 ⟨vs, H2, I2, r, q2⟩ => ⟨I2.kIn, ?_⟩) hst hpl
  exact run_fn (us := .ref a :: us) (vs := .ref a :: vs) F hr hb hd hx I2 (.cons rfl r) q2
/-- o.m() -/
theorem pe_meth0 {pl : Sem Bool} (he : PE X o ta) (c : Cls X.K C) (hm : Meth X.K C m f) (F : FnOk X.prog X.w X.K X.mg X.base CX k f fd ps sp) (hr : Room k X.A) (hb : Binds X.K fd ps ds) (hd : Vals dvs ds) (hx : Passes CX X E)
    (ht : eval (.Call (.Attribute o m apos) [] [] pos) X.env = (do
      let ov ← eval o X.env
      standAt apos.atName
      let (f, first) ← holding [ov] (getMethod ov m pl)
      callWith pos f first (backTo pos (starEach [] X.env)) (backToKw pos (keywordEach [] X.env))) := by rfl) :
    PE X (.Call (.Attribute o m apos) [] [] pos) (tMeth C m sp dvs E ta tNil) := by
  intro pins s σ H Q I h
  refine PySem.W.methodCall_KW (pl := pl) (thn (he pins s σ H _ I h) fun u s1 ⟨x, H1, I1, rx, a, dx, fs, ex, ea, l, q⟩ => ?_) ht
  subst ex
  obtain rfl : u = Value.ref a := rx
  refine getmeth_ok I1 ea c hm l ?_
  exact PySem.W.callWith_K0 (first := [.ref a]) I1.kIn hm.kp (run_fn (us := [.ref a]) (vs := [.ref a]) F hr hb hd hx I1 (.cons rfl .nil) q)

/-- what a class must have to be made -/
structure Mk (K : PySem.W.Frag) (C f : Addr) : Prop where
  makes : PySem.W.makesIn K C = true
  init : PySem.W.findIn K (.ref C) "__init__" = some (some (.ref f))
  fn : PySem.W.isFn K (.ref f) = true
  kp : PySem.W.keepIn K (.ref C) = true

theorem run_make {pins : List (Addr × Obj)} {σ : St} {H : Hp} {s : Shared} {Q : VK} {us : List Value} {vs : List V} (M : Mk X.K C f) (F : FnOk X.prog X.w X.K X.mg X.base CX k f fd ps sp) (hr : Room (k + 1) X.A) (hb : Binds X.K fd ps ds) (hd : Vals dvs ds)
    (hx : Passes CX X E) (I : Inv X pins σ H s) (r : Vals vs us)
    (h : ∀ x dx, H x = none → H dx = none → dx ≠ x → sp (.ref x :: (vs ++ dvs)) (upd (upd H dx (.own x)) x (.ins C dx [])) (fun v H2 => v = .non ∧ Q (.ref x) H2) E) :
    wpAny (model X.prog X.w) X.A (call (.ref C) us) (EP X pins σ Q) X.xe s := by
  have hq := h (s.heap.objs.size + 1) s.heap.objs.size (I.hok.fresh (Nat.le_succ _)) (I.hok.fresh (Nat.le_refl _)) (Nat.ne_of_lt (Nat.lt_succ_self _))
  have I2 := Inv.made (C := C) I
  have r2 : Vals (V.ref (s.heap.objs.size + 1) :: (vs ++ dvs)) (Value.ref (s.heap.objs.size + 1) :: (us ++ ds)) := .cons rfl (r.append hd)
  have hl : (Value.ref (s.heap.objs.size + 1) :: us ++ ds).length = ps.length := by
    have e := r2.length
    rw [F.len _ _ _ _ hq] at e
    exact e.symm
  refine wpAny_call (make_map (f := f) I.kIn M.makes M.init (beq_iff_eq.mp M.fn) (codeAny_mono (F.run _ X.stack _ _ ⟨Value.ref (s.heap.objs.size + 1) :: us, []⟩ (Value.ref (s.heap.objs.size + 1) :: (us ++ ds)) _ _ E (hr.make C us [])
    (I2.env0.make C us []) (hb _ (Value.ref (s.heap.objs.size + 1) :: us) I2.kIn hl) r2 hq) fun r s' hq' => ?_))
  cases r with
  | error e => exact hx pins σ _ _ e s' I2 hq'
  | ok fl =>
    cases fl with
    | ret u =>
      obtain ⟨v, H', I3, rv, ev, q3⟩ := I2.after hq'
      subst ev
      exact ⟨rv, ⟨V.ref (s.heap.objs.size + 1), H', I3, rfl, q3⟩⟩
    | next => exact False.elim hq'
    | brk => exact False.elim hq'
    | cont => exact False.elim hq'
theorem pe_make (M : Mk X.K C f) (F : FnOk X.prog X.w X.K X.mg X.base CX k f fd ps sp) (hr : Room (k + 1) X.A) (hg : Gl X x) (hm : X.mg x = some (.ref C)) (hb : Binds X.K fd ps ds) (hd : Vals dvs ds) (hx : Passes CX X E)
    (ha : PA X (e :: es) t) (hdb : (x == ("__debug__" : Str)) = false := by decide) (he : starEach (e :: es) X.env = (false, eval e X.env) :: starEach es X.env := by rfl) (hpl : (backTo pos (starEach es X.env)).any (·.1) = false := by rfl) :
    PE X (.Call (.Name x p) (e :: es) [] pos) (tMake C sp dvs E t) := by
  intro pins s σ H Q I h
  refine wpAny_Call_Name_kw (ld_glob I hg hm ?_ hdb)
  refine PySem.W.callWith_K (h₀ := X.base) I.ok.mod.kin M.kp (thn (ha pos pins s σ H _ I h) fun us s1 ⟨vs, H1, I1, r, q⟩ => ⟨I1.kIn, ?_⟩) he hpl
  exact run_make M F hr hb hd hx I1 r q
end

/-! ### keywords -/
/-- the values of the keywords, from the left -/
def PK (X : Cx) (kws : List Keyword) (t : TA) : Prop :=
  ∀ (pos : Pos) (pins : List (Addr × Obj)) (s : Shared) (σ : St) (H : Hp) (Q : List V → Hp → Prop), Inv X pins σ H s → t σ H Q → wpAny (model X.prog X.w) X.A (evalAll ((backToKw pos (keywordEach kws X.env)).map (·.2))) (AP X pins σ Q) X.xe s
section
variable {X : Cx} {CX : CXT} {k : Nat} {f C : Addr} {fd : FuncData} {ps ks : List Str} {sp : Sp} {E : XK} {x m : Str} {p pos apos kpos : Pos} {e o : Expr} {es : List Expr} {kws : List Keyword} {te ta : TE} {t tk : TA} {nm : Option Str}
/-- how a call with keywords binds: g puts the positional values us and the keywords' values ws (names ks) in the parameters' order, defaults among them -/
structure KBinds (K : PySem.W.Frag) (fd : FuncData) (ps ks : List Str) (g : List Value → List Value → List Value) (gV : List V → List V → List V) : Prop where
  to : ∀ (s : Shared) (us ws : List Value), K.In s.heap → (g us ws).length = ps.length → BindsTo s fd ⟨us, ks.zip ws⟩ (ps.zip (g us ws))
  rel : ∀ {vs : List V} {us : List Value} {zs : List V} {ws : List Value}, Vals vs us → Vals zs ws → Vals (gV vs zs) (g us ws)
def tCallK (sp : Sp) (gV : List V → List V → List V) (E : XK) (t tk : TA) : TE := fun σ H Q => t σ H fun vs H1 => tk σ H1 fun zs H2 => sp (gV vs zs) H2 Q E
variable {g : List Value → List Value → List Value} {gV : List V → List V → List V}
end

/-! ### a def's body keeps its promise -/
/-- names: the parameters first -/
structure FnScope (N P : List Str) (sc : Scope) : Prop where
  kind : sc.kind = .function
  co : sc.isCoroutine = false
  gen : sc.isGenerator = false
  nd : N.Nodup
  pre : N.take P.length = P
  par : ∀ x ∈ P, sc.names.lookup x = some .local ∨ sc.names.lookup x = some .cell
  nofree : ∀ y ∈ sc.names, y.2 ≠ .free

theorem bindL_out {kindOf : Str → Option NameKind} {x : Str} : ∀ {binds : List (Str × Value)} {m : Str → Option Value}, (∀ v, (x, v) ∉ binds) → bindL kindOf binds m x = m x
  | [], _, _ => rfl
  | (n, v) :: r, m, h => by
    unfold bindL
    rw [bindL_out fun w hw => h w (List.mem_cons_of_mem _ hw)]
    split
    · have : x ≠ n := by rintro rfl; exact h v List.mem_cons_self
      simp [this]
    · rfl
theorem bindC_out {kindOf : Str → Option NameKind} {x : Str} : ∀ {binds : List (Str × Value)} {m : Str → Option Value}, (∀ v, (x, v) ∉ binds) → bindC kindOf binds m x = m x
  | [], _, _ => rfl
  | (n, v) :: r, m, h => by
    unfold bindC
    rw [bindC_out fun w hw => h w (List.mem_cons_of_mem _ hw)]
    split
    · rfl
    · have : x ≠ n := by rintro rfl; exact h v List.mem_cons_self
      simp [this]
theorem bindL_get {kindOf : Str → Option NameKind} {x : Str} {v : Value} : ∀ {P : List Str} {vs : List Value} {i : Nat} {m : Str → Option Value}, P.Nodup → P[i]? = some x → vs[i]? = some v → kindOf x = some .local →
    bindL kindOf (P.zip vs) m x = some v
  | [], _, _, _, _, h, _, _ => by simp at h
  | _ :: _, [], _, _, _, _, h, _ => by simp at h
  | p :: P, w :: vs, 0, m, nd, h1, h2, hk => by
    simp at h1 h2; subst h1; subst h2
    show bindL kindOf ((p, w) :: P.zip vs) m p = _
    unfold bindL
    rw [bindL_out fun v hv => (List.nodup_cons.mp nd).1 (List.of_mem_zip hv).1, if_pos hk]
    simp
  | p :: P, w :: vs, i + 1, m, nd, h1, h2, hk => by
    show bindL kindOf ((p, w) :: P.zip vs) m x = _
    unfold bindL
    exact bindL_get (i := i) (List.nodup_cons.mp nd).2 (by simpa using h1) (by simpa using h2) hk
theorem bindC_get {kindOf : Str → Option NameKind} {x : Str} {v : Value} : ∀ {P : List Str} {vs : List Value} {i : Nat} {m : Str → Option Value}, P.Nodup → P[i]? = some x → vs[i]? = some v → kindOf x ≠ some .local →
    bindC kindOf (P.zip vs) m x = some v
  | [], _, _, _, _, h, _, _ => by simp at h
  | _ :: _, [], _, _, _, _, h, _ => by simp at h
  | p :: P, w :: vs, 0, m, nd, h1, h2, hk => by
    simp at h1 h2; subst h1; subst h2
    show bindC kindOf ((p, w) :: P.zip vs) m p = _
    unfold bindC
    rw [bindC_out fun v hv => (List.nodup_cons.mp nd).1 (List.of_mem_zip hv).1, if_neg hk]
    simp
  | p :: P, w :: vs, i + 1, m, nd, h1, h2, hk => by
    show bindC kindOf ((p, w) :: P.zip vs) m x = _
    unfold bindC
    exact bindC_get (i := i) (List.nodup_cons.mp nd).2 (by simpa using h1) (by simpa using h2) hk

/-- the names' values at the entry -/
def start (N : List Str) (vs : List V) : St := vs.map some ++ List.replicate (N.length - vs.length) none

/-- the context of a def's body, at its entry; an exception leaves the frame, then lies as CX says -/
def cxOf (CX : CXT) (P : Program) (w : World) (K : PySem.W.Frag) (mg : Str → Option Value) (base : Heap) (N : List Str) (qual : Str) (scope : Scope) (f : Addr) (cd : Value) (A : Around) (outer : List Env) (s : Shared) (H : Hp) (E : XK) : Cx where
  prog := P
  w := w
  K := K
  mg := mg
  base := base
  A := A.deeper (envOfC qual scope s.heap.objs.size f cd)
  N := N
  s₀ := s
  H₀ := H
  env := envOfC qual scope s.heap.objs.size f cd
  outer := outer
  stack := envOfC qual scope s.heap.objs.size f cd :: outer
  ex := []
  calm := true
  fn := fun _ => true
  pn := []
  xe := fun e s' => wpAny (model P w) (A.deeper (envOfC qual scope s.heap.objs.size f cd)) (leaving (envOfC qual scope s.heap.objs.size f cd) e) (fun _ s'' => CX outer H s E e s'') (fun e' s'' => CX outer H s E e' s'') s'

theorem cell_has {sc : Scope} {n : Nat} {x : Str} (h : sc.names.lookup x = some .cell) : ∃ c, (cellsFrom n sc.names []).lookup x = some c := by
  have q := PySem.W.cellsFrom_some sc.names n [] (.inl h)
  exact Option.isSome_iff_exists.mp q

theorem inv_start {CX : CXT} {P : Program} {w : World} {K : PySem.W.Frag} {mg : Str → Option Value} {base : Heap} {N ps : List Str} {qual : Str} {scope : Scope} {f : Addr} {cd : Value} {A : Around} {outer : List Env} {s s1 : Shared} {H : Hp} {E : XK} {us : List Value} {vs : List V}
    (S : FnScope N ps scope) (hd : A.handled = none) (e0 : Env0 P w K mg base A outer s H) (hl : vs.length = ps.length) (r : Vals vs us)
    (x : InCallC s s.heap.objs.size (bindL (envOfC qual scope s.heap.objs.size f cd).kindOf (ps.zip us) fun _ => none) (cellsFrom (s.heap.objs.size + 1) scope.names []) (bindC (envOfC qual scope s.heap.objs.size f cd).kindOf (ps.zip us) fun _ => none) s1) :
    Inv (cxOf CX P w K mg base N qual scope f cd A outer s H E) [] (start N vs) H s1 := by
  have hpl : ps.length ≤ N.length := by have := congrArg List.length S.pre; rw [List.length_take] at this; omega
  obtain ⟨h1, tk, rfl, hk⟩ := x.done
  have noA : ∀ b : Addr, b ∉ (cxOf CX P w K mg base N qual scope f cd A outer s H E).ex := fun b z => absurd (show b ∈ ([] : List Addr) from z) (by simp)
  refine ⟨⟨e0.mod, S.kind, rfl, rfl, Nat.le_refl _, fun y z c h1 h2 => ?_, fun y hy => ?_, fun y c _ h => ?_, fun _ => hd, Around.frames_deeper e0.frames, .inr ⟨rfl, rfl⟩, fun b z => absurd z (noA b), e0.bs, e0.bsz, fun b _ _ => noA b, fun b z => absurd z (noA b), e0.funs, e0.frf⟩,
    rfl, e0.bare, Un.kept hk, ⟨_, x.toInCall.ns, fun i y v h1 h2 h3 => ?_⟩, fun y c h => ⟨_, x.cell y c h⟩, e0.hok.fresh (Nat.le_refl _), fun y c h => ?_, fun p hp => absurd (show p ∈ ([] : List (Addr × Obj)) from hp) (by simp), e0.hok.kept hk, ?_⟩
  · exact name_of_addr x.apart (PySem.mem_of_lookup h1) (PySem.mem_of_lookup h2)
  · have hy : scope.names.lookup y = some .cell ∨ scope.names.lookup y = some .free := hy
    rcases hy with hy | hy
    · exact cell_has hy
    · exact absurd rfl (S.nofree _ (PySem.mem_of_lookup hy))
  · exact Nat.le_of_lt (x.above y c (PySem.mem_of_lookup h))
  · have hi : i < vs.length := by
      unfold start at h2
      by_cases hi : i < vs.length
      · exact hi
      · rw [List.getElem?_append_right (by simpa using hi)] at h2
        rw [List.getElem?_replicate] at h2
        split at h2 <;> cases h2
    have ha : vs[i]? = some v := by
      unfold start at h2
      rw [List.getElem?_append_left (by simpa using hi), List.getElem?_map] at h2
      cases e : vs[i]? with
      | none => rw [e] at h2; cases h2
      | some a => rw [e] at h2; cases h2; rfl
    obtain ⟨u, hu, rv⟩ := r.get ha
    have hp : ps[i]? = some y := by
      rw [← S.pre, List.getElem?_take_of_lt (by omega)]; exact h1
    have ndP : ps.Nodup := by rw [← S.pre]; exact S.nd.sublist (List.take_sublist _ _)
    refine ⟨u, rv, ?_⟩
    rcases S.par y (List.mem_of_getElem? hp) with k | k
    · exact .inl ⟨k, bindL_get ndP hp hu k⟩
    · obtain ⟨c, e⟩ := cell_has (n := s.heap.objs.size + 1) k
      refine .inr ⟨.inl k, c, e, ?_⟩
      have q := x.cell y c e
      rw [bindC_get ndP hp hu (by show scope.names.lookup y ≠ _; rw [k]; decide)] at q
      exact q
  · exact e0.hok.fresh (Nat.le_of_lt (x.above y c (PySem.mem_of_lookup h)))
  · unfold start
    show _ = N.length
    rw [List.length_append, List.length_map, List.length_replicate]
    omega

/-- THE RULE: a def (or a method) of the text, by its body. The body's reading t is chosen for each entry; it is run at the parameters' values -/
theorem fn_of {CX : CXT} {P : Program} {w : World} {K : PySem.W.Frag} {mg : Str → Option Value} {base : Heap} {k : Nat} {f : Addr} {name qual : Str} {params : Arguments} {body : List Stmt} {scope : Scope} {dV kV doc pm cdv ct oc : Value} {an od : Option Addr}
    {osl : Array (Option Value)} {N ps : List Str} {sp : Sp} (lk : K.lookup f = some ⟨oc, od, .func (PySem.W.fnOf name qual params body scope dV kV doc pm an cdv ct), osl⟩) (hcd : PySem.W.codeIn K cdv qual = true) (S : FnScope N ps scope)
    (len : ∀ vs H Q E, sp vs H Q E → vs.length = ps.length)
    (hbody : ∀ (A : Around) (outer : List Env) (s : Shared) (H : Hp) (vs : List V) (Q : VK) (E : XK), Room k (A.deeper (envOfC qual scope s.heap.objs.size f cdv)) → sp vs H Q E →
      ∃ t, PSs (cxOf CX P w K mg base N qual scope f cdv A outer s H E) body t ∧ t { nx := fun _ H' => Q .non H', rt := Q } (start N vs) H) :
    FnOk P w K mg base CX (k + 1) f (PySem.W.fnOf name qual params body scope dV kV doc pm an cdv ct) ps sp := by
  refine ⟨len, fun A outer s H args us vs Q E hr e0 hb r hsp => ?_⟩
  have hl := len _ _ _ _ hsp
  have KX : K.In s.heap := e0.mod.kin.keeps fun b o e => (e0.bs b o e).1
  have lim : s.heap.NoLimit := e0.mod.nolimit.keeps fun b o e => (e0.bs b o e).1
  have hkind : ∀ y ∈ ps.zip us, scope.names.lookup y.1 = some .local ∨ (scope.names.lookup y.1 = some .cell ∧ ((cellsFrom (s.heap.objs.size + 1) scope.names []).lookup y.1).isSome = true) := fun ⟨n, v⟩ hy => by
    rcases S.par n (List.of_mem_zip hy).1 with q | q
    · exact .inl q
    · exact .inr ⟨q, PySem.W.cellsFrom_some _ _ _ (.inl q)⟩
  refine codeAny_call_function hr.depth (KX _ _ lk) rfl S.co S.gen rfl (PySem.W.codeRec_of KX hcd) (hb _ _ _ _ ?_)
  refine wpAny_newFunctionEnv_cells S.kind hkind fun env he s1 x => ?_
  subst he
  refine ⟨lim.keeps x.toInCall.keep, codeAny_func ?_⟩
  obtain ⟨t, ht, hq⟩ := hbody A outer s H vs Q E (hr.deeper _) hsp
  have I : Inv (cxOf CX P w K mg base N qual scope f cdv A outer s H E) [] (start N vs) H s1 := inv_start S hr.hd e0 hl r x
  refine wpAny_mono (ht [] s1 (start N vs) H _ I hq) (fun fl s' hs => ?_) fun e s' hs => hs
  have fin : ∀ {σ' : St} {H' : Hp} {v : V} {u : Value}, Inv (cxOf CX P w K mg base N qual scope f cdv A outer s H E) [] σ' H' s' → RelV v u → Q v H' → CE outer P w H s Q u s' :=
    fun {σ' H' v u} J rv q => ⟨v, H', J.os, J.bare, J.base, J.hok, rv, q⟩
  cases fl with
  | ret u =>
    obtain ⟨v, σ', H', J, rv, q⟩ := hs
    exact fin J rv q
  | next =>
    obtain ⟨σ', H', J, q⟩ := hs
    exact fin (v := V.non) (u := Value.none) J rfl q
  | brk =>
    obtain ⟨_, _, _, q⟩ := hs
    exact False.elim q
  | cont =>
    obtain ⟨_, _, _, q⟩ := hs
    exact False.elim q
end L2

namespace L2
open PySem PySem.Spec PyProof.Rows
section
variable {X : Cx} {x : Str} {p pos : Pos} {e : Expr} {es : List Expr} {t : TA} {id T : String} {r : List V → Hp → VK → Prop}

def tCB (r : List V → Hp → VK → Prop) (t : TA) : TE := fun σ H Q => t σ H fun vs H1 => r vs H1 Q
/-- f(e, ..), f a built-in function -/
theorem pe_callB (hc : CallR X (.builtin id) r) (hg : Gl X x) (hm : X.mg x = none) (hv : bootBuiltins x = some (.builtin id)) (ha : PA X (e :: es) t) (hn : x ≠ "__name__" := by decide) (hdb : (x == ("__debug__" : Str)) = false := by decide)
    (he : starEach (e :: es) X.env = (false, eval e X.env) :: starEach es X.env := by rfl) (hpl : (backTo pos (starEach es X.env)).any (·.1) = false := by rfl) : PE X (.Call (.Name x p) (e :: es) [] pos) (tCB r t) := by
  intro pins s σ H Q I h
  refine wpAny_Call_Name_kw (ld_blt I hg hm hv ?_ hn hdb)
  exact PyProof.Rows.callWith_builtin1 (thn (ha pos pins s σ H _ I h) fun us s1 ⟨vs, H1, I1, r1, q1⟩ => hc pins s1 σ H1 vs us Q I1 r1 q1) he hpl
/-- T(e, ..), T a built-in type -/
theorem pe_callTy (hc : CallR X (.type T) r) (hg : Gl X x) (hm : X.mg x = none) (hv : bootBuiltins x = some (.type T)) (ha : PA X (e :: es) t) (hn : x ≠ "__name__" := by decide) (hdb : (x == ("__debug__" : Str)) = false := by decide)
    (he : starEach (e :: es) X.env = (false, eval e X.env) :: starEach es X.env := by rfl) (hpl : (backTo pos (starEach es X.env)).any (·.1) = false := by rfl) : PE X (.Call (.Name x p) (e :: es) [] pos) (tCB r t) := by
  intro pins s σ H Q I h
  refine wpAny_Call_Name_kw (ld_blt I hg hm hv ?_ hn hdb)
  exact PyProof.Rows.callWith_type1 (thn (ha pos pins s σ H _ I h) fun us s1 ⟨vs, H1, I1, r1, q1⟩ => hc pins s1 σ H1 vs us Q I1 r1 q1) he hpl
end
end L2

namespace HT
open PySem PyProof.Rows

/-- t < u of tuples of ints -/
def lexLt : List Int → List Int → Bool
  | [], [] => false
  | [], _ :: _ => true
  | _ :: _, [] => false
  | x :: xs, y :: ys => if x = y then lexLt xs ys else decide (x < y)
theorem rcLt_int (A : Around) (s : Shared) (a : Int) (t : Tok) (c : Int) (u : Tok) (prog : Program) (w : World) (E : Value → Shared → Prop) (Q : Value → Shared → Prop) (h : Q (.bool (decide (a < c))) s) :
    wpAny (model prog w) A (richCompare .Lt (.int a t) (.int c u)) Q E s :=
  (PyProof.Rows.lt_int h : wpAny (model prog w) A (compareOp .Lt (.int a t) (.int c u)) Q E s)

section
open PySem.SeqAt
open PySem.AutoSeq1 (wpAny_loadPart')
open PySem.MeetsSeq PySem.MeetsSeq2 PySem.MeetsSeq3

end

section
variable {prog : Program} {w : World} {A : Around} {E : Value → Shared → Prop} {s : Shared}

/-! ### t[a:b], not the whole -/
/-- a slice's bound as a place among n (d where it is left out) -/
def sIx (n d : Nat) : Option Int → Nat
  | none => d
  | some v => if v < 0 then (v + (n : Int)).toNat else min v.toNat n
theorem sIx_none (n d : Nat) : sIx n d none = d := rfl
theorem sIx_nat (n d k : Nat) : sIx n d (some (k : Int)) = min k n := by
  show (if (k : Int) < 0 then ((k : Int) + (n : Int)).toNat else min (k : Int).toNat n) = min k n
  rw [if_neg (by omega), Int.toNat_natCast]
theorem sIx_le (n d : Nat) (hd : d ≤ n) (o : Option Int) : sIx n d o ≤ n := by
  cases o with
  | none => exact hd
  | some v =>
    show (if v < 0 then (v + (n : Int)).toNat else min v.toNat n) ≤ n
    by_cases hv : v < 0
    · rw [if_pos hv]; omega
    · rw [if_neg hv]; exact Nat.min_le_right _ _
end
end HT

namespace L2
open PySem PySem.Spec PyProof.Rows

/-! ### the parts of a slice -/
abbrev TO := St → Hp → (Option Int → Hp → Prop) → Prop
/-- a slice's part (left out, or an int) -/
def PO (X : Cx) (e : Option Expr) (t : TO) : Prop :=
  ∀ (pins : List (Addr × Obj)) (s : Shared) (σ : St) (H : Hp) (Q : Option Int → Hp → Prop), Inv X pins σ H s → t σ H Q →
    wpAny (model X.prog X.w) X.A (evalPart e X.env) (fun u s' => ∃ o H', Inv X pins σ H' s' ∧ IsPart u o ∧ Q o H') X.xe s
def tNoPart : TO := fun _ H Q => Q none H
def tPart (t : TE) : TO := fun σ H Q => t σ H fun x H1 => ∃ i, x = .int i ∧ Q (some i) H1

section
variable {X : Cx} {e : Expr} {te : TE} {lo hi : Option Expr} {tl th : TO} {pos p2 : Pos}

theorem po_none : PO X none tNoPart := by
  intro pins s σ H Q I h
  rw [evalPart_none]
  exact wpAny_pure ⟨none, H, I, .none, h⟩
theorem po_some (h : PE X e te) : PO X (some e) (tPart te) := by
  intro pins s σ H Q I hw
  rw [evalPart_some]
  refine thn (h pins s σ H _ I hw) fun u s1 ⟨x, H1, I1, r1, q1⟩ => ?_
  obtain ⟨i, rfl, q⟩ := q1
  obtain ⟨t, rfl⟩ := r1
  exact ⟨some i, H1, I1, .int i t, q⟩

/-- what a slice of a value is, by values: the slice object stands at sl -/
def SlR (X : Cx) (r : V → Option Int → Option Int → Hp → VK → Prop) : Prop :=
  ∀ (pins : List (Addr × Obj)) (s : Shared) (σ : St) (H : Hp) (x : V) (v vl vu : Value) (lo hi : Option Int) (sl : Addr) (Q : VK), Inv X pins σ H s → RelV x v → s.heap.IsSliceOf sl vl vu .none → IsPart vl lo → IsPart vu hi → r x lo hi H Q →
    ∃ T id, typeLookup (.type T) "__getitem__" = pure (some (.builtin id)) ∧ s.TypeIs v T ∧ wpAny (model X.prog X.w) X.A (getItem v (.ref sl)) (EP X pins σ Q) X.xe s
def tSl (r : V → Option Int → Option Int → Hp → VK → Prop) (te : TE) (tl th : TO) : TE := fun σ H Q => te σ H fun x H1 => tl σ H1 fun l H2 => th σ H2 fun u H3 => r x l u H3 Q
/-- a[lo:hi], any a -/
theorem pe_slice {r : V → Option Int → Option Int → Hp → VK → Prop} (hr : SlR X r) (he : PE X e te) (hl : PO X lo tl) (hu : PO X hi th) : PE X (.Subscript e (.Slice lo hi none p2) pos) (tSl r te tl th) := by
  intro pins s σ H Q I h
  refine Subscript_ (thn (he pins s σ H _ I h) fun v s1 ⟨x, H1, I1, r1, q1⟩ => ?_)
  refine wpAny_Slice (thn (hl pins s1 σ H1 _ I1 q1) fun vl s2 ⟨l, H2, I2, pl, q2⟩ => thn (hu pins s2 σ H2 _ I2 q2) fun vu s3 ⟨u, H3, I3, pu, q3⟩ => ?_)
  rw [evalPart_none]
  refine wpAny_pure ?_
  have I4 : Inv X pins σ H3 { s3 with heap := s3.heap.push { cls := .type "slice", data := .fields #[vl, vu, .none] } } := I3.kept (t' := s3.toks) fun b ob q => Heap.get?_push_of_some _ q
  obtain ⟨T, id, hT, ht, hg⟩ := hr pins { s3 with heap := s3.heap.push { cls := .type "slice", data := .fields #[vl, vu, .none] } } σ H3 x v vl vu l u s3.heap.objs.size Q I4 r1 (Heap.IsSliceOf.new ..) pl pu q3
  show wpAny (model X.prog X.w) X.A (subscriptTail e (.Slice lo hi none p2) v (.ref s3.heap.objs.size)) (EP X pins σ Q) X.xe { s3 with heap := s3.heap.push { cls := .type "slice", data := .fields #[vl, vu, .none] } }
  exact tail_any (ops := [.ref s3.heap.objs.size, v]) ht hT hg (by with_unfolding_all rfl)

/-- the items of xs[lo:hi] -/
def cutV (xs : List V) (lo hi : Option Int) : List V := (xs.drop (HT.sIx xs.length 0 lo)).take (HT.sIx xs.length xs.length hi - HT.sIx xs.length 0 lo)
theorem cutV_length (xs : List V) (lo hi : Option Int) : (cutV xs lo hi).length ≤ xs.length := by
  unfold cutV
  rw [List.length_take, List.length_drop]
  omega
/-- t[lo:hi], not the whole of it (the whole would be t itself) -/
def rSlT (K : PySem.W.Frag) : V → Option Int → Option Int → Hp → VK → Prop := fun x lo hi H Q => ∃ a xs, x = .ref a ∧ SqT K H a xs ∧
  ¬ (HT.sIx xs.length 0 lo = 0 ∧ HT.sIx xs.length xs.length hi = xs.length) ∧ ∀ p, H p = none → Q (.ref p) (upd H p (.tup (cutV xs lo hi)))
/-! ### t < u, t + u -/
def rLtT (K : PySem.W.Frag) : R2 := fun x y H Q => ∃ a b ns ms, x = .ref a ∧ y = .ref b ∧ SqT K H a (ns.map V.int) ∧ SqT K H b (ms.map V.int) ∧ Q (.bl (HT.lexLt ns ms)) H
/-- t + u, t not empty: u empty gives t itself -/
def rCatT (K : PySem.W.Frag) : R2 := fun x y H Q => ∃ a b xs ys, x = .ref a ∧ y = .ref b ∧ SqT K H a xs ∧ SqT K H b ys ∧ xs ≠ [] ∧ xs.length + ys.length ≤ sizeLine ∧
  (ys = [] → Q (.ref a) H) ∧ (ys ≠ [] → ∀ p, H p = none → Q (.ref p) (upd H p (.tup (xs ++ ys))))
end
end L2

namespace L2
open PySem PySem.Spec PyProof.Rows

/-! ### places -/
/-- the place that an index of any sign means -/
def ixN (n : Nat) (i : Int) : Option Nat := if 0 ≤ i then (if i < n then some i.toNat else none) else if -(n : Int) ≤ i then some (i + n).toNat else none
def atI {α : Type} (xs : List α) (i : Int) : Option α := (ixN xs.length i).bind fun j => xs[j]?
theorem ixN_seq {n : Nat} {i : Int} {j : Nat} (h : ixN n i = some j) : seqIndex? i n = some j ∧ j < n ∧ -(n : Int) ≤ i ∧ i < n := by
  unfold ixN at h
  by_cases h0 : 0 ≤ i
  · rw [if_pos h0] at h
    by_cases h1 : i < n
    · rw [if_pos h1] at h
      have e : i.toNat = j := Option.some.inj h
      exact ⟨by rw [seqIndex_of h0 h1, e], by omega, by omega, h1⟩
    · rw [if_neg h1] at h; cases h
  · rw [if_neg h0] at h
    by_cases h1 : -(n : Int) ≤ i
    · rw [if_pos h1] at h
      have e : (i + n).toNat = j := Option.some.inj h
      exact ⟨by rw [seqIndex_neg (by omega) h1, e], by omega, h1, by omega⟩
    · rw [if_neg h1] at h; cases h
theorem atI_get {α : Type} {xs : List α} {i : Int} {v : α} (h : atI xs i = some v) : ∃ j, seqIndex? i xs.length = some j ∧ xs[j]? = some v ∧ j < xs.length ∧ -(xs.length : Int) ≤ i ∧ i < xs.length := by
  unfold atI at h
  cases e : ixN xs.length i with
  | none => rw [e] at h; cases h
  | some j =>
    rw [e] at h
    obtain ⟨h1, h2, h3, h4⟩ := ixN_seq e
    exact ⟨j, h1, h, h2, h3, h4⟩
theorem atI_nat {α : Type} {xs : List α} {j : Nat} {v : α} (h : xs[j]? = some v) : atI xs (j : Int) = some v := by
  have hj : j < xs.length := (List.getElem?_eq_some_iff.mp h).1
  have e : ixN xs.length (j : Int) = some j := by
    unfold ixN
    rw [if_pos (by omega), if_pos (by omega)]; simp
  unfold atI; rw [e]; exact h
/-! ### what may be subscripted -/
/-- what stands as an index of a plain subscript -/
def PlainIx (b : Expr) : Prop := ∀ o i, subscripted b false o i = operate [o, i] (getItem o i)
/-- a subscript by values -/
def IxR (X : Cx) (r : R2) : Prop :=
  ∀ (value slice : Expr) (pins : List (Addr × Obj)) (s : Shared) (σ : St) (H : Hp) (x y : V) (v u : Value) (Q : VK), Inv X pins σ H s → RelV x v → RelV y u → r x y H Q →
    subscripted slice false v u = operate [v, u] (getItem v u) → wpAny (model X.prog X.w) X.A (subscriptTail value slice v u) (EP X pins σ Q) X.xe s
/-- a call of a builtin's method by values: the receiver, the arguments -/
def MtR (X : Cx) (id : String) (r : V → List V → Hp → VK → Prop) : Prop :=
  ∀ (pins : List (Addr × Obj)) (s : Shared) (σ : St) (H : Hp) (x : V) (xs : List V) (v : Value) (us : List Value) (Q : VK), Inv X pins σ H s → RelV x v → Vals xs us → r x xs H Q →
    wpAny (model X.prog X.w) X.A (call (.builtin id) (v :: us)) (EP X pins σ Q) X.xe s
section
variable {X : Cx} {a b : Expr} {ta tb : TE} {pos : Pos}
/-- a[b] -/
theorem pe_ix {r : R2} (hr : IxR X r) (ha : PE X a ta) (hb : PE X b tb) (hs : PlainIx b) : PE X (.Subscript a b pos) (tOp r ta tb) := by
  intro pins s σ H Q I h
  exact Subscript_ (binT ha hb I h fun v u s2 x y H2 I2 rx ry q => hr a b pins s2 σ H2 x y v u Q I2 rx ry q (hs _ _))

def rIxL (K : PySem.W.Frag) : R2 := fun x y H Q => ∃ p xs i v, x = .ref p ∧ y = .int i ∧ SqL K H p xs ∧ atI xs i = some v ∧ Q v H
def rIxT (K : PySem.W.Frag) : R2 := fun x y H Q => ∃ p xs i v, x = .ref p ∧ y = .int i ∧ SqT K H p xs ∧ atI xs i = some v ∧ Q v H
def rIxS : R2 := fun x y H Q => ∃ z i c, x = .str z ∧ y = .int i ∧ z.length ≤ sizeLine ∧ atI z.cps.toList i = some c ∧ Q (.str ⟨#[c]⟩) H
theorem ix_list : IxR X (rIxL X.K) := by
  intro value slice pins s σ H x y v u Q I rx ry h hs
  obtain ⟨p, xs, i, z, rfl, rfl, hq, he, q⟩ := h
  cases rx
  obtain ⟨t, rfl⟩ := ry
  obtain ⟨its, r, pl, hz⟩ := I.list hq
  obtain ⟨j, h1, h2, h3, h4, h5⟩ := atI_get he
  obtain ⟨w, ew, rw'⟩ := r.get h2
  have hl := r.length
  have hn := line63
  have fin : EP X pins σ Q w s := ⟨z, H, I, rw', q⟩
  by_cases h0 : 0 ≤ i
  · have hj : i.toNat = j := by
      rw [seqIndex_of h0 h5] at h1
      exact Option.some.inj h1
    exact item_listR pl.isList h0 (by omega) (by rw [hj]; simpa using ew) fin hs
  · have hj : (i + (its.toArray.size : Int)).toNat = j := by
      rw [seqIndex_neg (by omega) h4] at h1
      rw [List.size_toArray, ← hl]
      exact Option.some.inj h1
    exact subscriptTail_builtinR (x := w) pl.isList.typeIs slot_list_getitem.lookup
      (wpAny_getItem_list_neg (Q := fun r s' => r = w ∧ EP X pins σ Q r s') pl.isList (by omega) (by rw [List.size_toArray] <;> omega) (by omega) (by rw [hj]; simpa using ew) ⟨rfl, fin⟩) hs
theorem ix_tup : IxR X (rIxT X.K) := by
  intro value slice pins s σ H x y v u Q I rx ry h hs
  obtain ⟨p, xs, i, z, rfl, rfl, hq, he, q⟩ := h
  cases rx
  obtain ⟨t, rfl⟩ := ry
  obtain ⟨its, r, pl, hz⟩ := I.tuple hq
  obtain ⟨j, h1, h2, h3, h4, h5⟩ := atI_get he
  obtain ⟨w, ew, rw'⟩ := r.get h2
  have hl := r.length
  have hn := line63
  have fin : EP X pins σ Q w s := ⟨z, H, I, rw', q⟩
  exact subscriptTail_builtinR (x := w) pl.typeIs slot_tuple_getitem.lookup
    (getItem_tuple (j := j) (Q := fun r s' => r = w ∧ EP X pins σ Q r s') pl (by omega) (by omega) (by rw [List.size_toArray, ← hl]; exact h1) (by simpa using ew) ⟨rfl, fin⟩) hs
theorem ix_str : IxR X rIxS := by
  intro value slice pins s σ H x y v u Q I rx ry h hs
  obtain ⟨z, i, c, rfl, rfl, hz, he, q⟩ := h
  obtain ⟨t, rfl⟩ := rx
  obtain ⟨t', rfl⟩ := ry
  obtain ⟨j, h1, h2, h3, h4, h5⟩ := atI_get he
  have hl : z.cps.toList.length = z.length := by simp [Str.length]
  rw [hl] at h1 h4 h5
  have hn := line63
  exact tail_any (typeIs_str s z t) slot_str_getitem.lookup (getItem_str (c := c) (by
    have e1 : decide (i < -(2 ^ 63 : Int)) = false := decide_eq_false (by omega)
    have e2 : decide (i ≥ 2 ^ 63) = false := decide_eq_false (by omega)
    rw [e1, e2, Bool.or_false]) (by rw [h1]; simpa using h2) ⟨.str ⟨#[c]⟩, H, I.tok _, ⟨_, rfl⟩, q⟩) hs
/-- list, tuple or str -/
def rIx (K : PySem.W.Frag) : R2 := fun x y H Q => rIxL K x y H Q ∨ rIxT K x y H Q ∨ rIxS x y H Q
/-! ### xs[i] = v, any sign -/
def rSetL : V → V → V → Hp → (Hp → Prop) → Prop := fun o i v H Q => ∃ p xs k j, o = .ref p ∧ i = .int k ∧ H p = some (.lst xs) ∧ ixN xs.length k = some j ∧ Q (upd H p (.lst (xs.set j v)))
/-! ### slices -/
theorem slice_bounds (lo hi : Option Int) (n : Nat) : (sliceBounds lo hi none n).1 = ((HT.sIx n 0 lo : Nat) : Int) ∧ (sliceBounds lo hi none n).2.1 = ((HT.sIx n n hi : Nat) : Int) ∧ (sliceBounds lo hi none n).2.2 = 1 := by
  refine ⟨?_, ?_, rfl⟩
  · cases lo with
    | none => simp [sliceBounds, HT.sIx]
    | some i =>
      simp only [sliceBounds, HT.sIx, Option.getD_none, show (1 : Int) > 0 by decide, if_true]
      by_cases h : i < 0
      · simp only [h, if_true] <;> omega
      · simp only [h, if_false] <;> omega
  · cases hi with
    | none => simp [sliceBounds, HT.sIx]
    | some i =>
      simp only [sliceBounds, HT.sIx, Option.getD_none, show (1 : Int) > 0 by decide, if_true]
      by_cases h : i < 0
      · simp only [h, if_true] <;> omega
      · simp only [h, if_false] <;> omega
theorem slicePick_cut (its : List Value) (lo hi : Option Int) : slicePick its.toArray lo hi none = ((its.drop (HT.sIx its.length 0 lo)).take (HT.sIx its.length its.length hi - HT.sIx its.length 0 lo)).toArray := by
  obtain ⟨h1, h2, h3⟩ := slice_bounds lo hi its.toArray.size
  unfold slicePick
  rw [h1, h2, h3]
  simp only [sliceRange_one, pick_run, List.size_toArray] <;> rfl
/-- xs[lo:hi] of a list: a new list -/
def rSlL (K : PySem.W.Frag) : V → Option Int → Option Int → Hp → VK → Prop := fun x lo hi H Q => ∃ a xs, x = .ref a ∧ SqL K H a xs ∧ ∀ p, H p = none → Q (.ref p) (upd H p (.lst (cutV xs lo hi)))
theorem sl_list : SlR X (rSlL X.K) := by
  intro pins s σ H x v vl vu lo hi sl Q I rx hs pl pu h
  obtain ⟨a, xs, rfl, hx, q⟩ := h
  cases rx
  obtain ⟨its, r, ht, hz⟩ := I.list hx
  have hlen := r.length
  refine ⟨"list", _, slot_list_getitem.lookup, ht.isList.typeIs, ?_⟩
  refine wpAny_getItem_list_slice ht.isList hs pl pu .none (by simp) ?_ (by rw [List.size_toArray] <;> omega)
  rw [slicePick_cut, ← hlen]
  refine ⟨.ref s.heap.objs.size, _, I.laid (t' := s.toks) (o := .lst (cutV xs lo hi)) (fun b ob q => Heap.get?_push_of_some _ q) (Nat.le_refl _) ?_, rfl, q _ (I.hok.fresh (Nat.le_refl _))⟩
  exact ⟨Nat.le_trans (cutV_length xs lo hi) hz, _, 0, (r.drop (HT.sIx xs.length 0 lo)).take (HT.sIx xs.length xs.length hi - HT.sIx xs.length 0 lo), Heap.get?_push_size _ rfl⟩

/-! ### in, not in: flat items -/
def flatV : V → Bool
  | .non => true
  | .bl _ => true
  | .int _ => true
  | .str _ => true
  | _ => false
/-- == of flat values -/
def eqV : V → V → Bool
  | .non, .non => true
  | .bl a, .bl b => a == b
  | .bl a, .int b => (if a then 1 else 0) == b
  | .int a, .bl b => a == (if b then 1 else 0)
  | .int a, .int b => a == b
  | .str a, .str b => a == b
  | _, _ => false
theorem eqAt_V {A : Around} {s : Shared} {y x : V} {u v : Value} (ry : RelV y u) (rx : RelV x v) (fy : flatV y = true) (fx : flatV x = true) : SeqAt.EqAt A s u v (eqV y x) := by
  cases y with
  | non =>
    cases ry
    cases x with
    | non => cases rx; exact SeqAt.EqAt.same _
    | bl b => cases rx; exact SeqAt.EqAt.none_bool b
    | int b => obtain ⟨t, rfl⟩ := rx; exact SeqAt.EqAt.none_int b t
    | str b => obtain ⟨t, rfl⟩ := rx; exact SeqAt.EqAt.none_str b t
    | _ => exact absurd (show false = true from fx) Bool.false_ne_true
  | bl a =>
    cases ry
    cases x with
    | non => cases rx; exact SeqAt.EqAt.bool_none a
    | bl b => cases rx; exact SeqAt.EqAt.bool_bool a b
    | int b => obtain ⟨t, rfl⟩ := rx; exact SeqAt.EqAt.bool_int a b t
    | str b => obtain ⟨t, rfl⟩ := rx; exact SeqAt.EqAt.bool_str a b t
    | _ => exact absurd (show false = true from fx) Bool.false_ne_true
  | int a =>
    obtain ⟨t', rfl⟩ := ry
    cases x with
    | non => cases rx; exact SeqAt.EqAt.int_none a t'
    | bl b => cases rx; exact SeqAt.EqAt.int_bool a t' b
    | int b => obtain ⟨t, rfl⟩ := rx; exact SeqAt.EqAt.int_int a t' b t
    | str b => obtain ⟨t, rfl⟩ := rx; exact SeqAt.EqAt.int_str a t' b t
    | _ => exact absurd (show false = true from fx) Bool.false_ne_true
  | str a =>
    obtain ⟨t', rfl⟩ := ry
    cases x with
    | non => cases rx; exact SeqAt.EqAt.str_none a t'
    | bl b => cases rx; exact SeqAt.EqAt.str_bool a t' b
    | int b => obtain ⟨t, rfl⟩ := rx; exact SeqAt.EqAt.str_int a t' b t
    | str b => obtain ⟨t, rfl⟩ := rx; exact SeqAt.EqAt.str_str a t' b t
    | _ => exact absurd (show false = true from fx) Bool.false_ne_true
  | _ => exact absurd (show false = true from fy) Bool.false_ne_true
/-- the items' answers, read off the values (a value's own answer does not lean on its token) -/
def eqU (x : V) (u : Value) : Bool := match u with
  | .none => eqV .non x
  | .bool b => eqV (.bl b) x
  | .int i _ => eqV (.int i) x
  | .str z _ => eqV (.str z) x
  | _ => false
theorem eqU_of {x y : V} {u : Value} (r : RelV y u) (f : flatV y = true) : eqU x u = eqV y x := by
  cases y with
  | non => cases r; rfl
  | bl b => cases r; rfl
  | int i => obtain ⟨t, rfl⟩ := r; rfl
  | str z => obtain ⟨t, rfl⟩ := r; rfl
  | _ => exact absurd (show false = true from f) Bool.false_ne_true
theorem any_eqU {x : V} : ∀ {xs : List V} {us : List Value}, Vals xs us → xs.all flatV = true → us.any (eqU x) = xs.any fun y => eqV y x
  | _, _, .nil, _ => rfl
  | y :: xs, u :: us, .cons r t, f => by
    rw [List.all_cons, Bool.and_eq_true] at f
    rw [List.any_cons, List.any_cons, eqU_of r f.1, any_eqU t f.2]
theorem mem_eqAt {A : Around} {s : Shared} {x : V} {v : Value} (rx : RelV x v) (fx : flatV x = true) : ∀ {xs : List V} {us : List Value}, Vals xs us → xs.all flatV = true → ∀ u ∈ us, SeqAt.EqAt A s u v (eqU x u)
  | _, _, .nil, _ => fun u hu => by cases hu
  | y :: xs, u :: us, .cons r t, f => fun u' hu => by
    rw [List.all_cons, Bool.and_eq_true] at f
    rcases List.mem_cons.mp hu with rfl | hu
    · rw [eqU_of r f.1]; exact eqAt_V r rx f.1 fx
    · exact mem_eqAt rx fx t f.2 u' hu
def inV (x : V) (xs : List V) : Bool := xs.any fun y => eqV y x
/-- x in a list or tuple of flat items -/
def rIn (K : PySem.W.Frag) (neg : Bool) : R2 := fun x y H Q => ∃ p xs, y = .ref p ∧ (SqL K H p xs ∨ SqT K H p xs) ∧ flatV x = true ∧ xs.all flatV = true ∧ Q (.bl (if neg then !inV x xs else inV x xs)) H
theorem op_in_seq : OpR X (compareOp .In) (rIn X.K false) := by
  intro pins s σ H x y v u Q I rx ry h
  obtain ⟨p, xs, rfl, hq, fx, fs, q⟩ := h
  cases ry
  rcases hq with hq | hq
  · obtain ⟨its, r, pl, hz⟩ := I.list hq
    refine SeqAt.in_listAt (eqU x) pl.isList (fun w hw => mem_eqAt rx fx r fs w (by simpa using hw)) ⟨.bl _, H, I, rfl, ?_⟩
    rw [show its.toArray.any (eqU x) = its.any (eqU x) by simp, any_eqU r fs]
    exact q
  · obtain ⟨its, r, pl, hz⟩ := I.tuple hq
    refine SeqAt.in_tupleAt (eqU x) pl (fun w hw => mem_eqAt rx fx r fs w (by simpa using hw)) ⟨.bl _, H, I, rfl, ?_⟩
    rw [show its.toArray.any (eqU x) = its.any (eqU x) by simp, any_eqU r fs]
    exact q
/-! ### len, list(x), tuple(x) of any list or tuple that is read -/
theorem call_len_seq : CallR X (.builtin "len") (fun xs H Q => ∃ p ys, xs = [.ref p] ∧ (SqL X.K H p ys ∨ SqT X.K H p ys) ∧ Q (.int ys.length) H) := by
  intro pins s σ H xs us Q I r h
  obtain ⟨p, ys, rfl, hq, q⟩ := h
  obtain ⟨u, rfl, rx⟩ := vals1 r
  cases rx
  have hn := line63
  rcases hq with hq | hq
  · obtain ⟨its, r', pl, hz⟩ := I.list hq
    have hlen := r'.length
    exact Calls.call_len_list pl.isList (by simp only [List.size_toArray] <;> omega) ⟨.int ys.length, H, I.tok _, ⟨s.toks + 1, by rw [List.size_toArray, hlen]⟩, q⟩
  · obtain ⟨its, r', pl, hz⟩ := I.tuple hq
    have hlen := r'.length
    exact len_tuple pl (by simp only [List.size_toArray] <;> omega) ⟨.int ys.length, H, I.tok _, ⟨s.toks + 1, by rw [List.size_toArray, hlen]⟩, q⟩
theorem call_len_str : CallR X (.builtin "len") (fun xs H Q => ∃ z, xs = [.str z] ∧ z.length ≤ sizeLine ∧ Q (.int z.length) H) := by
  intro pins s σ H xs us Q I r h
  obtain ⟨z, rfl, hz, q⟩ := h
  obtain ⟨u, rfl, t, rfl⟩ := vals1 r
  have hn := line63
  exact len_str (by omega) ⟨.int z.length, H, I.tok _, ⟨_, rfl⟩, q⟩
theorem call_list_of : CallR X (.type "list") (fun xs H Q => ∃ p ys, xs = [.ref p] ∧ (SqL X.K H p ys ∨ SqT X.K H p ys) ∧ ∀ l, H l = none → Q (.ref l) (upd H l (.lst ys))) := by
  intro pins s σ H xs us Q I r h
  obtain ⟨p, ys, rfl, hq, q⟩ := h
  obtain ⟨u, rfl, rx⟩ := vals1 r
  cases rx
  have fin : ∀ (its : List Value), Vals ys its → ys.length ≤ sizeLine → ∀ (h' : Heap) (c' : Nat), (∀ b o', s.heap.get? b = some o' → h'.get? b = some o') →
      h'.get? s.heap.objs.size = some { cls := .type "list", dict := none, data := .seq its.toArray c', slots := #[] } → EP X pins σ Q (.ref s.heap.objs.size) { s with heap := h' } := fun its r' hz h' c' kp e =>
    ⟨.ref s.heap.objs.size, _, I.laid (t' := s.toks) kp (Nat.le_refl _) (show ObjOk X.prog X.w _ h' _ (.lst ys) from ⟨hz, its, c', r', e⟩), rfl, q _ (I.hok.fresh (Nat.le_refl _))⟩
  rcases hq with hq | hq
  · obtain ⟨its, r', pl, hz⟩ := I.list hq
    have hlen := r'.length
    obtain ⟨o, ho, hc, n, hd⟩ := pl.isList
    exact call_list_seq p (.inl rfl) ho hc hd (fun h' c' kp e => fin its r' hz h' c' kp e) (by simp only [List.size_toArray] <;> omega)
  · obtain ⟨its, r', pl, hz⟩ := I.tuple hq
    have hlen := r'.length
    obtain ⟨o, ho, hc, n, hd⟩ := pl
    exact call_list_seq p (.inr rfl) ho hc hd (fun h' c' kp e => fin its r' hz h' c' kp e) (by simp only [List.size_toArray] <;> omega)
theorem call_tuple_of : CallR X (.type "tuple") (fun xs H Q => ∃ p ys, xs = [.ref p] ∧ ((SqL X.K H p ys ∧ ∀ l, H l = none → Q (.ref l) (upd H l (.tup ys))) ∨ (SqT X.K H p ys ∧ Q (.ref p) H))) := by
  intro pins s σ H xs us Q I r h
  obtain ⟨p, ys, rfl, h⟩ := h
  obtain ⟨u, rfl, rx⟩ := vals1 r
  cases rx
  rcases h with ⟨hq, q⟩ | ⟨hq, q⟩
  · obtain ⟨its, r', pl, hz⟩ := I.list hq
    have hlen := r'.length
    refine call_tuple_list pl.isList (fun h' kp => ?_) (by simp only [List.size_toArray] <;> omega)
    have I1 : Inv X pins σ H { s with heap := h' } := I.kept (t' := s.toks) kp
    have I2 : Inv X pins σ (upd H h'.objs.size (.tup ys)) { s with heap := h'.push { cls := .type "tuple", data := .seq its.toArray } } :=
      I1.laid (t' := s.toks) (fun b o e => Heap.get?_push_of_some _ e) (Nat.le_refl _) (show ObjOk X.prog X.w _ _ _ (.tup ys) from ⟨hz, its, r', IsTup.new _ _⟩)
    exact ⟨.ref h'.objs.size, _, I2, rfl, q _ (I1.hok.fresh (Nat.le_refl _))⟩
  · obtain ⟨its, r', pl, hz⟩ := I.tuple hq
    exact call_tuple_same pl ⟨.ref p, H, I, rfl, q⟩

/-! ### the call of a builtin's method: o.m(..) -/
/-- the value is of that builtin type -/
def tyV (K : PySem.W.Frag) (T : String) (x : V) (H : Hp) : Prop := match x with
  | .str _ => T = "str"
  | .int _ => T = "int"
  | .ref p => (T = "list" ∧ ∃ xs, SqL K H p xs) ∨ (T = "tuple" ∧ ∃ o, K.lookup p = some o ∧ o.cls = .type "tuple" ∧ o.dict = none) ∨
      (T = "dict" ∧ ((∃ kvs, H p = some (.dK kvs)) ∨ ∃ kvs, H p = some (.dT kvs))) ∨ (T = "set" ∧ ∃ S n, H p = some (.set S n))
  | _ => False
theorem tyV_is {pins : List (Addr × Obj)} {σ : St} {H : Hp} {s : Shared} {T : String} {x : V} {v : Value} (I : Inv X pins σ H s) (r : RelV x v) (ty : tyV X.K T x H) :
    s.TypeIs v T ∧ ∀ a, v = .ref a → ∃ ob, s.heap.get? a = some ob ∧ ob.dict = none := by
  cases x with
  | str z =>
    obtain ⟨t, rfl⟩ := r
    cases (show T = "str" from ty)
    exact ⟨typeIs_str s z t, fun _ e => nomatch e⟩
  | int i =>
    obtain ⟨t, rfl⟩ := r
    cases (show T = "int" from ty)
    exact ⟨typeIs_int s i t, fun _ e => nomatch e⟩
  | ref p =>
    cases r
    rcases ty with ⟨rfl, xs, hq⟩ | ⟨rfl, o, hk, hc, hd⟩ | ⟨rfl, hk⟩ | ⟨rfl, S, n, hk⟩
    · obtain ⟨its, _, pl, _⟩ := I.list hq
      refine ⟨pl.isList.typeIs, fun a e => ?_⟩
      cases e
      obtain ⟨o, n, e, c, hd, _⟩ := pl
      exact ⟨o, e, hd⟩
    · refine ⟨⟨o, I.kIn p o hk, hc⟩, fun a e => ?_⟩
      cases e
      exact ⟨o, I.kIn _ o hk, hd⟩
    · have z : ∃ o, s.heap.get? p = some o ∧ o.ExactDict := by
        rcases hk with ⟨kvs, hk⟩ | ⟨kvs, hk⟩
        · obtain ⟨_, _, _, _, o, _, _, e, ex, _⟩ := I.hok p _ hk
          exact ⟨o, e, ex⟩
        · obtain ⟨_, _, _, _, o, _, _, e, ex, _⟩ := I.hok p _ hk
          exact ⟨o, e, ex⟩
      obtain ⟨o, e, ex⟩ := z
      refine ⟨⟨o, e, ex.1⟩, fun a e2 => ?_⟩
      cases e2
      exact ⟨o, e, ex.2.1⟩
    · obtain ⟨o, _, _, _, e, ex, _⟩ := I.hok p _ hk
      refine ⟨⟨o, e, ex.1⟩, fun a e2 => ?_⟩
      cases e2
      exact ⟨o, e, ex.2.1⟩
  | _ => exact False.elim ty
def tBM0 (K : PySem.W.Frag) (T : String) (r : V → List V → Hp → VK → Prop) (to : TE) : TE := fun σ H Q => to σ H fun x H1 => tyV K T x H1 ∧ r x [] H1 Q
def tBM (K : PySem.W.Frag) (T : String) (r : V → List V → Hp → VK → Prop) (to : TE) (t : TA) : TE := fun σ H Q => to σ H fun x H1 => tyV K T x H1 ∧ t σ H1 fun xs H2 => r x xs H2 Q
variable {o e : Expr} {es : List Expr} {to : TE} {t : TA} {name : Str} {apos cpos : Pos} {T id : String} {r : V → List V → Hp → VK → Prop}
theorem pe_bm (pa : PlainAttrs T) (slot : Slot T name id) (hty : typeOf (.builtin id) = pure (.type "method_descriptor")) (hm : MtR X id r) (ho : PE X o to) (ha : PA X (e :: es) t)
    (hbase : attributeBase o name X.env (eval o X.env) = eval o X.env := by rfl)
    (hfew : ((backTo cpos (starEach (e :: es) X.env)).all (fun x => !x.1) && (backToKw cpos (keywordEach [] X.env)).all (fun x => x.1.isSome)
      && decide ((e :: es).length + ([] : List Keyword).length + (if ([] : List Keyword).isEmpty then 0 else 1) < 30)) = true := by rfl)
    (hline : (apos.endLine == cpos.line) = true := by rfl) (hs : starEach (e :: es) X.env = (false, eval e X.env) :: starEach es X.env := by rfl) (hplain : (backTo cpos (starEach es X.env)).any (·.1) = false := by rfl) :
    PE X (.Call (.Attribute o name apos) (e :: es) [] cpos) (tBM X.K T r to t) := by
  intro pins s σ H Q I h
  refine wpAny_Call_method_late hbase hfew hline rfl (thn (ho pins s σ H _ I h) fun v s1 ⟨x, H1, I1, r1, ty, q1⟩ => ?_)
  obtain ⟨h1, h2⟩ := tyV_is I1 r1 ty
  refine ⟨T, id, pa, slot, hty, h1, h2, ?_⟩
  have hA := ha cpos pins s1 σ H1 _ I1 q1
  rw [hs] at hA ⊢
  refine Calls.callWith_builtin (by show (false || (backTo cpos (starEach es X.env)).any (·.1)) = false; rw [hplain] <;> rfl) (Calls.evalArgs_plain ?_)
  exact thn hA fun us s2 ⟨vs, H2, I2, r2, q2⟩ => hm pins s2 σ H2 x vs v us Q I2 r1 r2 q2
/- xs.append(e), list.index on a module's tuple .. are MtR facts of 06m -/
end
end L2

namespace L2
open PySem PySem.Spec PyProof.Rows

def MtM (X : Cx) (id : String) (r : V → List V → Hp → VK → Prop) : Prop :=
  ∀ (pins : List (Addr × Obj)) (s : Shared) (σ : St) (H : Hp) (x : V) (xs : List V) (v : Value) (us : List Value) (Q : VK), Inv X pins σ H s → RelV x v → Vals xs us → r x xs H Q →
    wpAny (model X.prog X.w) X.A (call (.builtin id) (v :: us)) (EP X pins σ Q) X.xe s

/-! ### lists of values -/
theorem Vals.one : ∀ {x : V} {us : List Value}, Vals [x] us → ∃ u, us = [u] ∧ RelV x u
  | _, _, .cons r .nil => ⟨_, rfl, r⟩
theorem Vals.two : ∀ {x y : V} {us : List Value}, Vals [x, y] us → ∃ u v, us = [u, v] ∧ RelV x u ∧ RelV y v
  | _, _, _, .cons r (.cons q .nil) => ⟨_, _, rfl, r, q⟩
theorem Vals.zero : ∀ {us : List Value}, Vals [] us → us = []
  | _, .nil => rfl
theorem Vals.eraseIdx : ∀ {xs : List V} {us : List Value} (i : Nat), Vals xs us → Vals (xs.eraseIdx i) (us.eraseIdx i)
  | _, _, _, .nil => .nil
  | _, _, 0, .cons _ t => t
  | _, _, i + 1, .cons r t => .cons r (Vals.eraseIdx i t)
theorem len_erase {α : Type} : ∀ (l : List α) (i : Nat), (l.eraseIdx i).length ≤ l.length
  | [], _ => Nat.le_refl _
  | _ :: _, 0 => Nat.le_succ _
  | _ :: r, i + 1 => Nat.succ_le_succ (len_erase r i)
section
variable {X : Cx} {pins : List (Addr × Obj)} {σ : St} {H : Hp} {s : Shared} {l b : Addr} {xs ys zs : List V}

/-! ### the two steps: a tracked list is rewritten, a new list is laid -/
theorem Inv.lset {its its' : List Value} {n : Nat} {f : Array Value → Array Value} {t' : Nat} (I : Inv X pins σ H s) (hH : H l = some (.lst xs))
    (e : s.heap.get? l = some { cls := .type "list", data := .seq its.toArray n }) (hf : f its.toArray = its'.toArray) (hv : Vals ys its') (hz : ys.length ≤ sizeLine) :
    Inv X pins σ (upd H l (.lst ys)) { s with heap := s.heap.update l (Obj.mapSeq f), toks := t' } := by
  have q := PySem.IsL.update e f
  rw [hf] at q
  refine I.write (x := l) (e := l) (by rw [hH]; exact trivial) (.inl rfl) (fun b' u hb hu => (Heap.get?_update_other s.heap (Obj.mapSeq f) (Ne.symm hb)).trans hu) ⟨_, q⟩ ?_
  exact ⟨hz, its', _, hv, q⟩
theorem Inv.lnew {its : List Value} {t' : Nat} (I : Inv X pins σ H s) (hv : Vals ys its) (hz : ys.length ≤ sizeLine) :
    Inv X pins σ (upd H s.heap.objs.size (.lst ys)) { s with heap := s.heap.push { cls := .type "list", data := .seq its.toArray }, toks := t' } :=
  I.laid (fun _ _ q => Heap.get?_push_of_some _ q) (Nat.le_refl _) ⟨hz, its, 0, hv, Heap.get?_push_size _ rfl⟩
theorem Inv.lstM (I : Inv X pins σ H s) (hH : H l = some (.lst xs)) : xs.length ≤ sizeLine ∧ ∃ (its : List Value) (n : Nat), Vals xs its ∧ xs.length = its.length ∧ s.heap.get? l = some { cls := .type "list", data := .seq its.toArray n } := by
  obtain ⟨z, its, n, r, e⟩ := I.hok l _ hH
  exact ⟨z, its, n, r, r.length, e⟩

end

section
variable {X : Cx}

/-! ### methods -/
def rAppend : V → List V → Hp → VK → Prop := fun x vs H Q => ∃ l xs y, x = .ref l ∧ vs = [y] ∧ H l = some (.lst xs) ∧ xs.length < sizeLine ∧ Q .non (upd H l (.lst (xs ++ [y])))
theorem mt_append : MtM X "list.append" rAppend := by
  intro pins s σ H x vs v us Q I rx rv h
  obtain ⟨l, xs, y, rfl, rfl, hH, hz, q⟩ := h
  cases rx
  obtain ⟨u, rfl, ru⟩ := rv.one
  obtain ⟨z, its, n, r, hl, e⟩ := I.lstM hH
  refine call_meets F.slot_list_append ⟨_, e, rfl⟩ F.entry_list_append (F.args_list_append_2 _ _) (PySem.list_append l its.toArray n u (by rw [List.size_toArray]; omega)) ⟨e, ?_⟩
  refine ⟨.non, _, I.lset (its' := its ++ [u]) hH e (by simp) (r.append (.cons ru .nil)) ?_, rfl, q⟩
  rw [List.length_append, List.length_singleton]
  omega

def rExtend : V → List V → Hp → VK → Prop := fun x vs H Q => ∃ l b xs zs, x = .ref l ∧ vs = [.ref b] ∧ H l = some (.lst xs) ∧ H b = some (.lst zs) ∧ xs.length + zs.length ≤ sizeLine ∧ Q .non (upd H l (.lst (xs ++ zs)))
def rPop : V → List V → Hp → VK → Prop := fun x vs H Q => ∃ l xs y, x = .ref l ∧ vs = [] ∧ H l = some (.lst xs) ∧ xs[xs.length - 1]? = some y ∧ Q y (upd H l (.lst xs.dropLast))
def rPopAt : V → List V → Hp → VK → Prop := fun x vs H Q => ∃ l xs i k y, x = .ref l ∧ vs = [.int i] ∧ H l = some (.lst xs) ∧ -(2 ^ 63) ≤ i ∧ i < 2 ^ 63 ∧ seqIndex? i xs.length = some k ∧ xs[k]? = some y ∧ Q y (upd H l (.lst (xs.eraseIdx k)))
theorem mt_popAt : MtM X "list.pop" rPopAt := by
  intro pins s σ H x vs v us Q I rx rv h
  obtain ⟨l, xs, i, k, y, rfl, rfl, hH, h1, h2, hk, hy, q⟩ := h
  cases rx
  obtain ⟨u, rfl, ru⟩ := rv.one
  obtain ⟨t, rfl⟩ := ru
  obtain ⟨z, its, n, r, hl, e⟩ := I.lstM hH
  obtain ⟨w, hw, rw'⟩ := r.get hy
  refine call_meets F.slot_list_pop ⟨_, e, rfl⟩ F.entry_list_pop (F.args_list_pop_2 _ _)
    (MeetsSeq.list_pop_at l its.toArray n i t k w (fitsIndex_both h1 h2) (by rw [List.size_toArray, ← hl]; exact hk) (by rw [← Array.getElem?_toList]; exact hw) (by rw [List.size_toArray]; omega)) ⟨e, ?_⟩
  refine ⟨y, _, I.lset (its' := its.eraseIdx k) hH e ?_ (r.eraseIdx k) ?_, rw', q⟩
  · show its.toArray.eraseIdxIfInBounds k = (its.eraseIdx k).toArray
    rw [List.eraseIdxIfInBounds_toArray]
  · have := len_erase xs k
    omega

def rReverse : V → List V → Hp → VK → Prop := fun x vs H Q => ∃ l xs, x = .ref l ∧ vs = [] ∧ H l = some (.lst xs) ∧ Q .non (upd H l (.lst xs.reverse))
def rClear : V → List V → Hp → VK → Prop := fun x vs H Q => ∃ l xs, x = .ref l ∧ vs = [] ∧ H l = some (.lst xs) ∧ Q .non (upd H l (.lst []))
/-! ### list + list, list += list, list * int -/
def rCat : R2 := fun x y H Q => ∃ l b xs zs, x = .ref l ∧ y = .ref b ∧ H l = some (.lst xs) ∧ H b = some (.lst zs) ∧ xs.length + zs.length ≤ sizeLine ∧ ∀ p, H p = none → Q (.ref p) (upd H p (.lst (xs ++ zs)))
/-- a list times an int (a negative one is nothing) -/
def rRep : R2 := fun x y H Q => ∃ l k xs, x = .ref l ∧ y = .int k ∧ H l = some (.lst xs) ∧ -(2 ^ 63) ≤ k ∧ k < 2 ^ 63 ∧ xs.length * k.toNat ≤ sizeLine ∧
  ∀ p, H p = none → Q (.ref p) (upd H p (.lst (List.replicate k.toNat xs).flatten))
/-! ### del xs[i] -/
end

/-! ### xs[a:b] = ys -/
section
variable {prog : Program} {w : World} {A : Around} {E : Value → Shared → Prop} {s : Shared}
end

section
variable {X : Cx}
end
end L2

namespace Att
open PySem PySem.W PySem.Calls PyProof.Rows

/-! ### the script -/
theorem ints_of_wellAll {P : Params} {h : Heap} : ∀ (ns : List Int) (vs : List Value), WellAll P h vs (ns.map WData.int) → IntsAre vs ns := by
  intro ns
  induction ns with
  | nil =>
    intro vs w
    rw [List.map_nil] at w
    cases w
    exact .nil
  | cons n ns ih =>
    intro vs w
    rw [List.map_cons] at w
    cases w with
    | cons a b =>
      cases a
      exact .cons _ _ (ih _ b)

theorem script_of {l : OpenLaw} {n : Nat} (hn : l.most = some n) {P : Params} {h : Heap} {args : List WData} {vals : List Value}
    (hpre : l.row.toRowW.claim.pre args = true) (hwl : WellAll P h vals args) :
    ∃ a vs ns, vals = [Value.ref a] ∧ args = [WData.list (ns.map WData.int)] ∧ h.get? a = some { cls := .type "list", data := .seq vs.toArray } ∧ IntsAre vs ns ∧ ns.length ≤ n := by
  have hsh : WShape.hasAll [] args [.list .int] = true := (pre_splitW hpre).1
  have hc : l.pre.holds [] { args := args } = true := (pre_splitW hpre).2
  obtain ⟨d, r, rfl, h1, h2⟩ := hasAllW_cons hsh
  obtain rfl := hasAllW_nil h2
  obtain ⟨xs, rfl, h3⟩ := hasW_list h1
  obtain ⟨ns, rfl⟩ := items_int h3
  have hlen : ns.length ≤ n := by
    unfold OpenLaw.pre at hc
    have h4 : (WTm.not (.lt (.lit (.int (n : Int))) (.len (.arg 0)))).holds [] { args := [.list (ns.map .int)] } = true := by
      have h4 := (holds_andW hc).1
      rw [hn] at h4
      exact h4
    have h5 := condW_of h4 (w_not (w_lt w_lit (w_len_list (w_arg rfl))))
    rw [List.length_map] at h5
    refine Nat.le_of_not_lt fun q => ?_
    have q' : (n : Int) < ((ns.length : Nat) : Int) := by omega
    first
      | (rw [decide_eq_true q'] at h5; exact absurd h5 (by decide))
      | (simp at h5; omega)
  cases hwl with
  | cons w1 w2 =>
    cases w2
    cases w1 with
    | list ho hall => exact ⟨_, _, ns, rfl, rfl, ho, ints_of_wellAll ns _ hall, hlen⟩

theorem post_true (l : OpenLaw) (args : List WData) : l.row.toRowW.claim.post args (.bool true) args = true :=
  postW_of (r := l.row.toRowW) (X := (true == true))
    (show WShape.has [] (.bool true) .bool = true by first | rfl | decide | simp [WShape.has, WShape.arms, WShape.armsAll])
    (show (WTm.eq .res (.lit (.bool true))).value [] { args := args, res := some (.bool true), after := args } = some (.bool (true == true)) from w_eq_bool (w_res rfl) w_lit) rfl

/-! ### the attachment: holds_open's last premise (the goal 'hc' behind k_head) from a wpAny of the law's body -/
/-- the same from a codeAny of the CALL (for a layer whose function contracts speak of calls) -/
theorem attach_call {l : OpenLaw} {n : Nat} {q : Program} {loose : List Str} {XP : (Str → Option Value) → Heap → Prop} {YP : World → Heap → Prop} {d : DefRec}
    (hn : l.most = some n) (hdf : d.params.defaults = [])
    (call : ∀ (w : World) (s₀ s₁ : Shared) (mg mb : Str → Option Value) (fa : Addr) (o : Obj) (pm cd doc : Value) (a : Addr) (vs : List Value) (ns : List Int),
      Ground q loose [] XP w s₀ mg mb s₁.heap → YP w s₁.heap →
      s₁.heap.get? fa = some o → o.data = .func (docDef d.name d.params d.body d.scope pm cd doc) → s₁.heap.CodeRec cd d.name → mg d.name = some (.ref fa) →
      s₁.heap.get? a = some { cls := .type "list", data := .seq vs.toArray } → IntsAre vs ns → ns.length ≤ n → s₁.gens = #[] →
      codeAny (model l.prog w) callerA (.call (.ref fa) ⟨[.ref a], []⟩) (fun r s' => r = .ok (.ret (.bool true)) ∧ OldK s₁.heap s'.heap ∧ s'.os = s₁.os ∧ AllBare s'.gens) s₁) :
    WalkO q loose XP YP l.row.toRowW d [] (fun f vs => PySem.call f vs) := by
  intro w s₀ s₁ mg mb G Y fa o pm cd doc dV kV ho hd hcd hD hmg hg args vals as hpre hlay hrd hwl hlo
  obtain rfl : dV = .none := Dflts.none hD hdf
  obtain rfl : kV = .none := Dflts.noKw hD
  obtain ⟨a, vs, ns, rfl, rfl, hobj, hints, hlen⟩ := script_of hn hpre hwl
  refine enter_call (codeAny_mono (call w s₀ s₁ mg mb fa o pm cd doc a vs ns G Y ho (fd_plain hd) hcd hmg hobj hints hlen hg) fun r s' hq => ?_)
  obtain ⟨rfl, h2, h3, h4⟩ := hq
  exact ⟨.inl ⟨.bool true, .bool true, [], rfl, fun _ => rfl, .bool true, post_true l _, fun _ => ⟨List.Pairwise.nil, fun _ hm => (nomatch hm)⟩⟩, h2, h3, h4⟩

/-! ### rules over ANY heap (no ledger) from facts about the written part K: the library's own take a ledger (News) for what they write -/
section
variable {prog : Program} {w : World} {A : Around} {E : Value → Shared → Prop} {s : Shared} {K : Frag}

/-! the whole heap as the ledger: makes every rule that writes through a ledger a rule over any heap -/
def noObjs (h : Heap) : Heap := { h with objs := #[] }
def ledger (h : Heap) (L d : Addr) : List (Addr × Obj) := (List.range h.objs.size).filterMap fun a => if a = L ∨ a = d then none else (h.get? a).map fun o => (a, o)
end
end Att

namespace L2
open PySem PySem.Spec PyProof.Rows

theorem vals_ints : ∀ {vs : List Value} {ns : List Int}, IntsAre vs ns → Vals (ns.map V.int) vs
  | _, _, .nil => .nil
  | _, _, .cons n t h => .cons ⟨t, rfl⟩ (vals_ints h)

/-- nothing is tracked but the script, known to the object (or it is an object of the module) -/
def Only (H : Hp) : Prop := ∀ b, H b = none ∨ ∃ o xs, H b = some (.frz o (.lst xs))

/-- THE HEAD: the law's promise, at the heap behind the top. F, the promise of the law's def, may use that base is part of the heap (so K.In base, base.Ns mainGlobals mg stand in Mod) -/
theorem law_call {P : Program} {w : World} {K : PySem.W.Frag} {mg mb : Str → Option Value} {CX : CXT} {k : Nat} {fa a : Addr} {fd : FuncData} {x : Str} {sp : Sp} {s₁ : Shared} {vs : List Value} {ns : List Int}
    (KX : K.In s₁.heap) (hns : s₁.heap.Ns mainGlobals mg) (hb : s₁.heap.Ns builtinsNs mb) (hbb : ∀ x : Str, x ≠ "__name__" → mb x = bootBuiltins x) (hlim : s₁.heap.NoLimit) (hg : s₁.gens = #[])
    (ha : s₁.heap.get? a = some { cls := .type "list", data := .seq vs.toArray }) (hi : IntsAre vs ns) (hl : ns.length ≤ sizeLine) (hr : Room k callerA)
    (F : ∀ base : Heap, K.In base → base.Ns mainGlobals mg → FnOk P w K mg base CX k fa fd [x] sp) (hbind : ∀ (s : Shared) (u : Value), BindsTo s fd ⟨[u], []⟩ [(x, u)])
    (hsp : ∀ H : Hp, Only H → SqL K H a (ns.map V.int) → sp [.ref a] H (fun v _ => v = .bl true) fun _ _ _ => False)
    (hCX : ∀ H e s', CX [] H s₁ (fun _ _ _ => False) e s' → False) :
    codeAny (model P w) callerA (.call (.ref fa) ⟨[.ref a], []⟩) (fun r s' => r = .ok (.ret (.bool true)) ∧ OldK s₁.heap s'.heap ∧ s'.os = s₁.os ∧ AllBare s'.gens) s₁ := by
  have rv := vals_ints hi
  have lenV := hi.length
  -- from an abstract heap in which nothing but the script may be tracked
  have core : ∀ H : Hp, Only H → SqL K H a (ns.map V.int) → HOk P w H s₁.heap → (∀ b, H b ≠ none → b = a) → (H a ≠ none → K.lookup a = none) →
      codeAny (model P w) callerA (.call (.ref fa) ⟨[.ref a], []⟩) (fun r s' => r = .ok (.ret (.bool true)) ∧ OldK s₁.heap s'.heap ∧ s'.os = s₁.os ∧ AllBare s'.gens) s₁ := by
    intro H hO hS hok hA hK
    have base_of : ∀ {b : Addr} {o : Obj}, s₁.heap.get? b = some o → H b = none → (hidT s₁.heap H).get? b = some o := fun e n => hidT_get e n
    have noA : ∀ {b : Addr} {o : Obj} {es : Array DictEntry} {ep : Nat}, s₁.heap.get? b = some o → o.data = .dict es ep → H b = none := fun {b o es ep} e d => by
      cases q : H b with
      | none => rfl
      | some u =>
        have e' : b = a := hA b (by rw [q]; simp)
        subst e'
        rw [ha] at e; cases e
        have d' : Data.seq vs.toArray _ = Data.dict es ep := d
        cases d'
    have nsK : ∀ {b : Addr} {m : Str → Option Value}, s₁.heap.Ns b m → (hidT s₁.heap H).Ns b m := fun {b m} ⟨o, es, ep, e, d, r⟩ => ⟨o, es, ep, base_of e (noA e d), d, r⟩
    have hKb : K.In (hidT s₁.heap H) := fun b o e => base_of (KX b o e) (by
      cases q : H b with
      | none => rfl
      | some u =>
        have e' : b = a := hA b (by rw [q]; simp)
        subst e'
        rw [hK (by rw [q]; simp)] at e; cases e)
    have hM : Mod K mg (hidT s₁.heap H) := ⟨hKb, nsK hns, ⟨mb, nsK hb, hbb⟩, let ⟨mc, h1, h2⟩ := hlim; ⟨mc, nsK h1, h2⟩⟩
    have e0 : Env0 P w K mg (hidT s₁.heap H) callerA [] s₁ H := ⟨rfl, hM, fun b o e => of_hidT e, Nat.le_of_eq (hidT_size _ _), trivial, fun b hb => absurd (show b ∈ ([] : List Addr) from hb) (by simp), hok, .of_eq hg⟩
    refine codeAny_mono ((F _ hKb (nsK hns)).run callerA [] s₁ H ⟨[.ref a], []⟩ [.ref a] [.ref a] _ _ hr e0 (hbind s₁ (.ref a)) (.cons rfl .nil) (hsp H hO hS)) fun r s' h => ?_
    cases r with
    | error e => exact (hCX H e s' h).elim
    | ok fl =>
      cases fl with
      | next => exact False.elim h
      | brk => exact False.elim h
      | cont => exact False.elim h
      | ret u =>
        obtain ⟨v, H', os, bare, un, hok', r', q⟩ := h
        have q' : v = .bl true := q
        subst q'
        obtain rfl : u = Value.bool true := r'
        refine ⟨rfl, OldK.of_keep fun b o e => ?_, os, bare⟩
        cases q : H b with
        | none => exact un.keep b o e q (by intro z; exact absurd (show b ∈ ([] : List Addr) from z) (by simp)) (by simp)
        | some u =>
          rcases hO b with z | ⟨ob, xs, z⟩
          · rw [q] at z; cases z
          · have z2 := un.frzs b ob _ z
            obtain ⟨e1, _⟩ := hok b _ z
            obtain ⟨e2, _⟩ := hok' b _ z2
            rw [e] at e1; cases e1
            exact e2
  cases hk : K.lookup a with
  | some o =>
    -- the script is one of the module's own objects
    have e := KX a o hk
    rw [ha] at e
    cases e
    refine core (fun _ => none) (fun _ => .inl rfl) (.inr ⟨_, vs.toArray, _, hk, rfl, rfl, rfl, by rw [List.size_toArray, lenV]; exact hl, by simpa using rv⟩) (fun b u z => by have z' : (none : Option HO) = some u := z; cases z') (fun b z => absurd rfl z) fun z => absurd rfl z
  | none =>
    refine core (fun b => if b = a then some (.frz { cls := .type "list", data := .seq vs.toArray } (.lst (ns.map V.int))) else none) (fun b => ?_) (.inl (.inr ⟨{ cls := .type "list", data := .seq vs.toArray }, if_pos rfl⟩)) (fun b u z => ?_) (fun b z => ?_) fun _ => hk
    · by_cases hb : b = a
      · exact .inr ⟨_, _, if_pos hb⟩
      · exact .inl (if_neg hb)
    · by_cases hb : b = a
      · have z' := (if_pos hb).symm.trans z
        cases z'
        subst hb
        exact ⟨ha, by rw [List.length_map]; exact hl, vs, _, rv, ha⟩
      · have z' := (if_neg hb).symm.trans z
        cases z'
    · by_cases hb : b = a
      · exact hb
      · exact absurd (if_neg hb) z
end L2

namespace L2
open PySem PySem.Spec PyProof.Rows

abbrev KOf {K : PySem.W.Frag} {h : Heap} (_ : K.In h) : PySem.W.Frag := K

/-- the goal that k_head leaves (case hc), from the law's promise. F gives the function object fd (K's own) once, then the promise over every base -/
theorem walk_of {l : PySem.W.OpenLaw} {n k : Nat} {q : Program} {loose : List Str} {XP : (Str → Option Value) → Heap → Prop} {YP : World → Heap → Prop} {d : DefRec} {K : Params → PySem.W.Frag} {CX : World → CXT} {sp : World → Sp} {x : Str}
    (hn : l.most = some n) (hn2 : n ≤ sizeLine) (hdf : d.params.defaults = []) (hr : Room k callerA)
    (hY : ∀ (w : World) (h : Heap), YP w h → (K w.params).In h)
    (F : ∀ (w : World) (mg : Str → Option Value) (fa : Addr) (h : Heap), (K w.params).In h → h.Ns mainGlobals mg → mg d.name = some (.ref fa) →
      ∃ fd : FuncData, (∀ (s : Shared) (u : Value), BindsTo s fd ⟨[u], []⟩ [(x, u)]) ∧
        ∀ base : Heap, (K w.params).In base → base.Ns mainGlobals mg → FnOk l.prog w (K w.params) mg base (CX w) k fa fd [x] (sp w))
    (hsp : ∀ (w : World) (H : Hp) (a : Addr) (ns : List Int), ns.length ≤ n → Only H → SqL (K w.params) H a (ns.map V.int) → sp w [.ref a] H (fun v _ => v = .bl true) fun _ _ _ => False)
    (hCX : ∀ (w : World) (H : Hp) (s : Shared) (e : Value) (s' : Shared), CX w [] H s (fun _ _ _ => False) e s' → False) :
    PySem.W.WalkO q loose XP YP l.row.toRowW d [] (fun f vs => PySem.call f vs) := by
  refine Att.attach_call hn hdf fun w s₀ s₁ mg mb fa o pm cd doc a vs ns G Y ho hd hcd hmg hobj hints hlen hg => ?_
  have KX := hY w _ Y
  obtain ⟨fd, hb, hF⟩ := F w mg fa _ KX G.T.g hmg
  exact law_call KX G.T.g G.T.b G.T.builtins G.T.nolimit hg hobj hints (Nat.le_trans hlen hn2) hr hF hb (fun H hO hS => hsp w H a ns hlen hO hS) fun H e s' => hCX w H s₁ e s'
end L2



/-! SHORT WORDS over the layer: a def of the text, its body, what a loop and a test want. -/
namespace L2
open PySem PySem.Spec PyProof.Rows

/-! ### the text by places -/
/-- the j-th statement of a class's body -/
def inClass (s : Stmt) (j : Nat) : Stmt := match s with
  | .ClassDef _ _ _ body _ _ _ _ _ _ _ => body.getD j (.Pass ⟨0, 0, 0, 0⟩)
  | _ => .Pass ⟨0, 0, 0, 0⟩
def defArgs (s : Stmt) : Arguments := match s with
  | .FunctionDef _ a _ _ _ _ _ _ _ _ => a
  | _ => { posonlyargs := [], args := [], vararg := none, kwonlyargs := [], kw_defaults := [], kwarg := none, defaults := [] }
def defBody (s : Stmt) : List Stmt := match s with
  | .FunctionDef _ _ b _ _ _ _ _ _ _ => b
  | _ => []
def defScope (s : Stmt) : Scope := match s with
  | .FunctionDef _ _ _ _ _ _ sc _ _ _ => sc
  | _ => { kind := .function, names := [], isGenerator := false, isCoroutine := false }

/-! ### no exception leaves a def -/
abbrev CX0 : CXT := fun _ _ _ _ _ _ => False
abbrev E0 : XK := fun _ _ _ => False
theorem pass0 {X : Cx} : Passes CX0 X E0 := fun _ _ _ _ _ _ _ h => h.elim

/-! ### a def (or method) of the text as it stands behind the top -/
structure Fun (K : PySem.W.Frag) (x qual : Str) (st : Stmt) (f : Addr) (fd : FuncData) : Prop where
  ex : ∃ (oc : Value) (od : Option Addr) (kV doc pm : Value) (an : Option Addr) (cdv ct : Value) (osl : Array (Option Value)),
    fd = PySem.W.fnOf x qual (defArgs st) (defBody st) (defScope st) .none kV doc pm an cdv ct ∧ K.lookup f = some ⟨oc, od, .func fd, osl⟩ ∧ PySem.W.codeIn K cdv qual = true
  kp : PySem.W.keepIn K (.ref f) = true
section
variable {P : Program} {w : World} {K : PySem.W.Frag} {mg : Str → Option Value} {base : Heap}
/-- THE RULE for a def: its body as a term of rules, and the reading of that term -/
theorem Fun.ok {x qual : Str} {st : Stmt} {f : Addr} {fd : FuncData} {N ps : List Str} {k : Nat} {sp : Sp} (F : Fun K x qual st f fd) (S : FnScope N ps (defScope st)) (len : ∀ vs H Q E, sp vs H Q E → vs.length = ps.length)
    (hbody : ∀ (cdv : Value) (A : Around) (outer : List Env) (s : Shared) (H : Hp) (vs : List V) (Q : VK) (E : XK), Room k (A.deeper (envOfC qual (defScope st) s.heap.objs.size f cdv)) → sp vs H Q E →
      ∃ t, PSs (cxOf CX0 P w K mg base N qual (defScope st) f cdv A outer s H E).nox (defBody st) t ∧ t { nx := fun _ H' => Q .non H', rt := Q } (start N vs) H) : FnOk P w K mg base CX0 (k + 1) f fd ps sp := by
  obtain ⟨oc, od, kV, doc, pm, an, cdv, ct, osl, rfl, lk, hcd⟩ := F.ex
  refine fn_of lk hcd S len fun A outer s H vs Q E hr hsp => ?_
  obtain ⟨t, h, q⟩ := hbody cdv A outer s H vs Q E hr hsp
  exact ⟨t, h.nox, q⟩
/-- how its arguments bind (no defaults): h is «fun _ _ _ _ _ _ us hl => match us, hl with | [_, _], _ => rfl», one _ a parameter -/
theorem Fun.binds {x qual : Str} {st : Stmt} {f : Addr} {fd : FuncData} {ps : List Str} (F : Fun K x qual st f fd)
    (h : ∀ (kV doc pm : Value) (an : Option Addr) (cdv ct : Value) (us : List Value), us.length = ps.length → bindArgs (PySem.W.fnOf x qual (defArgs st) (defBody st) (defScope st) .none kV doc pm an cdv ct) ⟨us, []⟩ = pure (ps.zip us)) : Binds K fd ps [] := by
  obtain ⟨oc, od, kV, doc, pm, an, cdv, ct, osl, rfl, lk, hcd⟩ := F.ex
  exact .all (h kV doc pm an cdv ct)
theorem fun_mk {x qual : Str} {st : Stmt} {f : Addr} {oc : Value} {od an : Option Addr} {osl : Array (Option Value)} {kV doc pm cdv ct : Value} (l : K.lookup f = some ⟨oc, od, .func (PySem.W.fnOf x qual (defArgs st) (defBody st) (defScope st) .none kV doc pm an cdv ct), osl⟩)
    (c : PySem.W.codeIn K cdv qual = true) (k : PySem.W.keepIn K (.ref f) = true) : Fun K x qual st f (PySem.W.fnOf x qual (defArgs st) (defBody st) (defScope st) .none kV doc pm an cdv ct) := ⟨⟨oc, od, kV, doc, pm, an, cdv, ct, osl, rfl, l, c⟩, k⟩
end
/-! ### expressions in short: the name that stands in the i-th slot -/
section
variable {X : Cx}
theorem pv (i : Nat) {x : Str} {pos : Pos} (hN : X.N[i]? = some x := by rfl) (hv : Vis X.env.scope x := by first | exact Or.inl rfl | exact Or.inr (Or.inl rfl) | exact Or.inr (Or.inr rfl)) (hd : (x == ("__debug__" : Str)) = false := by decide)
    (hcd : (x == ("__classdict__" : Str)) = false := by decide) : PE X (.Name x pos) (tVar i) := pe_var hN hv hd hcd
end

/-! ### tests -/
theorem iteF {A B : Prop} (h : B) : if false = true then A else B := by
  rw [if_neg Bool.false_ne_true]
  exact h
theorem iteT {A B : Prop} (h : A) : if true = true then A else B := by
  rw [if_pos rfl]
  exact h
theorem ite2 {c A B : Prop} [Decidable c] (h1 : c → A) (h2 : ¬ c → B) : if c then A else B := by
  by_cases h : c
  · rw [if_pos h]
    exact h1 h
  · rw [if_neg h]
    exact h2 h
theorem iteNS {c A B : Prop} [Decidable c] (hc : c) (h : B) : if (!decide c) = true then A else B := by
  rw [decide_eq_true hc]
  exact iteF h

/-! ### heaps -/
/-- all that was tracked is as it was -/
def Same (H H' : Hp) : Prop := ∀ b o, H b = some o → H' b = some o
theorem Same.refl (H : Hp) : Same H H := fun _ _ h => h
theorem Same.trans {H H1 H2 : Hp} (a : Same H H1) (b : Same H1 H2) : Same H H2 := fun c o h => b c o (a c o h)
theorem Same.free {H H' : Hp} (e : Same H H') {l : Addr} (h : H' l = Option.none) : H l = Option.none := by
  cases q : H l with
  | none => rfl
  | some o =>
    rw [e l o q] at h
    cases h
theorem Same.seq {K : PySem.W.Frag} {H H' : Hp} {a : Addr} {xs : List V} (e : Same H H') (h : SqL K H a xs) : SqL K H' a xs := by
  rcases h with (h | ⟨o, h⟩) | h
  · exact .inl (.inl (e _ _ h))
  · exact .inl (.inr ⟨o, e _ _ h⟩)
  · exact .inr h

end L2
namespace L2
open PySem PySem.Spec PyProof.Rows

theorem closure_fold (env : Env) : ∀ (names : List (Str × NameKind)) (cs : List (Str × Addr)), (∀ x, (x, NameKind.free) ∈ names → ∃ c, env.cells.lookup x = some c) →
    ∃ cl, (forIn names cs fun (p : Str × NameKind) (cs : List (Str × Addr)) => (if (p.2 == NameKind.free) = true then (do let c ← cellOf env p.1; pure (ForInStep.yield ((p.1, c) :: cs))) else pure (ForInStep.yield cs) : Sem (ForInStep (List (Str × Addr))))) = pure cl ∧
      (∀ x c, cl.lookup x = some c → env.cells.lookup x = some c ∨ cs.lookup x = some c) ∧ (∀ x, (x, NameKind.free) ∈ names → ∃ c, cl.lookup x = some c) ∧ (∀ x c, cs.lookup x = some c → ∃ d, cl.lookup x = some d)
  | [], cs, _ => ⟨cs, by simp, fun _ _ h => .inr h, (fun _ h => nomatch h), fun x c h => ⟨c, h⟩⟩
  | (n, k) :: r, cs, h => by
    by_cases hk : k = NameKind.free
    · subst hk
      obtain ⟨c, hc⟩ := h n (List.mem_cons_self ..)
      obtain ⟨cl, e, a, b, d⟩ := closure_fold env r ((n, c) :: cs) (fun x hx => h x (List.mem_cons_of_mem _ hx))
      have hcell : cellOf env n = pure c := by unfold cellOf; rw [hc]
      refine ⟨cl, ?_, fun x c' hx => ?_, fun x hx => ?_, fun x c' hx => ?_⟩
      · rw [List.forIn_cons]
        simp only [beq_self_eq_true, if_true, hcell, pure_bind]
        exact e
      · rcases a x c' hx with q | q
        · exact .inl q
        · rw [List.lookup_cons] at q
          by_cases hxn : (x == n) = true
          · rw [hxn] at q
            have hx' : x = n := by simpa using hxn
            subst hx'
            have : c = c' := by simpa using q
            subst this
            exact .inl hc
          · rw [Bool.eq_false_iff.mpr hxn] at q
            exact .inr q
      · rcases List.mem_cons.mp hx with q | q
        · have hx' : x = n := congrArg Prod.fst q
          subst hx'
          exact d x c (by rw [List.lookup_cons]; simp)
        · exact b x q
      · have : ∃ d', ((n, c) :: cs).lookup x = some d' := by
          rw [List.lookup_cons]
          by_cases hxn : (x == n) = true
          · rw [hxn]; exact ⟨c, rfl⟩
          · rw [Bool.eq_false_iff.mpr hxn]; exact ⟨c', hx⟩
        obtain ⟨d', hd'⟩ := this
        exact d x d' hd'
    · obtain ⟨cl, e, a, b, d⟩ := closure_fold env r cs (fun x hx => h x (List.mem_cons_of_mem _ hx))
      have hkf : (k == NameKind.free) = false := by simpa using hk
      refine ⟨cl, ?_, a, fun x hx => ?_, d⟩
      · rw [List.forIn_cons]
        simp only [hkf, Bool.false_eq_true, if_false, pure_bind]
        exact e
      · rcases List.mem_cons.mp hx with q | q
        · exact absurd (congrArg Prod.snd q).symm hk
        · exact b x q
theorem closure_ok (env : Env) (scope : Scope) (h : ∀ x, (x, NameKind.free) ∈ scope.names → ∃ c, env.cells.lookup x = some c) :
    ∃ cl, closureFor scope env = pure cl ∧ (∀ x c, cl.lookup x = some c → env.cells.lookup x = some c) ∧ (∀ x, (x, NameKind.free) ∈ scope.names → ∃ c, cl.lookup x = some c) := by
  obtain ⟨cl, e, a, b, _⟩ := closure_fold env scope.names [] h
  refine ⟨cl, ?_, fun x c hx => (a x c hx).elim id (fun z => by simp at z), b⟩
  unfold closureFor
  simp only [bind_pure]
  exact e

/-- the context of a comprehension's block -/
def cxC (X : Cx) (scope : Scope) (N' : List Str) (cl : List (Str × Addr)) (C : Addr) (s₀ : Shared) (H₀ : Hp) (fp : List Addr) (pn : List (Addr × Obj)) : Cx :=
  { X with N := N', s₀ := s₀, H₀ := H₀, env := compEnvC scope cl C X.env, outer := X.stack, ex := fp, fn := fun _ => false, pn := pn, xe := fun _ _ => False }
/-- which names of the block are the frame's own slots -/
inductive Cap (X : Cx) (scope : Scope) : List (Option Nat) → List Str → Prop
  | nil : Cap X scope [] []
  | own {x src N'} : Cap X scope src N' → Cap X scope (none :: src) (x :: N')
  | cap {x i src N'} : X.N[i]? = some x → scope.names.lookup x = some NameKind.free → (X.env.scope.names.lookup x = some NameKind.cell ∨ X.env.scope.names.lookup x = some NameKind.free) → Cap X scope src N' → Cap X scope (some i :: src) (x :: N')
def capSt (src : List (Option Nat)) (σ : St) : St := src.map fun o => match o with | none => none | some i => σ.getD i none
theorem Cap.length {X : Cx} {scope : Scope} : ∀ {src : List (Option Nat)} {N' : List Str}, Cap X scope src N' → src.length = N'.length
  | _, _, .nil => rfl
  | _, _, .own h => congrArg (· + 1) h.length
  | _, _, .cap _ _ _ h => congrArg (· + 1) h.length
theorem Cap.get {X : Cx} {scope : Scope} {σ : St} : ∀ {src : List (Option Nat)} {N' : List Str}, Cap X scope src N' → ∀ (j : Nat) (x : Str) (v : V), N'[j]? = some x → (capSt src σ)[j]? = some (some v) →
    ∃ i : Nat, X.N[i]? = some x ∧ σ[i]? = some (some v) ∧ scope.names.lookup x = some NameKind.free ∧ (X.env.scope.names.lookup x = some NameKind.cell ∨ X.env.scope.names.lookup x = some NameKind.free)
  | _, _, .nil, j, x, v, h, _ => by simp at h
  | _, _, .own h, 0, x, v, _, e => by simp [capSt] at e
  | _, _, .own h, j + 1, x, v, e1, e2 => h.get j x v (by simpa using e1) (by simpa [capSt] using e2)
  | _, _, .cap (x := y) (i := i) hN hf hk h, 0, x, v, e1, e2 => by
    have ex : y = x := by simpa using e1
    subst ex
    refine ⟨i, hN, ?_, hf, hk⟩
    simp only [capSt, List.map_cons, List.getElem?_cons_zero, Option.some.injEq] at e2
    rw [List.getD_eq_getElem?_getD] at e2
    cases q : σ[i]? with
    | none => rw [q] at e2; simp at e2
    | some o => rw [q] at e2; simp at e2; rw [e2]
  | _, _, .cap hN hf hk h, j + 1, x, v, e1, e2 => h.get j x v (by simpa using e1) (by simpa [capSt] using e2)

theorem lookup_relabel (env : Env) (x : Str) : ∀ {names : List (Str × NameKind)},
    (names.map fun (n, k) => if (k == NameKind.free && env.scope.kind == .function && env.kindOf n == some .cell) then (n, NameKind.cell) else (n, k)).lookup x =
      (names.lookup x).map fun k => if (k == NameKind.free && env.scope.kind == .function && env.kindOf x == some .cell) then NameKind.cell else k
  | [] => rfl
  | (n, k) :: r => by
    have ih := @lookup_relabel env x r
    rw [List.map_cons]
    dsimp only
    by_cases hx : (x == n) = true
    · have e : x = n := by simpa using hx
      subst e
      by_cases hc : (k == NameKind.free && env.scope.kind == .function && env.kindOf x == some .cell) = true
      · rw [if_pos hc, List.lookup_cons, List.lookup_cons, hx]
        simp only [Option.map_some]
        rw [if_pos hc]
      · rw [if_neg hc, List.lookup_cons, List.lookup_cons, hx]
        simp only [Option.map_some]
        rw [if_neg hc]
    · have hx' := Bool.eq_false_iff.mpr hx
      by_cases hc : (k == NameKind.free && env.scope.kind == .function && env.kindOf n == some .cell) = true
      · rw [if_pos hc]; simp only [List.lookup_cons, hx']; exact ih
      · rw [if_neg hc]; simp only [List.lookup_cons, hx']; exact ih
theorem lookup_mem_free {names : List (Str × NameKind)} {x : Str} (h : names.lookup x = some NameKind.free) : (x, NameKind.free) ∈ names := PySem.mem_of_lookup h

section
variable {X : Cx}
/-- the block's first state -/
theorem inv_comp {scope : Scope} {N' : List Str} {src : List (Option Nat)} {cl : List (Str × Addr)} {pins : List (Addr × Obj)} {σ : St} {H : Hp} {s s' : Shared} {h' : Heap} {tk : Nat} {fp : List Addr} {m : Str → Option Value}
    (hk : scope.kind = .function) (hcell : ∀ y ∈ scope.names, y.2 ≠ .cell) (hcap : Cap X scope src N')
    (a : ∀ x c, cl.lookup x = some c → X.env.cells.lookup x = some c) (b : ∀ x, (x, NameKind.free) ∈ scope.names → ∃ c, cl.lookup x = some c)
    (I : Inv X pins σ H s) (hf : ∀ b ∈ fp, FpOk X pins H b) (hfl : ∀ b ∈ fp, b < s.heap.objs.size) (es' : s' = { s with heap := h', toks := tk })
    (keep : ∀ b o, s.heap.get? b = some o → h'.get? b = some o) (hn : h'.Ns s.heap.objs.size m) :
    Inv (cxC X scope N' cl s.heap.objs.size s H fp (X.pn ++ pins)) [] (capSt src σ) H s' := by
  subst es'
  have kindOf : ∀ x, (compEnvC scope cl s.heap.objs.size X.env).kindOf x = (scope.names.lookup x).map fun k => if (k == NameKind.free && X.env.scope.kind == .function && X.env.kindOf x == some .cell) then NameKind.cell else k := fun x => lookup_relabel X.env x
  have freeOf : ∀ x, ((compEnvC scope cl s.heap.objs.size X.env).kindOf x = some .cell ∨ (compEnvC scope cl s.heap.objs.size X.env).kindOf x = some .free) → scope.names.lookup x = some .free := fun x h => by
    rw [kindOf] at h
    cases q : scope.names.lookup x with
    | none => rw [q] at h; simp at h
    | some k =>
      rw [q] at h
      by_cases hkf : k = NameKind.free
      · rw [hkf]
      · have hkf' : (k == NameKind.free) = false := by simpa using hkf
        simp only [Option.map_some, hkf', Bool.false_and, Bool.false_eq_true, if_false] at h
        rcases h with h | h
        · exact absurd (Option.some.inj h) (hcell _ (PySem.mem_of_lookup q))
        · exact absurd (Option.some.inj h) hkf
  refine ⟨⟨I.ok.mod, hk, I.ok.glob, I.ok.blt, Nat.le_refl _, fun x y c h1 h2 => I.ok.inj x y c (a x c h1) (a y c h2), fun x hx => b x (lookup_mem_free (freeOf x hx)), (fun x c z _ => nomatch z), I.ok.hd, I.ok.frames, .inl rfl, fun b' hb => ?_, I.bs, Nat.le_trans I.ok.bsz I.sz, fun b' o e hb => ?_, fun b' hb z => ?_, I.stack, I.stkFree⟩,
    rfl, I.bare, Un.kept keep, ⟨m, hn, fun j x v h1 h2 h3 => ?_⟩, fun x c h => ?_, I.hok.fresh (Nat.le_refl _), fun x c h => I.freeC x c (a x c h), fun p hp => ?_, I.hok.kept keep, ?_⟩
  · obtain ⟨f0, f1, f2, f3, f4, f5⟩ := hf b' hb
    exact ⟨Nat.ne_of_lt (hfl b' hb), fun x c h => f4 x c (a x c h)⟩
  · obtain ⟨f0, f1, f2, f3, f4, f5⟩ := hf b' hb
    rcases f3 with z | z
    · exact I.ok.noex b' o e z
    · exact absurd (Nat.lt_of_lt_of_le (Heap.lt_size e) (Nat.le_trans I.ok.bsz z)) (Nat.lt_irrefl _)
  · obtain ⟨f0, f1, f2, f3, f4, f5⟩ := hf b' hb
    rcases List.mem_cons.mp (I.stkSub b' z) with e | e
    · exact f1 e
    · exact f2 e
  · obtain ⟨i, e1, e2, e3, e4⟩ := hcap.get j x v h1 h2
    obtain ⟨m0, hn0, hl⟩ := I.loc
    obtain ⟨u, r, l⟩ := hl i x v e1 e2 (by rcases e4 with e4 | e4; exact .inr (.inl e4); exact .inr (.inr e4))
    refine ⟨u, r, ?_⟩
    rcases l with ⟨l, _⟩ | ⟨k, c, e, z⟩
    · have l' : X.env.scope.names.lookup x = some NameKind.local := l
      rcases e4 with e4 | e4 <;> (rw [e4] at l'; cases l')
    · refine .inr ⟨?_, ?_⟩
      · show (compEnvC scope cl s.heap.objs.size X.env).kindOf x = some .cell ∨ (compEnvC scope cl s.heap.objs.size X.env).kindOf x = some .free
        rw [kindOf, e3]
        simp only [Option.map_some]
        split
        · exact .inl rfl
        · exact .inr rfl
      · obtain ⟨c', hc'⟩ := b x (lookup_mem_free e3)
        have := a x c' hc'
        rw [e] at this
        cases this
        obtain ⟨o, ho, hd⟩ := z
        exact ⟨c, hc', o, keep _ _ ho, hd⟩
  · obtain ⟨v, o, ho, hd⟩ := I.cell x c (a x c h)
    exact ⟨v, o, keep _ _ ho, hd⟩
  · have hp' : p ∈ X.pn ++ pins := by simpa [cxC] using hp
    obtain ⟨e, n, ne, nf, d⟩ := I.pin p hp'
    refine ⟨keep _ _ e, n, Nat.ne_of_lt (Heap.lt_size e), fun z => ?_, d⟩
    rcases List.mem_cons.mp (I.stkSub p.1 z) with q | q
    · exact ne q
    · exact nf q
  · show (capSt src σ).length = N'.length
    rw [← hcap.length]
    simp [capSt]
end
end L2
namespace L2
open PySem PySem.Spec PyProof.Rows

/-! ### list comprehensions of one clause -/
section
variable {prog : Program} {w : World} {A : Around} {R : Result → Shared → Prop} {s : Shared}
/-- the loop, with what goes ahead of the store -/
theorem comp_loop {elt tg iter : Expr} {ifs : List Expr} {scope : Scope} {pos : Pos} {it acc : Value} {env : Env} (J : Nat → Shared → Prop)
    (turn : ∀ n s, J n s → wpAny (model prog w) A (pyNext it) (fun r s₁ => match r with
        | none => R (.ok .next) s₁
        | some v => wpAny (model prog w) A (letOwnedTupleGo tg it v) (fun _ z₁ => wpAny (model prog w) A (assign tg env v) (fun _ s₂ =>
            wpAny (model prog w) A (forIn ifs true fun c r => if r = true then do let ok ← isTrue c env (eval c env); pure (ForInStep.yield ok) else pure (ForInStep.yield r))
              (fun ok s₃ => if ok = true then wpAny (model prog w) A (eval elt env) (fun x s₄ => wpAny (model prog w) A (call (.builtin "list.append") [acc, x]) (fun _ s₅ => ∃ m, m < n ∧ J m s₅) (fun _ _ => False) s₄) (fun _ _ => False) s₃
                else ∃ m, m < n ∧ J m s₃) (fun _ _ => False) s₂) (fun _ _ => False) z₁) (fun _ _ => False) s₁) (fun _ _ => False) s)
    (n : Nat) (h : J n s) : codeAny (model prog w) A (.compLoop (.ListComp elt [⟨tg, iter, ifs, 0⟩] scope pos) 0 it acc env) R s := by
  refine codeAny_loop rfl J (fun n s hJ => ?_) n h
  show wpAny _ A (Sem.onRaise (compTurn (.ListComp elt [⟨tg, iter, ifs, 0⟩] scope pos) 0 it acc env) (fun x => do noteFrame x env; theTreesLotGoes x)) _ _ s
  refine wpAny_noted ?_
  rw [compTurn_list]
  have no : ∀ {E : Value → Shared → Prop}, ∀ (e : Value) (s' : Shared), False → E e s' := fun _ _ f => f.elim
  refine wpAny_bind (wpAny_standAt (wpAny_bind (wpAny_mono (turn n s hJ) (fun r s₁ h₁ => ?_) no)))
  cases r with
  | none => exact wpAny_pure h₁
  | some v =>
    refine wpAny_bind (wpAny_mono h₁ (fun _ z₁ hz => ?_) no)
    refine wpAny_bind (wpAny_mono hz (fun _ s₂ h₂ => wpAny_bind (wpAny_mono h₂ (fun ok s₃ h₃ => ?_) no)) no)
    cases ok with
    | false => exact wpAny_pure ⟨rfl, h₃⟩
    | true =>
      exact wpAny_bind (wpAny_bind (wpAny_mono h₃ (fun x s₄ h₄ => wpAny_bind (wpAny_mono h₄ (fun _ s₅ h₅ => wpAny_pure (wpAny_pure ⟨rfl, h₅⟩)) no)) no))
end

/-- the clause's tests -/
def PTs (X : Cx) (ifs : List Expr) (t : TT) : Prop :=
  ∀ (pins : List (Addr × Obj)) (s : Shared) (σ : St) (H : Hp) (Q : Bool → Hp → Prop), Inv X pins σ H s → t σ H Q →
    wpAny (model X.prog X.w) X.A (forIn ifs true fun c r => if r = true then do let ok ← isTrue c X.env (eval c X.env); pure (ForInStep.yield ok) else pure (ForInStep.yield r)) (TP X pins σ Q) X.xe s
def tYes : TT := fun _ H Q => Q true H
theorem pts_nil {X : Cx} : PTs X [] tYes := fun _ _ _ H _ I h => wpAny_tests_nil ⟨H, I, h⟩
/-- W: the turn, a measure, the items so far, the block's slots, the heap; N: what a turn is to reach -/
def LC (src : List (Option Nat)) (J : It) (g : TG) (tt : TT) (te : TE) (σ : St) (H1 : Hp) (Q : VK) (D : Addr) : Prop := ∃ W : Nat → Nat → List V → St → Hp → Prop, (∃ m, W 0 m [] (capSt src σ) (upd H1 D (.lst []))) ∧
  ∀ i m ys σ' H2, W i m ys σ' H2 → H2 D = some (.lst ys) ∧ ((J.stop i H2 ∧ Q (.ref D) H2) ∨ (J.go i H2 ∧ ∃ N : List V → St → Hp → Prop, (∀ ys' σ3 H3, N ys' σ3 H3 → ∃ m', m' < m ∧ W (i + 1) m' ys' σ3 H3) ∧ ∀ x H3, J.yld i H2 x H3 → g x σ' H3 fun σ2 H4 => tt σ2 H4 fun b H5 =>
    if b = true then te σ2 H5 fun y H6 => H6 D = some (.lst ys) ∧ ys.length < sizeLine ∧ N (ys ++ [y]) σ2 (upd H6 D (.lst (ys ++ [y])))
    else N ys σ2 H5))
def tLC (src : List (Option Nat)) (wi : TI) (g : TG) (tt : TT) (te : TE) : TE := fun σ H Q => wi σ H fun J H1 => ∀ D, H1 D = none → LC src J g tt te σ H1 Q D
section
variable {X : Cx}
theorem pe_lc {elt tg iter : Expr} {ifs : List Expr} {scope : Scope} {pos : Pos} {src : List (Option Nat)} {N' : List Str} {wi : TI} {g : TG} {tt : TT} {te : TE} (hcap : Cap X scope src N') (hc : X.calm = true) (hi : PI X tg iter wi)
    (hg : ∀ cl C s₀ H₀ fp pn, PG (cxC X scope N' cl C s₀ H₀ fp pn) tg g) (ht : ∀ cl C s₀ H₀ fp pn, PTs (cxC X scope N' cl C s₀ H₀ fp pn) ifs tt) (he : ∀ cl C s₀ H₀ fp pn, PE (cxC X scope N' cl C s₀ H₀ fp pn) elt te)
    (hfree : ∀ x, (x, NameKind.free) ∈ scope.names → X.env.scope.names.lookup x = some NameKind.cell ∨ X.env.scope.names.lookup x = some NameKind.free)
    (hk : scope.kind = .function := by rfl) (hcell : ∀ y ∈ scope.names, y.2 ≠ .cell := by decide) (hnames : ∀ y ∈ scope.names, y.2 = .local → scope.names.lookup y.1 = some .local := by decide +kernel)
    (hs : ∀ x, foldedSetIterable iter X.env x = pure x := by intro _; rfl) : PE X (.ListComp elt [⟨tg, iter, ifs, 0⟩] scope pos) (tLC src wi g tt te) := by
  intro pins s σ H Q I h
  have no : ∀ {E : Value → Shared → Prop}, ∀ (e : Value) (s' : Shared), False → E e s' := fun _ _ f => f.elim
  obtain ⟨cl, hcl, a, b⟩ := closure_ok X.env scope fun x hx => I.ok.has x (hfree x hx)
  rw [eval_ListComp]
  refine wpAny_comprehension_free (use := none) rfl hs hcl hk hnames (thn (hi pins s σ H _ I h) fun v s1 h1 => thn h1 fun itv s2 h2 => ?_)
  obtain ⟨it, fp, tn, J, H2, e, I2, T, st2, f2, q⟩ := h2
  subst e
  have hD : H2 s2.heap.objs.size = none := I2.hok.fresh (Nat.le_refl _)
  obtain ⟨W, ⟨m0, w0⟩, turn⟩ := q s2.heap.objs.size hD
  have I3 := I2.lnew (t' := s2.toks) (ys := []) (its := []) .nil (Nat.zero_le _)
  have fl2 : ∀ b ∈ fp, b < s2.heap.objs.size := fun b hb => by
    obtain ⟨o, e, _⟩ := T.obj _ _ st2 b hb
    exact Heap.lt_size e
  refine wpAny_newObj_type ?_
  generalize es3 : ({ s2 with heap := s2.heap.push { cls := .type "list", dict := none, data := .seq ([] : List Value).toArray } } : Shared) = s3
  have I3' : Inv X pins σ (upd H2 s2.heap.objs.size (.lst [])) s3 := es3 ▸ I3
  have keep3 : ∀ b o, s2.heap.get? b = some o → s3.heap.get? b = some o := fun b o e => by rw [← es3]; exact Heap.get?_push_of_some _ e
  have st3 : tn 0 s3.heap := T.keep _ _ _ st2 fun b _ o e => keep3 b o e
  have fl3 : ∀ b ∈ fp, b < s3.heap.objs.size := fun b hb => by
    obtain ⟨o, e, _⟩ := T.obj _ _ st3 b hb
    exact Heap.lt_size e
  have f3 : ∀ b ∈ fp, FpOk X pins (upd H2 s2.heap.objs.size (.lst [])) b := fun b hb => ⟨by rw [upd_ne (Nat.ne_of_lt (fl2 b hb))]; exact (f2 b hb).1, (f2 b hb).2⟩
  generalize eD : s2.heap.objs.size = D at *
  generalize eH3 : upd H2 D (.lst []) = H3 at *
  refine wpAny_newFunctionEnv hcell (by intro y hy; simp at hy) (fun h₁ hns₁ hsb₁ => ?_) hk
  have keep4 : ∀ b o, s3.heap.get? b = some o → h₁.get? b = some o := fun b o e => hsb₁.extBut b o (Nat.ne_of_lt (Heap.lt_size e)) (Heap.get?_push_of_some _ e)
  have I4 := inv_comp (N' := N') (src := src) (tk := s3.toks + ([] : List (Str × Value)).length) hk hcell hcap a b I3' f3 fl3 rfl keep4 hns₁
  -- the iterator's objects, through the block
  have stat : ∀ {H' : Hp}, (∀ b ∈ fp, H' b = none) → ∀ b ∈ fp, FpOk (cxC X scope N' cl s3.heap.objs.size s3 H3 fp (X.pn ++ pins)) [] H' b := fun hn b' hb => by
    obtain ⟨f0, f1, fs, fe, f4, f5⟩ := f3 b' hb
    refine ⟨hn b' hb, Nat.ne_of_lt (fl3 b' hb), fun z => ?_, .inl hb, fun x c h => f4 x c (a x c h), fun p hp => f5 p (by simpa [cxC] using hp)⟩
    rcases List.mem_cons.mp (I3'.stkSub b' z) with e | e
    · exact f1 e
    · exact fs e
  -- behind the block
  have fin : ∀ {H' : Hp} {s' : Shared} {σ' : St} {pins' : List (Addr × Obj)}, Inv (cxC X scope N' cl s3.heap.objs.size s3 H3 fp (X.pn ++ pins)) pins' σ' H' s' → ∀ h', Heap.SameBut s3.heap.objs.size s'.heap h' → Inv X pins σ H' { s' with heap := h' } := fun {H' s' σ' pins'} J' h' sb => by
    have same : ∀ b o, b ≠ s3.heap.objs.size → s'.heap.get? b = some o → h'.get? b = some o := fun b o hb e => sb.extBut b o hb e
    have u : Un (frs X.stack) fp H3 H' s3.heap s'.heap := J'.base
    refine I3'.call' (s' := { s' with heap := h' }) (ch := fp) J'.os ⟨fun b o e n hb hx => ?_, fun b o e n hb hx => ?_, u.free, fun b o e hx => ?_, u.tups, u.frzs, u.tbls⟩ (fun b o e => ?_) J'.bare fun b hb => ?_
    · exact same b o (Nat.ne_of_lt (Heap.lt_size e)) (u.keep b o e n hb hx)
    · obtain ⟨sl, z⟩ := u.slot b o e n hb hx
      exact ⟨sl, same b _ (Nat.ne_of_lt (Heap.lt_size e)) z⟩
    · obtain ⟨o', z⟩ := u.there b o e hx
      exact ⟨o', same b o' (Nat.ne_of_lt (Heap.lt_size e)) z⟩
    · have nC : ∀ c v, H' c = some v → c ≠ s3.heap.objs.size := fun c v z q => by
        have := J'.free
        rw [show (cxC X scope N' cl s3.heap.objs.size s3 H3 fp (X.pn ++ pins)).env.locals = s3.heap.objs.size from rfl, ← q, z] at this
        cases this
      refine (J'.hok b o e).stay (fun c v hc q => same c v ?_ q) (fun _ q => q) fun _ _ q => q
      rcases hc with z | z
      · rw [z]; exact nC b o e
      · exact nC c _ z
    · obtain ⟨f0, f1, fs, fe, f4, f5⟩ := f3 b hb
      exact ⟨fe, f1, f4, f5⟩
  have loop : codeAny (model X.prog X.w) X.A (.compLoop (.ListComp elt [⟨tg, iter, ifs, 0⟩] scope pos) 0 (.ref it) (.ref D) (compEnvC scope cl s3.heap.objs.size X.env))
      (compPost (model X.prog X.w) X.A X.xe none (EP X pins σ Q) (.ref D) s3.heap.objs.size) { s3 with heap := h₁, toks := s3.toks + ([] : List (Str × Value)).length } := by
    refine comp_loop (fun n s' => ∃ i ys σ' H', Inv (cxC X scope N' cl s3.heap.objs.size s3 H3 fp (X.pn ++ pins)) [] σ' H' s' ∧ tn i s'.heap ∧ (∀ b ∈ fp, H' b = none) ∧ W i n ys σ' H') ?_ m0 ⟨0, [], capSt src σ, H3, I4, T.keep _ _ _ st3 fun b _ o e => keep4 b o e, fun b hb => (f3 b hb).1, w0⟩
    rintro n s5 ⟨i, ys, σ5, H5, I5, st5, fr5, w5⟩
    obtain ⟨hDs, stop | go⟩ := turn i n ys σ5 H5 w5
    · obtain ⟨stop, qn⟩ := stop
      refine thn (T.done (cxC X scope N' cl s3.heap.objs.size s3 H3 fp (X.pn ++ pins)) rfl rfl rfl hc i [] s5 σ5 H5 _ I5 (stat fr5) st5 stop) fun r s6 ⟨hr, I6⟩ => ?_
      subst hr
      obtain ⟨m, hn, _⟩ := id I6.loc
      exact ⟨m, hn, fun h' sb => ⟨.ref D, H5, fin I6 h' sb, rfl, qn⟩⟩
    · obtain ⟨go, N, hN, step⟩ := go
      refine thn (T.item (cxC X scope N' cl s3.heap.objs.size s3 H3 fp (X.pn ++ pins)) rfl rfl rfl hc i [] s5 σ5 H5 _ I5 (stat fr5) st5 go) fun r s6 ⟨u, hr, h6⟩ => ?_
      subst hr
      refine thn h6 fun _ s7 ⟨x, H7, I7, r7, y7, st7, fr7⟩ => ?_
      have I7' := I7.pinned (stat fr7) (T.obj _ _ st7)
      have again : ∀ {s8 : Shared} {σ8 : St} {H8 : Hp} {ys' : List V}, Inv (cxC X scope N' cl s3.heap.objs.size s3 H3 fp (X.pn ++ pins)) ([] ++ pinsAt fp s7.heap) σ8 H8 s8 → (∃ m', m' < n ∧ W (i + 1) m' ys' σ8 H8) →
          ∃ m, m < n ∧ ∃ i ys σ' H', Inv (cxC X scope N' cl s3.heap.objs.size s3 H3 fp (X.pn ++ pins)) [] σ' H' s8 ∧ tn i s8.heap ∧ (∀ b ∈ fp, H' b = none) ∧ W i m ys σ' H' := fun {s8 σ8 H8 ys'} I8 ⟨m', hm, w8⟩ => by
        refine ⟨m', hm, i + 1, ys', σ8, H8, I8.unpinned, T.keep _ _ _ st7 fun b hb o e => (I8.pin (b, o) (List.mem_append_right _ (List.mem_append_right _ (mem_pinsAt hb e)))).1, fun b hb => ?_, w8⟩
        obtain ⟨o, e, d⟩ := T.obj _ _ st7 b hb
        exact (I8.pin (b, o) (List.mem_append_right _ (List.mem_append_right _ (mem_pinsAt hb e)))).2.1
      refine thn (hg cl _ s3 H3 fp _ _ s7 σ5 H7 x u _ I7' r7 (step x H7 y7)) fun _ s8 ⟨σ8, H8, I8, q8⟩ => ?_
      refine thn (ht cl _ s3 H3 fp _ _ s8 σ8 H8 _ I8 q8) fun ok s9 ⟨H9, I9, q9⟩ => ?_
      cases ok with
      | false => exact again I9 (hN _ _ _ q9)
      | true =>
        rw [if_pos rfl]
        refine thn (he cl _ s3 H3 fp _ _ s9 σ8 H9 _ I9 q9) fun y s10 ⟨yv, H10, I10, r10, q10⟩ => ?_
        obtain ⟨hDy, hlen, w10⟩ := q10
        refine thn (mt_append (X := cxC X scope N' cl s3.heap.objs.size s3 H3 fp (X.pn ++ pins)) _ s10 σ8 H10 (.ref D) [yv] (.ref D) [y] (fun _ H' => H' = upd H10 D (.lst (ys ++ [yv]))) I10 rfl (.cons r10 .nil) ⟨D, ys, yv, rfl, rfl, hDy, hlen, rfl⟩) fun _ s11 ⟨_, H11, I11, _, e11⟩ => ?_
        subst e11
        exact again I11 (hN _ _ _ w10)
  exact codeAny_compStart_list loop (T.self _ 0 _ _ _ (T.keep _ _ _ st3 fun b _ o e => keep4 b o e) loop)
end
end L2
namespace L2
open PySem PySem.Spec PyProof.Rows

/-! ### texts: slices -/
def cutS (x : Str) (lo hi : Option Int) : Str := ⟨((x.cps.toList.drop (HT.sIx x.length 0 lo)).take (HT.sIx x.length x.length hi - HT.sIx x.length 0 lo)).toArray⟩
theorem sliceIx_eq (lo hi : Option Int) (n : Nat) : Builtin.Str.strSliceIndices lo hi 1 n = (List.range (HT.sIx n n hi - HT.sIx n 0 lo)).map fun k => HT.sIx n 0 lo + k := by
  have clip : ∀ (v : Int) (d : Nat), max 0 (min (if v < 0 then v + (n : Int) else v) (n : Int)) = ((HT.sIx n d (some v) : Nat) : Int) := fun v d => by
    show _ = (((if v < 0 then (v + (n : Int)).toNat else min v.toNat n) : Nat) : Int)
    by_cases hv : v < 0
    · simp only [if_pos hv]; omega
    · simp only [if_neg hv]; omega
  have key : ∀ (i j : Nat), sliceRange (i : Int) (j : Int) 1 = (List.range (j - i)).map fun k => i + k := fun i j => by
    unfold sliceRange
    have e : (if (1 : Int) > 0 then (if (i : Int) < (j : Int) then ((j : Int) - (i : Int) + 1 - 1) / 1 else 0) else (if (i : Int) > (j : Int) then ((i : Int) - (j : Int) - 1 - 1) / (-1) else 0)).toNat = j - i := by
      rw [if_pos (by decide)]
      by_cases h : (i : Int) < (j : Int)
      · rw [if_pos h, Int.ediv_one]; omega
      · rw [if_neg h]; omega
    dsimp only
    rw [e]
    refine List.map_congr_left fun k _ => ?_
    omega
  have lo' : (match lo with | none => (0 : Int) | some v => max 0 (min (if v < 0 then v + (n : Int) else v) (n : Int))) = ((HT.sIx n 0 lo : Nat) : Int) := by
    cases lo with
    | none => rfl
    | some v => exact clip v 0
  have hi' : (match hi with | none => (n : Int) | some v => max 0 (min (if v < 0 then v + (n : Int) else v) (n : Int))) = ((HT.sIx n n hi : Nat) : Int) := by
    cases hi with
    | none => rfl
    | some v => exact clip v n
  rw [← key, ← lo', ← hi']
  unfold Builtin.Str.strSliceIndices
  cases lo <;> cases hi <;> simp
theorem slice_eq (x : Str) (lo hi : Option Int) : Txt.slice x lo hi = cutS x lo hi := by
  have hle1 := HT.sIx_le x.length 0 (Nat.zero_le _) lo
  have hle2 := HT.sIx_le x.length x.length (Nat.le_refl _) hi
  have core : ((Builtin.Str.strSliceIndices lo hi 1 x.length).filterMap (x.cps[·]?)) = (x.cps.toList.drop (HT.sIx x.length 0 lo)).take (HT.sIx x.length x.length hi - HT.sIx x.length 0 lo) := by
    rw [sliceIx_eq, List.filterMap_map]
    generalize HT.sIx x.length 0 lo = i
    generalize HT.sIx x.length x.length hi - i = k
    have gen : ∀ (l : List Nat) (k : Nat), (List.range k).filterMap (fun m => l[m]?) = l.take k := by
      intro l k
      induction k with
      | zero => simp
      | succ k ih =>
        rw [List.range_succ, List.filterMap_append, ih]
        by_cases hk : k < l.length
        · rw [List.take_succ_eq_append_getElem hk]; simp [hk]
        · have h1 : l.take (k + 1) = l := List.take_of_length_le (by omega)
          have h2 : l.take k = l := List.take_of_length_le (by omega)
          rw [h1, h2]; simp [hk]
    have e : ((fun j => x.cps[j]?) ∘ fun k => i + k) = fun m => (x.cps.toList.drop i)[m]? := by
      funext m
      simp [List.getElem?_drop]
    rw [e, gen]
  unfold Txt.slice cutS
  rw [core]
  split
  · rename_i h
    simp only [beq_self_eq_true, Bool.true_and, beq_iff_eq] at h
    rw [sliceIx_eq, List.length_map, List.length_range] at h
    have h0 : HT.sIx x.length 0 lo = 0 ∨ x.length = 0 := by omega
    have e : (x.cps.toList.drop (HT.sIx x.length 0 lo)).take (HT.sIx x.length x.length hi - HT.sIx x.length 0 lo) = x.cps.toList := by
      have hl : x.cps.toList.length = x.length := by simp [Str.length]
      rcases h0 with h0 | h0
      · rw [h, h0, List.drop_zero, List.take_of_length_le (by omega)]
      · have : x.cps.toList = [] := List.eq_nil_of_length_eq_zero (by omega)
        rw [this]; simp
    rw [e]
  · rfl
theorem cutS_length_le (x : Str) (lo hi : Option Int) : (cutS x lo hi).length ≤ x.length := by
  rw [← slice_eq]; exact Txt.slice_le x lo hi
def rSlS : V → Option Int → Option Int → Hp → VK → Prop := fun x lo hi H Q => ∃ z, x = .str z ∧ z.length ≤ sizeLine ∧ Q (.str (cutS z lo hi)) H
section
variable {X : Cx}
theorem sl_str : SlR X rSlS := by
  intro pins s σ H x v vl vu lo hi sl Q I rx hs pl pu h
  obtain ⟨z, rfl, hz, q⟩ := h
  obtain ⟨t, rfl⟩ := rx
  refine ⟨"str", _, F.slot_str_getitem.lookup, typeIs_str _ _ _, ?_⟩
  have fin : ∀ (l u : Option (Int × Tok)), l.map (·.1) = lo → u.map (·.1) = hi → s.heap.IsSlice sl l u none → wpAny (model X.prog X.w) X.A (getItem (.str z t) (.ref sl)) (EP X pins σ Q) X.xe s := fun l u el eu hsl => by
    refine wpAny_getItem_str_slice (l := l) (u := u) (st := none) hsl rfl ?_
    have e : (if (((none : Option (Int × Tok)).map (·.1)).getD 1 == 1 && (slicePicked z l u none).length == z.length) = true then z else ⟨((slicePicked z l u none).filterMap (z.cps[·]?)).toArray⟩) = cutS z lo hi := by
      rw [← slice_eq, ← el, ← eu]
      rfl
    refine post_val_or_str ⟨by rw [e]; exact Nat.le_trans (cutS_length_le z lo hi) hz, fun t' k => ?_⟩
    rw [e]
    exact ⟨.str (cutS z lo hi), H, I.tok k, ⟨t', rfl⟩, q⟩
  obtain ⟨o, ho, hc, hd⟩ := hs
  cases pl with
  | none =>
    cases pu with
    | none => exact fin none none rfl rfl ⟨o, ho, hc, hd⟩
    | int j tj => exact fin none (some (j, tj)) rfl rfl ⟨o, ho, hc, hd⟩
  | int i ti =>
    cases pu with
    | none => exact fin (some (i, ti)) none rfl rfl ⟨o, ho, hc, hd⟩
    | int j tj => exact fin (some (i, ti)) (some (j, tj)) rfl rfl ⟨o, ho, hc, hd⟩
theorem op_le_str : OpR X (compareOp .LtE) (fun x y H Q => ∃ i j, x = .str i ∧ y = .str j ∧ Q (.bl (!decide (j.cps.toList < i.cps.toList))) H) := by
  intro pins s σ H x y v u Q I rx ry h
  obtain ⟨i, j, rfl, rfl, q⟩ := h
  obtain ⟨t, rfl⟩ := rx
  obtain ⟨t', rfl⟩ := ry
  exact PySem.P.le_str ⟨.bl _, H, I, rfl, q⟩

/-! ### texts: their signs, one after another -/
def Its (x : Str) : It := ⟨fun i _ => i < x.length, fun i H v H' => H' = H ∧ ∃ c, x.cps.toList[i]? = some c ∧ v = .str ⟨#[c]⟩, fun i _ => x.length ≤ i⟩
theorem turn_str {P : Program} {w : World} {K : PySem.W.Frag} {tg : Expr} (x : Str) (t : Tok) (it : Addr) : Turn P w K tg (Its x) [it] it (fun i h => h.IsStrIter it "str_ascii_iterator" x t i ∨ h.IsStrIter it "str_iterator" x t i) where
  mem := by simp
  obj := fun i h st b hb => by
    have e : b = it := by simpa using hb
    subst e
    rcases st with ⟨o, e, c, d⟩ | ⟨o, e, c, d⟩ <;> exact ⟨o, e, fun v z => by rw [d] at z; cases z⟩
  keep := fun i h h' st k => by
    rcases st with ⟨o, e, c⟩ | ⟨o, e, c⟩
    · exact .inl ⟨o, k it (by simp) o e, c⟩
    · exact .inr ⟨o, k it (by simp) o e, c⟩
  item := by
    intro X hP hw hK hc i pins s σ H E I hf st hg
    subst hP hw hK
    have hi : i < x.cps.size := hg
    have hx : x.cps[i]? = some x.cps[i] := by simp [hi]
    obtain ⟨f0, f1, f2, f3, f4, f5⟩ := hf it (by simp)
    have fin : ∀ (ty : String) (h' : Heap), ["enumerate", "zip", "dict_itemiterator", "dict_reverseitemiterator", "odict_iterator", "itertools.zip_longest", "itertools.pairwise"].contains ty = false → h'.IsStrIter it ty x t (i + 1) → Heap.SameBut it s.heap h' →
        (h'.IsStrIter it ty x t (i + 1) → (h'.IsStrIter it "str_ascii_iterator" x t (i + 1) ∨ h'.IsStrIter it "str_iterator" x t (i + 1))) →
        ∃ u, some (Value.str ⟨#[x.cps[i]]⟩ s.toks) = some u ∧ wpAny (model X.prog X.w) X.A (letOwnedTupleGo tg (.ref it) u) (fun _ s2 => ∃ y H', Inv X pins σ H' s2 ∧ RelV y u ∧ (Its x).yld i H y H' ∧
          (s2.heap.IsStrIter it "str_ascii_iterator" x t (i + 1) ∨ s2.heap.IsStrIter it "str_iterator" x t (i + 1)) ∧ ∀ b ∈ [it], H' b = none) E { s with heap := h', toks := s.toks + 1 } := fun ty h' hn st' sb hor => by
      have I1 : Inv X pins σ H { s with heap := h', toks := s.toks + 1 } := I.turned (t' := s.toks + 1) (fun b o hb e => (sb.2 b hb).trans e) f0 f1 f3 f4 f5
      obtain ⟨o, e, c, d⟩ := id st'
      exact ⟨_, rfl, go_of (s := { s with heap := h', toks := s.toks + 1 }) e c d hn ⟨.str ⟨#[x.cps[i]]⟩, H, I1, ⟨_, rfl⟩, ⟨rfl, x.cps[i], by simp [hi], rfl⟩, hor st', fun b hb => (hf b hb).1⟩⟩
    rcases st with st | st
    · exact wpAny_pyNext_ascii_item st hx fun h' st' sb => fin _ h' (by decide) st' sb .inl
    · exact wpAny_pyNext_wide_item st hx fun h' st' sb => fin _ h' (by decide) st' sb .inr
  done := by
    intro X hP hw hK hc i pins s σ H E I hf st hg
    subst hP hw hK
    have hi : x.cps.size ≤ i := hg
    have hx : x.cps[i]? = none := by simp [hi]
    obtain ⟨f0, f1, f2, f3, f4, f5⟩ := hf it (by simp)
    rcases st with st | st
    · exact wpAny_pyNext_ascii_end (I.ok.hd hc) st hx fun h' eb => ⟨rfl, I.turned (t' := s.toks) (fun b o hb e => eb b o hb e) f0 f1 f3 f4 f5⟩
    · exact wpAny_pyNext_wide_end (I.ok.hd hc) st hx fun h' eb => ⟨rfl, I.turned (t' := s.toks) (fun b o hb e => eb b o hb e) f0 f1 f3 f4 f5⟩
  self := fun A i s Q E st h => by
    rcases st with st | st
    · exact wpAny_pyIter_slot st.typeIs F.slot_str_ascii_iterator_iter (wpAny_call_entry F.slot_str_ascii_iterator_iter st.typeIs F.entry_str_ascii_iterator_iter (wpAny_pure ⟨_, rfl, "str_ascii_iterator", _, st.typeIs, F.slot_str_ascii_iterator_next.lookup, h⟩) (F.args_str_ascii_iterator_iter_1 _))
    · exact wpAny_pyIter_slot st.typeIs F.slot_str_iterator_iter (wpAny_call_entry F.slot_str_iterator_iter st.typeIs F.entry_str_iterator_iter (wpAny_pure ⟨_, rfl, "str_iterator", _, st.typeIs, F.slot_str_iterator_next.lookup, h⟩) (F.args_str_iterator_iter_1 _))
end
end L2
namespace L2
open PySem PySem.Spec PyProof.Rows
section
variable {X : Cx} {tg : Expr}
def iStr (tl : TE) : TI := fun σ H R => tl σ H fun x H1 => ∃ z, x = .str z ∧ R (Its z) H1
theorem pi_str {l : Expr} {tl : TE} (hl : PE X l tl) : PI X tg l (iStr tl) := by
  intro pins s σ H R I h
  refine thn (hl pins s σ H _ I h) fun v s1 ⟨x, H1, I1, r1, q1⟩ => ?_
  obtain ⟨z, e, q⟩ := q1
  subst e
  obtain ⟨t, rfl⟩ := r1
  refine wpAny_pyIter_strU ?_
  refine ⟨s1.heap.objs.size, [s1.heap.objs.size], _, _, H1, rfl, I1.kept (t' := s1.toks) fun b o e => Heap.get?_push_of_some _ e, turn_str z t _, ?_, fun b hb => ?_, q⟩
  · unfold strIterType
    split
    · exact .inl ⟨_, Heap.get?_push_size _ rfl, rfl, rfl⟩
    · exact .inr ⟨_, Heap.get?_push_size _ rfl, rfl, rfl⟩
  · have e : b = s1.heap.objs.size := by simpa using hb
    subst e
    exact I1.fpOk (Nat.le_refl _) (I1.hok.fresh (Nat.le_refl _))
/-- over a sequence that yields the items of xs, whatever the turns do -/
def ItSeq (J : It) (P : Hp → Prop) (xs : List V) : Prop := ∀ H, P H → ∀ i, (∀ x, xs[i]? = some x → J.go i H ∧ ∀ y H', J.yld i H y H' → H' = H ∧ y = x) ∧ (xs.length ≤ i → J.stop i H)
theorem itseq_str (z : Str) (P : Hp → Prop) : ItSeq (Its z) P (z.cps.toList.map fun c => .str ⟨#[c]⟩) := fun H _ i => by
  refine ⟨fun x hx => ?_, fun hi => ?_⟩
  · rw [List.getElem?_map] at hx
    cases e : z.cps.toList[i]? with
    | none => rw [e] at hx; simp at hx
    | some c =>
      rw [e] at hx
      have hx' : V.str ⟨#[c]⟩ = x := by simpa using hx
      subst hx'
      have hi : i < z.cps.toList.length := (List.getElem?_eq_some_iff.mp e).1
      refine ⟨by show i < z.cps.size; simpa using hi, fun y H' ⟨e1, c', e2, e3⟩ => ⟨e1, ?_⟩⟩
      rw [e] at e2
      cases e2
      exact e3
  · show z.cps.size ≤ i
    simpa using hi
theorem itseq_tup {K : PySem.W.Frag} {a : Addr} {xs : List V} : ItSeq (Itt K a) (fun H => SqT K H a xs) xs := fun H hq i => by
  refine ⟨fun x hx => ⟨⟨xs, x, hq, hx⟩, fun y H' ⟨e1, e2⟩ => ⟨e1, ?_⟩⟩, fun hi => ⟨xs, hq, hi⟩⟩
  have := e2 xs hq
  rw [hx] at this
  exact (Option.some.inj this).symm
theorem itseq_list {K : PySem.W.Frag} {a : Addr} {xs : List V} : ItSeq (Itl K a) (fun H => SqL K H a xs) xs := fun H hq i => by
  refine ⟨fun x hx => ⟨⟨xs, x, hq, hx⟩, fun y H' ⟨e1, e2⟩ => ⟨e1, ?_⟩⟩, fun hi => ⟨xs, hq, hi⟩⟩
  have := e2 xs hq
  rw [hx] at this
  exact (Option.some.inj this).symm
theorem itseq_range {lo : Int} {n : Nat} {P : Hp → Prop} : ItSeq (Itr lo n) P ((List.range n).map fun (i : Nat) => V.int (lo + i)) := fun H hq i => by
  refine ⟨fun x hx => ?_, fun hi => by show n ≤ i; simpa using hi⟩
  have hi : i < n := by
    have := (List.getElem?_eq_some_iff.mp hx).1
    simpa using this
  refine ⟨hi, fun y H' ⟨e1, e2⟩ => ⟨e1, ?_⟩⟩
  rw [List.getElem?_map, List.getElem?_range hi] at hx
  rw [e2]
  simpa using hx
theorem ItSeq.imp {J : It} {P P' : Hp → Prop} {xs : List V} (h : ItSeq J P xs) (hp : ∀ H, P' H → P H) : ItSeq J P' xs := fun H q => h H (hp H q)
/-- a comprehension over such a sequence, by what holds between two turns -/
theorem lc_by {J : It} {P : Hp → Prop} {xs : List V} (hJ : ItSeq J P xs) {src : List (Option Nat)} {g : TG} {tt : TT} {te : TE} {σ : St} {H1 : Hp} {Q : VK} {D : Addr} (Pv : Nat → List V → St → Hp → Prop)
    (h0 : Pv 0 [] (capSt src σ) (upd H1 D (.lst []))) (hP : ∀ i ys σ' H', Pv i ys σ' H' → P H' ∧ H' D = some (.lst ys))
    (step : ∀ i ys σ' H' x, xs[i]? = some x → Pv i ys σ' H' → g x σ' H' fun σ2 H4 => tt σ2 H4 fun b H5 => if b = true then te σ2 H5 fun y H6 => H6 D = some (.lst ys) ∧ ys.length < sizeLine ∧ Pv (i + 1) (ys ++ [y]) σ2 (upd H6 D (.lst (ys ++ [y]))) else Pv (i + 1) ys σ2 H5)
    (fin : ∀ ys σ' H', Pv xs.length ys σ' H' → Q (.ref D) H') :
    LC src J g tt te σ H1 Q D := by
  refine ⟨fun i m ys σ' H' => m = xs.length - i ∧ i ≤ xs.length ∧ Pv i ys σ' H', ⟨xs.length, by simp, Nat.zero_le _, h0⟩, ?_⟩
  rintro i m ys σ' H2 ⟨rfl, hi, p⟩
  obtain ⟨hp, hD⟩ := hP i ys σ' H2 p
  refine ⟨hD, ?_⟩
  by_cases hlt : i < xs.length
  · obtain ⟨go, yl⟩ := (hJ H2 hp i).1 xs[i] (by simp [hlt])
    refine .inr ⟨go, fun ys' σ3 H3 => Pv (i + 1) ys' σ3 H3, fun ys' σ3 H3 p' => ⟨xs.length - (i + 1), by omega, rfl, hlt, p'⟩, fun x H3 y => ?_⟩
    obtain ⟨e1, e2⟩ := yl x H3 y
    subst e1 e2
    exact step i ys σ' _ _ (by simp [hlt]) p
  · have e : i = xs.length := by omega
    subst e
    exact .inl ⟨(hJ H2 hp _).2 (Nat.le_refl _), fin ys σ' H2 p⟩
theorem Same.upd_new {H : Hp} {p : Addr} (h : H p = none) (o : HO) : Same H (upd H p o) := fun b u q => by rw [upd_ne (ne_of_none q h)]; exact q
theorem Same.upd_over {H H' : Hp} {p : Addr} (h : H p = none) (e : Same H H') (o : HO) : Same H (upd H' p o) := fun b u q => by rw [upd_ne (ne_of_none q h)]; exact e b u q
theorem Same.tup {K : PySem.W.Frag} {H H' : Hp} {a : Addr} {xs : List V} (e : Same H H') (h : SqT K H a xs) : SqT K H' a xs := by
  rcases h with (h | ⟨o, h⟩) | h
  · exact .inl (.inl (e _ _ h))
  · exact .inl (.inr ⟨o, e _ _ h⟩)
  · exact .inr h
end

/-! ### all, any, join -/
section
variable {X : Cx}
theorem bools_of : ∀ {bs : List Bool} {us : List Value}, Vals (bs.map V.bl) us → LSm.BoolsAre us bs
  | [], _, h => by rw [Vals.zero h]; exact .nil
  | b :: bs, us, h => by
    have h' : Vals (V.bl b :: bs.map V.bl) us := h
    cases h' with
    | cons r t => cases (show _ = Value.bool b from r); exact .cons b (bools_of t)
theorem call_all_bools (hc : X.calm = true) : CallR X (.builtin "all") (fun xs H Q => ∃ (p : Addr) (bs : List Bool), xs = [.ref p] ∧ SqL X.K H p (bs.map V.bl) ∧ Q (.bl (bs.all id)) H) := by
  intro pins s σ H xs us Q I r h
  obtain ⟨p, bs, rfl, hq, q⟩ := h
  obtain ⟨u, rfl, rx⟩ := vals1 r
  cases rx
  obtain ⟨its, r', pl, hz⟩ := I.list hq
  have hb := bools_of r'
  have hl := pl.isList
  have hlt : p < s.heap.objs.size := by obtain ⟨_, e, _⟩ := hl; exact Heap.lt_size e
  refine call_all_walk (wpAny_pyIter_list hl ?_)
  refine ⟨s.heap.objs.size, [s.heap.objs.size, p], [s.heap.objs.size], its.toArray.size, _, _, fun i => (bs[i]?).getD true, rfl, Walks.list (A := X.A.in1) (I.ok.hd hc) _ p (Nat.ne_of_lt hlt) its.toArray,
    ⟨⟨_, Heap.get?_push_size _ rfl, rfl, rfl⟩, hl.push _⟩, fun i v s' Q' E' hP hQ => ?_, fun h' tk hk => ?_⟩
  · obtain ⟨b, e, rfl⟩ := hb.get i v (by simpa using hP)
    simp only [e, Option.getD_some] at hQ
    exact wpAny_truthy_bool hQ
  · have e : ((List.range its.toArray.size).all fun i => (bs[i]?).getD true) = bs.all id := by
      rw [List.size_toArray, hb.length]; exact LSm.range_all bs
    rw [e]
    exact ⟨.bl _, H, I.kept (t' := tk) (LSm.kept_iter hk), rfl, q⟩
theorem strs_of : ∀ {ys : List Str} {us : List Value}, Vals (ys.map V.str) us → StrsAre us ys
  | [], _, h => by rw [Vals.zero h]; exact .nil
  | y :: ys, us, h => by
    have h' : Vals (V.str y :: ys.map V.str) us := h
    cases h' with
    | cons r t => obtain ⟨t', rfl⟩ := r; exact .cons y t' (strs_of t)
/-- sep.join(a list of texts) -/
def rJoin (K : PySem.W.Frag) : V → List V → Hp → VK → Prop := fun x vs H Q => ∃ (z : Str) (p : Addr) (ys : List Str), x = .str z ∧ vs = [.ref p] ∧ SqL K H p (ys.map V.str) ∧ (ys.map (·.length)).sum + ys.length * z.length ≤ 16777216 ∧ Q (.str (Txt.join z ys)) H
theorem mt_join : MtR X "str.join" (rJoin X.K) := by
  intro pins s σ H x vs v us Q I rx rv h
  obtain ⟨z, p, ys, rfl, rfl, hq, hl, q⟩ := h
  obtain ⟨t, rfl⟩ := rx
  obtain ⟨u, rfl, ru⟩ := rv.one
  cases ru
  obtain ⟨its, r, pl, hz⟩ := I.list hq
  exact join_list pl.isList (by simpa using strs_of r) hl fun t' k => ⟨.str _, H, I.tok k, ⟨t', rfl⟩, q⟩

/-! ### isinstance(e, a built-in type), isinstance(e, an own class) -/
def clsV : V → Option Value
  | .ty n => some (.type n)
  | .ref a => some (.ref a)
  | _ => none
theorem call_isinst : CallR X (.builtin "isinstance") (fun xs H Q => ∃ x c cv t b, xs = [x, c] ∧ clsV c = some cv ∧ TyOf X.K H x t ∧ PySem.W.kitOne X.K t cv = some b ∧ Q (.bl b) H) := by
  intro pins s σ H xs us Q I r h
  obtain ⟨x, c, cv, t, b, rfl, ec, ty, e, q⟩ := h
  obtain ⟨u, w', rfl, ru, rw'⟩ := vals2 r
  have ew : w' = cv := by
    cases c with
    | ty n => cases (show w' = Value.type n from rw'); simpa [clsV] using ec
    | ref a => cases (show w' = Value.ref a from rw'); simpa [clsV] using ec
    | _ => simp [clsV] at ec
  subst ew
  exact isinst_ok I ru ty e fun tk => ⟨.bl b, H, I.tok tk, rfl, q⟩

/-! ### == of two lists, != of two lists: flat items -/
def eqVs (xs ys : List V) : Bool := xs.length == ys.length && (List.range xs.length).all fun j => match xs[j]?, ys[j]? with | some x, some y => eqV x y | _, _ => false
end
end L2
namespace L2
open PySem PySem.Spec PyProof.Rows
/-! ### zip of two sequences -/
/-- an iterator within a zip: at k, in the heap h, the next is what get tells -/
structure Sub (P : Program) (w : World) (i : Addr) (St : Nat → Heap → Prop) (Ready : Heap → (Nat → Option Value) → Prop) : Prop where
  obj : ∀ k h, St k h → ∃ o, h.get? i = some o ∧ ∀ v, o.data ≠ .cell v
  keep : ∀ k h h', St k h → (∀ o, h.get? i = some o → h'.get? i = some o) → St k h'
  item : ∀ (A : Around) (k : Nat) (s : Shared) (get : Nat → Option Value) (x : Value) (Q : Value → Shared → Prop) (E : Value → Shared → Prop), St k s.heap → Ready s.heap get → get k = some x →
    (∀ h' tk, St (k + 1) h' → Heap.SameBut i s.heap h' → Q x { s with heap := h', toks := tk }) → wpAny (model P w) A (Builtin.SmallTypes.nextOf (.ref i)) Q E s
  fin : ∀ (A : Around) (k : Nat) (s : Shared) (get : Nat → Option Value) (Q : Value → Shared → Prop) (E : Value → Shared → Prop), A.handled = none → St k s.heap → Ready s.heap get → get k = none →
    (∀ h' e, Heap.ExtBut i s.heap h' → (∃ o, h'.get? e = some o ∧ o.cls = .type "StopIteration") → E (.ref e) { s with heap := h' }) → wpAny (model P w) A (Builtin.SmallTypes.nextOf (.ref i)) Q E s
section
variable {prog : Program} {w : World} {A : Around} {E : Value → Shared → Prop} {s : Shared}
theorem nextOf_tuple_item {it t : Addr} {i : Nat} {items : Array Value} {x : Value} {Q : Value → Shared → Prop} (hit : s.heap.IsTupleIter it t i) (ht : s.heap.IsTuple t items) (hx : items[i]? = some x)
    (hQ : ∀ h', h'.IsTupleIter it t (i + 1) → Heap.SameBut it s.heap h' → Q x { s with heap := h' }) : wpAny (model prog w) A (Builtin.SmallTypes.nextOf (.ref it)) Q E s := by
  obtain ⟨o, ho, hc, hd⟩ := id hit
  obtain ⟨ol, hol, _, nl, hdl⟩ := ht
  unfold Builtin.SmallTypes.nextOf
  refine wpAny_bind (wpAny_callSpecial?_slot (name := Str.ofString "__next__") hit.typeIs F.slot_tuple_iterator_next (wpAny_call_entry F.slot_tuple_iterator_next hit.typeIs F.entry_tuple_iterator_next ?_ (F.args_tuple_iterator_next_1 _)))
  show wpAny _ _ (field (.ref it) 0 >>= _) _ _ s
  refine wpAny_bind (wpAny_field ho hd (x := .ref t) rfl ?_)
  show wpAny _ _ (if (Value.ref t == Value.none) = true then _ else _) _ _ s
  rw [if_neg (show ¬ ((Value.ref t == Value.none) = true) from Bool.false_ne_true)]
  show wpAny _ _ (field (.ref it) 1 >>= _) _ _ s
  refine wpAny_bind (wpAny_field ho hd (x := .int i 0) rfl ?_)
  show wpAny _ _ (seqItems? (.ref t) >>= _) _ _ s
  refine wpAny_bind (wpAny_seqItems hol hdl ?_)
  simp only [Int.toNat_natCast, hx]
  refine wpAny_bind (wpAny_setField ho hd (by simp) (wpAny_pure ⟨x, rfl, wpAny_pure (hQ _ ?_ (Heap.SameBut.update ..))⟩))
  exact ⟨_, Heap.get?_update_self _ ho (Obj.isFreed_of_fields (Obj.data_mapFields hd _)), (Obj.cls_mapFields ..).trans hc, by rw [Obj.data_mapFields hd]; simp [rawInt]⟩
theorem nextOf_tuple_end {it t : Addr} {i : Nat} {items : Array Value} {Q : Value → Shared → Prop} (hh : A.handled = none) (hit : s.heap.IsTupleIter it t i) (ht : s.heap.IsTuple t items) (hx : items[i]? = none)
    (hE : ∀ h' e, Heap.ExtBut it s.heap h' → (∃ o, h'.get? e = some o ∧ o.cls = .type "StopIteration") → E (.ref e) { s with heap := h' }) : wpAny (model prog w) A (Builtin.SmallTypes.nextOf (.ref it)) Q E s := by
  obtain ⟨o, ho, hc, hd⟩ := id hit
  obtain ⟨ol, hol, _, nl, hdl⟩ := ht
  unfold Builtin.SmallTypes.nextOf
  refine wpAny_bind (wpAny_callSpecial?_slot (name := Str.ofString "__next__") hit.typeIs F.slot_tuple_iterator_next (wpAny_call_entry F.slot_tuple_iterator_next hit.typeIs F.entry_tuple_iterator_next ?_ (F.args_tuple_iterator_next_1 _)))
  show wpAny _ _ (field (.ref it) 0 >>= _) _ _ s
  refine wpAny_bind (wpAny_field ho hd (x := .ref t) rfl ?_)
  show wpAny _ _ (if (Value.ref t == Value.none) = true then _ else _) _ _ s
  rw [if_neg (show ¬ ((Value.ref t == Value.none) = true) from Bool.false_ne_true)]
  show wpAny _ _ (field (.ref it) 1 >>= _) _ _ s
  refine wpAny_bind (wpAny_field ho hd (x := .int i 0) rfl ?_)
  show wpAny _ _ (seqItems? (.ref t) >>= _) _ _ s
  refine wpAny_bind (wpAny_seqItems hol hdl ?_)
  simp only [Int.toNat_natCast, hx]
  refine wpAny_bind (wpAny_rule (wpAny_bind (wpAny_setField ho hd (by simp) ?_)))
  show wpAny _ _ (newExc (.type "StopIteration") [] >>= _) _ _ _
  refine wpAny_bind ?_
  simp only [newExc, newTuple]
  refine wpAny_bind (wpAny_newObj_type ?_ (by size_fits))
  refine wpAny_bind (m := firstArgMember _ _) (wpAny_of_eq (a := Value.none) (by first | rfl | (simp only [firstArgMember]; rfl)) ?_)
  refine wpAny_newObj_type ?_ (by size_fits)
  simp only [raiseNew]
  refine wpAny_bind (wpAny_handled ?_)
  first | rw [show A.in1.handled = none from hh] | rw [hh]
  refine wpAny_bind (wpAny_pure (wpAny_throw ?_))
  exact hE _ _ (((Heap.SameBut.update ..).extBut.push _).push _) ⟨_, Heap.get?_push_size _ rfl, rfl⟩
end
theorem sub_tuple {P : Program} {w : World} (i t : Addr) : Sub P w i (fun k h => h.IsTupleIter i t k) (fun h get => ∃ items : Array Value, h.IsTuple t items ∧ ∀ k, get k = items[k]?) where
  obj := fun k h ⟨o, e, c, d⟩ => ⟨o, e, fun v z => by rw [d] at z; cases z⟩
  keep := fun k h h' st q => st.at q
  item := fun A k s get x Q E st ⟨items, ht, hg⟩ hx hQ => nextOf_tuple_item st ht ((hg k).symm.trans hx) fun h' st' sb => hQ h' s.toks st' sb
  fin := fun A k s get Q E hh st ⟨items, ht, hg⟩ hx hE => nextOf_tuple_end hh st ht ((hg k).symm.trans hx) hE
theorem sub_list {P : Program} {w : World} (i t : Addr) : Sub P w i (fun k h => h.IsListIter i t k) (fun h get => ∃ items : Array Value, h.IsList t items ∧ ∀ k, get k = items[k]?) where
  obj := fun k h ⟨o, e, c, d⟩ => ⟨o, e, fun v z => by rw [d] at z; cases z⟩
  keep := fun k h h' st q => st.at q
  item := fun A k s get x Q E st ⟨items, ht, hg⟩ hx hQ => wpAny_nextOf_list_item st ht ((hg k).symm.trans hx) fun h' st' sb => hQ h' s.toks st' sb
  fin := fun A k s get Q E hh st ⟨items, ht, hg⟩ hx hE => wpAny_nextOf_list_end hh st ht ((hg k).symm.trans hx) hE

structure ZApart (z TI TO i1 i2 : Addr) : Prop where
  a : TI ≠ z
  b : TO ≠ z
  c : i1 ≠ z
  d : i2 ≠ z
  e : TI ≠ TO
  f : TI ≠ i1
  g : TI ≠ i2
  h : TO ≠ i1
  i : TO ≠ i2
  j : i1 ≠ i2
section
variable {prog : Program} {w : World} {A : Around} {E : Value → Shared → Prop} {s : Shared} {z TI TO i1 i2 : Addr} {S1 S2 : Nat → Heap → Prop} {R1 R2 : Heap → (Nat → Option Value) → Prop} {g1 g2 : Nat → Option Value} {k : Nat} {a b : Value}
theorem zip_item {x y : Value} {Q : Option Value → Shared → Prop} (D : ZApart z TI TO i1 i2) (U1 : Sub prog w i1 S1 R1) (U2 : Sub prog w i2 S2 R2)
    (k1 : ∀ h h' g, R1 h g → (∀ c o, c ≠ z → c ≠ TO → c ≠ i1 → c ≠ i2 → h.get? c = some o → h'.get? c = some o) → R1 h' g) (k2 : ∀ h h' g, R2 h g → (∀ c o, c ≠ z → c ≠ TO → c ≠ i1 → c ≠ i2 → h.get? c = some o → h'.get? c = some o) → R2 h' g)
    (hz : IsZip s.heap z TI TO .none) (hTI : IsPair s.heap TI (.ref i1) (.ref i2)) (hTO : IsPair s.heap TO a b) (h1 : S1 k s.heap) (h2 : S2 k s.heap) (r1 : R1 s.heap g1) (r2 : R2 s.heap g2) (hx : g1 k = some x) (hy : g2 k = some y)
    (hQ : ∀ h' tk, IsZip h' z TI TO (rawInt s.heap.objs.size) → IsPair h' TO x y → S1 (k + 1) h' → S2 (k + 1) h' → IsPair h' s.heap.objs.size x y → h'.objs.size = s.heap.objs.size + 1 →
      (∀ c o, c ≠ z → c ≠ TO → c ≠ i1 → c ≠ i2 → s.heap.get? c = some o → h'.get? c = some o) → Q (some (.ref s.heap.objs.size)) { s with heap := h', toks := tk }) :
    wpAny (model prog w) A (pyNext (.ref z)) Q E s := by
  have hT : s.TypeIs (.ref z) "zip" := ⟨_, hz, rfl⟩
  unfold pyNext
  refine wpAny_bind (wpAny_attempt (wpAny_callSpecial?_slot (name := Str.ofString "__next__") hT F.slot_zip_next (wpAny_call_entry F.slot_zip_next hT F.entry_zip_next ?_ (F.args_zip_next_1 _))))
  show wpAny _ _ (field (.ref z) 2 >>= _) _ _ _
  refine wpAny_bind (wpAny_field hz rfl (x := .bool false) rfl ?_)
  show wpAny _ _ (field (.ref z) 3 >>= _) _ _ _
  refine wpAny_bind (wpAny_field hz rfl (x := .ref TI) rfl ?_)
  refine wpAny_bind (wpAny_seqItems hTI rfl ?_)
  show wpAny _ _ (Builtin.SmallTypes.ownedTupleIsFree (.ref z) >>= _) _ _ _
  refine wpAny_bind ?_
  unfold Builtin.SmallTypes.ownedTupleIsFree
  refine wpAny_bind (wpAny_field hz rfl (x := .none) rfl (wpAny_pure ?_))
  simp only [if_true]
  refine wpAny_bind (wpAny_rule ?_)
  refine wpAny_bind (wpAny_field hz rfl (x := .ref TO) rfl ?_)
  refine wpAny_bind (wpAny_setField_rec hz (by simp) fun h₁ hz₁ hs₁ => ?_)
  replace hz₁ : IsZip h₁ z TI TO .ellipsis := hz₁
  refine wpAny_bind ?_
  simp only [List.zipIdx_cons, List.zipIdx_nil, List.forIn_cons, List.forIn_nil]
  refine wpAny_bind (wpAny_bind (wpAny_onRaise ?_))
  show wpAny _ _ (Builtin.SmallTypes.nextOf (.ref i1) >>= _) _ _ _
  have S1₁ : S1 k h₁ := U1.keep _ _ _ h1 fun o e => hs₁.extBut _ _ D.c e
  have R1₁ : R1 h₁ g1 := k1 _ _ _ r1 fun c o c1 _ _ _ e => hs₁.extBut _ _ c1 e
  refine wpAny_bind (U1.item _ k { s with heap := h₁ } g1 x _ _ S1₁ R1₁ hx fun h₂ tk₂ S1₂ hs₂ => wpAny_pure ?_)
  have hTO₂ : IsPair h₂ TO a b := hs₂.extBut _ _ D.h (hs₁.extBut _ _ D.b hTO)
  refine wpAny_bind (wpAny_seqItems hTO₂ rfl ?_)
  refine wpAny_bind (wpAny_updateSeq_pair hTO₂ fun h₃ hTO₃ hs₃ => ?_)
  replace hTO₃ : IsPair h₃ TO x b := hTO₃
  refine wpAny_bind (wpAny_letGo (wpAny_pure ?_))
  refine wpAny_bind (wpAny_bind (wpAny_onRaise ?_))
  show wpAny _ _ (Builtin.SmallTypes.nextOf (.ref i2) >>= _) _ _ _
  have kk₃ : ∀ c o, c ≠ z → c ≠ TO → c ≠ i1 → c ≠ i2 → s.heap.get? c = some o → h₃.get? c = some o := fun c o c1 c2 c3 c4 e => hs₃.extBut _ _ c2 (hs₂.extBut _ _ c3 (hs₁.extBut _ _ c1 e))
  have S2₃ : S2 k h₃ := U2.keep _ _ _ h2 fun o e => hs₃.extBut _ _ D.i.symm (hs₂.extBut _ _ D.j.symm (hs₁.extBut _ _ D.d e))
  refine wpAny_bind (U2.item _ k { s with heap := h₃, toks := tk₂ } g2 y _ _ S2₃ (k2 _ _ _ r2 kk₃) hy fun h₄ tk₄ S2₄ hs₄ => wpAny_pure ?_)
  have hTO₄ : IsPair h₄ TO x b := hs₄.extBut _ _ D.i hTO₃
  refine wpAny_bind (wpAny_seqItems hTO₄ rfl ?_)
  refine wpAny_bind (wpAny_updateSeq_pair hTO₄ fun h₅ hTO₅ hs₅ => ?_)
  replace hTO₅ : IsPair h₅ TO x y := hTO₅
  refine wpAny_bind (wpAny_letGo (wpAny_pure (wpAny_pure ?_)))
  refine wpAny_bind (wpAny_seqItems hTO₅ rfl ?_)
  refine wpAny_bind (wpAny_newTuple ?_)
  have hsz : h₅.objs.size = s.heap.objs.size := by rw [hs₅.1, hs₄.1, hs₃.1, hs₂.1, hs₁.1]
  have hz₅ : IsZip h₅ z TI TO .ellipsis := hs₅.extBut _ _ D.b.symm (hs₄.extBut _ _ D.d.symm (hs₃.extBut _ _ D.b.symm (hs₂.extBut _ _ D.c.symm hz₁)))
  have hk₅ : ∀ c o, c ≠ z → c ≠ TO → c ≠ i1 → c ≠ i2 → s.heap.get? c = some o → h₅.get? c = some o := fun c o c1 c2 c3 c4 e => hs₅.extBut _ _ c2 (hs₄.extBut _ _ c4 (kk₃ c o c1 c2 c3 c4 e))
  have S1₅ : S1 (k + 1) h₅ := U1.keep _ _ _ S1₂ fun o e => hs₅.extBut _ _ D.h.symm (hs₄.extBut _ _ D.j (hs₃.extBut _ _ D.h.symm e))
  have S2₅ : S2 (k + 1) h₅ := U2.keep _ _ _ S2₄ fun o e => hs₅.extBut _ _ D.i.symm e
  have hzlt : z < h₅.objs.size := Heap.lt_size hz₅
  show wpAny _ _ (Builtin.SmallTypes.ownedTupleHandOut (.ref z) (.ref h₅.objs.size) >>= _) _ _ _
  refine wpAny_bind ?_
  unfold Builtin.SmallTypes.ownedTupleHandOut
  have hz₆ : IsZip (h₅.push { cls := .type "tuple", data := .seq #[x, y] }) z TI TO .ellipsis := Heap.get?_push_of_some _ hz₅
  refine wpAny_bind (wpAny_setField_rec hz₆ (by simp) fun h₇ hz₇ hs₇ => ?_)
  replace hz₇ : IsZip h₇ z TI TO (rawInt h₅.objs.size) := hz₇
  refine wpAny_setField_rec hz₇ (by simp) fun h₈ hz₈ hs₈ => ?_
  replace hz₈ : IsZip h₈ z TI TO (rawInt h₅.objs.size) := hz₈
  have up : ∀ c o, c ≠ z → h₅.get? c = some o → h₈.get? c = some o := fun c o c1 e => hs₈.extBut _ _ c1 (hs₇.extBut _ _ c1 (Heap.get?_push_of_some _ e))
  have hT₈ : IsPair h₈ h₅.objs.size x y := hs₈.extBut _ _ (Nat.ne_of_gt hzlt) (hs₇.extBut _ _ (Nat.ne_of_gt hzlt) (Heap.get?_push_size _ rfl))
  have hz8 : h₈.objs.size = h₅.objs.size + 1 := by rw [hs₈.1, hs₇.1, Heap.size_push]
  rw [hsz] at hz₈ hT₈ hz8
  refine wpAny_pure ⟨_, rfl, wpAny_pure ?_⟩
  show Q (some (.ref h₅.objs.size)) _
  rw [hsz]
  exact hQ h₈ tk₄ hz₈ (up _ _ D.b hTO₅) (U1.keep _ _ _ S1₅ fun o e => up _ o D.c e) (U2.keep _ _ _ S2₅ fun o e => up _ o D.d e) hT₈ hz8 fun c o c1 c2 c3 c4 e => up c o c1 (hk₅ c o c1 c2 c3 c4 e)
theorem zip_end {Q : Option Value → Shared → Prop} (hh : A.handled = none) (D : ZApart z TI TO i1 i2) (U1 : Sub prog w i1 S1 R1) (U2 : Sub prog w i2 S2 R2)
    (k1 : ∀ h h' g, R1 h g → (∀ c o, c ≠ z → c ≠ TO → c ≠ i1 → c ≠ i2 → h.get? c = some o → h'.get? c = some o) → R1 h' g) (k2 : ∀ h h' g, R2 h g → (∀ c o, c ≠ z → c ≠ TO → c ≠ i1 → c ≠ i2 → h.get? c = some o → h'.get? c = some o) → R2 h' g)
    (hz : IsZip s.heap z TI TO .none) (hTI : IsPair s.heap TI (.ref i1) (.ref i2)) (hTO : IsPair s.heap TO a b) (h1 : S1 k s.heap) (h2 : S2 k s.heap) (r1 : R1 s.heap g1) (r2 : R2 s.heap g2) (hend : g1 k = none ∨ g2 k = none)
    (hQ : ∀ h' tk, (∀ c o, c ≠ z → c ≠ TO → c ≠ i1 → c ≠ i2 → s.heap.get? c = some o → h'.get? c = some o) → Q none { s with heap := h', toks := tk }) : wpAny (model prog w) A (pyNext (.ref z)) Q E s := by
  have hT : s.TypeIs (.ref z) "zip" := ⟨_, hz, rfl⟩
  unfold pyNext
  refine wpAny_bind (wpAny_attempt (wpAny_callSpecial?_slot (name := Str.ofString "__next__") hT F.slot_zip_next (wpAny_call_entry F.slot_zip_next hT F.entry_zip_next ?_ (F.args_zip_next_1 _))))
  show wpAny _ _ (field (.ref z) 2 >>= _) _ _ _
  refine wpAny_bind (wpAny_field hz rfl (x := .bool false) rfl ?_)
  show wpAny _ _ (field (.ref z) 3 >>= _) _ _ _
  refine wpAny_bind (wpAny_field hz rfl (x := .ref TI) rfl ?_)
  refine wpAny_bind (wpAny_seqItems hTI rfl ?_)
  show wpAny _ _ (Builtin.SmallTypes.ownedTupleIsFree (.ref z) >>= _) _ _ _
  refine wpAny_bind ?_
  unfold Builtin.SmallTypes.ownedTupleIsFree
  refine wpAny_bind (wpAny_field hz rfl (x := .none) rfl (wpAny_pure ?_))
  simp only [if_true]
  refine wpAny_bind (wpAny_rule ?_)
  refine wpAny_bind (wpAny_field hz rfl (x := .ref TO) rfl ?_)
  refine wpAny_bind (wpAny_setField_rec hz (by simp) fun h₁ hz₁ hs₁ => ?_)
  replace hz₁ : IsZip h₁ z TI TO .ellipsis := hz₁
  refine wpAny_bind ?_
  simp only [List.zipIdx_cons, List.zipIdx_nil, List.forIn_cons, List.forIn_nil]
  refine wpAny_bind (wpAny_bind (wpAny_onRaise ?_))
  show wpAny _ _ (Builtin.SmallTypes.nextOf (.ref i1) >>= _) _ _ _
  have S1₁ : S1 k h₁ := U1.keep _ _ _ h1 fun o e => hs₁.extBut _ _ D.c e
  have R1₁ : R1 h₁ g1 := k1 _ _ _ r1 fun c o c1 _ _ _ e => hs₁.extBut _ _ c1 e
  cases hx : g1 k with
  | none =>
    refine wpAny_bind (U1.fin _ k { s with heap := h₁ } g1 _ _ hh S1₁ R1₁ hx fun h₂ e hs₂ he => ?_)
    obtain ⟨oe, hoe, hce⟩ := he
    have hz₂ : IsZip h₂ z TI TO .ellipsis := hs₂ _ _ D.c.symm hz₁
    have hez : e ≠ z := fun x => by subst x; rw [hz₂] at hoe; cases hoe; simp at hce
    refine wpAny_setField_rec hz₂ (by simp) fun h₃ _ hs₃ => ?_
    refine wpAny_bind (wpAny_isInstance (T := "StopIteration") (b := true) ⟨oe, hs₃.extBut _ _ hez hoe, hce⟩ isSubtype_stop ?_)
    exact wpAny_pure (hQ h₃ s.toks fun c o c1 _ c3 _ x => hs₃.extBut _ _ c1 (hs₂ _ _ c3 (hs₁.extBut _ _ c1 x)))
  | some x =>
    have hy : g2 k = none := by rcases hend with h | h; rw [hx] at h; cases h; exact h
    refine wpAny_bind (U1.item _ k { s with heap := h₁ } g1 x _ _ S1₁ R1₁ hx fun h₂ tk₂ S1₂ hs₂ => wpAny_pure ?_)
    have hTO₂ : IsPair h₂ TO a b := hs₂.extBut _ _ D.h (hs₁.extBut _ _ D.b hTO)
    refine wpAny_bind (wpAny_seqItems hTO₂ rfl ?_)
    refine wpAny_bind (wpAny_updateSeq_pair hTO₂ fun h₃ hTO₃ hs₃ => ?_)
    refine wpAny_bind (wpAny_letGo (wpAny_pure ?_))
    refine wpAny_bind (wpAny_bind (wpAny_onRaise ?_))
    show wpAny _ _ (Builtin.SmallTypes.nextOf (.ref i2) >>= _) _ _ _
    have kk₃ : ∀ c o, c ≠ z → c ≠ TO → c ≠ i1 → c ≠ i2 → s.heap.get? c = some o → h₃.get? c = some o := fun c o c1 c2 c3 c4 e => hs₃.extBut _ _ c2 (hs₂.extBut _ _ c3 (hs₁.extBut _ _ c1 e))
    have S2₃ : S2 k h₃ := U2.keep _ _ _ h2 fun o e => hs₃.extBut _ _ D.i.symm (hs₂.extBut _ _ D.j.symm (hs₁.extBut _ _ D.d e))
    refine wpAny_bind (U2.fin _ k { s with heap := h₃, toks := tk₂ } g2 _ _ hh S2₃ (k2 _ _ _ r2 kk₃) hy fun h₄ e hs₄ he => ?_)
    obtain ⟨oe, hoe, hce⟩ := he
    have hz₄ : IsZip h₄ z TI TO .ellipsis := hs₄ _ _ D.d.symm (hs₃.extBut _ _ D.b.symm (hs₂.extBut _ _ D.c.symm hz₁))
    have hez : e ≠ z := fun x => by subst x; rw [hz₄] at hoe; cases hoe; simp at hce
    refine wpAny_setField_rec hz₄ (by simp) fun h₅ _ hs₅ => ?_
    refine wpAny_bind (wpAny_isInstance (T := "StopIteration") (b := true) ⟨oe, hs₅.extBut _ _ hez hoe, hce⟩ isSubtype_stop ?_)
    exact wpAny_pure (hQ h₅ tk₂ fun c o c1 c2 c3 c4 x => hs₅.extBut _ _ c1 (hs₄ _ _ c4 (kk₃ c o c1 c2 c3 c4 x)))
end
end L2
namespace L2
open PySem PySem.Spec PyProof.Rows
/-! ### zip(a, b): the object -/
abbrev zpH (h : Heap) (o1 o2 : Obj) : Heap := ((h.push o1).push o2)
abbrev zpT (h : Heap) (o1 o2 : Obj) : Heap := (zpH h o1 o2).push { cls := .type "tuple", data := .seq #[.ref h.objs.size, .ref (h.push o1).objs.size] }
abbrev zpO (h : Heap) (o1 o2 : Obj) : Heap := (zpT h o1 o2).push { cls := .type "tuple", data := .seq #[.none, .none] }
abbrev zpZ (h : Heap) (o1 o2 : Obj) : Heap := (zpO h o1 o2).push { cls := .type "zip", data := .fields #[.none, .bool false, .bool false, .ref (zpH h o1 o2).objs.size, .ref (zpT h o1 o2).objs.size] }
/-- iter(v) is a new object o, whatever stands beside -/
def ItersTo (h : Heap) (v : Value) (o : Obj) : Prop := ∀ (prog : Program) (w : World) (A : Around) (E : Value → Shared → Prop) (s : Shared) (Q : Value → Shared → Prop), (∀ b ob, h.get? b = some ob → s.heap.get? b = some ob) →
  Q (.ref s.heap.objs.size) { s with heap := s.heap.push o } → wpAny (model prog w) A (pyIter v) Q E s
theorem itersTo_tuple {h : Heap} {t : Addr} {items : Array Value} (ht : h.IsTuple t items) : ItersTo h (.ref t) { cls := .type "tuple_iterator", data := .fields #[.ref t, .int 0 0] } := fun prog w A E s Q k q => by
  obtain ⟨o, e, r⟩ := ht
  exact wpAny_pyIter_tuple (items := items) ⟨o, k _ _ e, r⟩ q
theorem itersTo_list {h : Heap} {t : Addr} {items : Array Value} (ht : h.IsList t items) : ItersTo h (.ref t) { cls := .type "list_iterator", data := .fields #[.ref t, .int 0 0] } := fun prog w A E s Q k q => by
  obtain ⟨o, e, r⟩ := ht
  exact wpAny_pyIter_list (items := items) ⟨o, k _ _ e, r⟩ q
theorem meets_zip2 (v1 v2 : Value) (o1 o2 : Obj) :
    Meets (Builtin.«zip.__new__» ⟨[.type "zip", v1, v2], []⟩) (fun _ R s => ItersTo s.heap v1 o1 ∧ ItersTo s.heap v2 o2 ∧ R (.ok (.ret (.ref (zpO s.heap o1 o2).objs.size))) { s with heap := zpZ s.heap o1 o2 }) :=
  .of_wp fun prog w A R s h => by
    obtain ⟨hp, g, d, tk, os⟩ := s
    obtain ⟨h1, h2, h⟩ := h
    have hsub := sub_zip
    have p1 : ∀ {A' : Around} {E : Value → Shared → Prop} {Q : Value → Shared → Prop}, Q (.ref hp.objs.size) ⟨hp.push o1, g, d, tk, os⟩ → wpAny (model prog w) A' (pyIter v1) Q E ⟨hp, g, d, tk, os⟩ := fun q => h1 prog w _ _ ⟨hp, g, d, tk, os⟩ _ (fun _ _ e => e) q
    have p2 : ∀ {A' : Around} {E : Value → Shared → Prop} {Q : Value → Shared → Prop}, Q (.ref (hp.push o1).objs.size) ⟨(hp.push o1).push o2, g, d, tk, os⟩ → wpAny (model prog w) A' (pyIter v2) Q E ⟨hp.push o1, g, d, tk, os⟩ := fun q => h2 prog w _ _ ⟨hp.push o1, g, d, tk, os⟩ _ (fun _ _ e => Heap.get?_push_of_some _ e) q
    wp_walk using p1, p2
    exact ⟨_, rfl, h⟩
section
variable {prog : Program} {w : World} {A : Around} {E : Value → Shared → Prop} {s : Shared}
theorem call_zip2 {v1 v2 : Value} {o1 o2 : Obj} {Q : Value → Shared → Prop} (p1 : ItersTo s.heap v1 o1) (p2 : ItersTo s.heap v2 o2) (f1 : o1.isFreed = false) (f2 : o2.isFreed = false)
    (h : ∀ h', IsZip h' (s.heap.objs.size + 4) (s.heap.objs.size + 2) (s.heap.objs.size + 3) .none → IsPair h' (s.heap.objs.size + 2) (.ref s.heap.objs.size) (.ref (s.heap.objs.size + 1)) → IsPair h' (s.heap.objs.size + 3) .none .none →
      h'.get? s.heap.objs.size = some o1 → h'.get? (s.heap.objs.size + 1) = some o2 → h'.objs.size = s.heap.objs.size + 5 → (∀ c o, s.heap.get? c = some o → h'.get? c = some o) → Q (.ref (s.heap.objs.size + 4)) { s with heap := h' }) :
    wpAny (model prog w) A (call (.type "zip") [v1, v2]) Q E s := by
  refine callType_new F.called_zip (by decide) (F.typeCall_zip_2 _ _) (F.newCall_zip_2 _ _) (fun obj => F.args_object_init_3 obj _ _) F.entry_zip_new (meets_zip2 v1 v2 o1 o2) ⟨p1, p2, ?_⟩
  have z1 : (s.heap.push o1).objs.size = s.heap.objs.size + 1 := Heap.size_push ..
  have z2 : (zpH s.heap o1 o2).objs.size = s.heap.objs.size + 2 := by rw [Heap.size_push, z1]
  have z3 : (zpT s.heap o1 o2).objs.size = s.heap.objs.size + 3 := by rw [Heap.size_push, z2]
  have z4 : (zpO s.heap o1 o2).objs.size = s.heap.objs.size + 4 := by rw [Heap.size_push, z3]
  have z5 : (zpZ s.heap o1 o2).objs.size = s.heap.objs.size + 5 := by rw [Heap.size_push, z4]
  have g5 : (zpZ s.heap o1 o2).get? (zpO s.heap o1 o2).objs.size = some _ := Heap.get?_push_size _ rfl
  have g4 : (zpZ s.heap o1 o2).get? (zpT s.heap o1 o2).objs.size = some _ := Heap.get?_push_of_some _ (Heap.get?_push_size _ rfl)
  have g3 : (zpZ s.heap o1 o2).get? (zpH s.heap o1 o2).objs.size = some _ := Heap.get?_push_of_some _ (Heap.get?_push_of_some _ (Heap.get?_push_size _ rfl))
  have g2 : (zpZ s.heap o1 o2).get? (s.heap.push o1).objs.size = some o2 := Heap.get?_push_of_some _ (Heap.get?_push_of_some _ (Heap.get?_push_of_some _ (Heap.get?_push_size _ f2)))
  have g1 : (zpZ s.heap o1 o2).get? s.heap.objs.size = some o1 := Heap.get?_push_of_some _ (Heap.get?_push_of_some _ (Heap.get?_push_of_some _ (Heap.get?_push_of_some _ (Heap.get?_push_size _ f1))))
  show _ ∧ _
  rw [z2, z3, z4] at g5
  rw [z1, z2] at g3
  rw [z3] at g4
  rw [z1] at g2
  rw [z4]
  exact ⟨⟨_, g5, rfl⟩, h _ g5 g3 g4 g1 g2 z5 fun c o x => Heap.get?_push_of_some _ (Heap.get?_push_of_some _ (Heap.get?_push_of_some _ (Heap.get?_push_of_some _ (Heap.get?_push_of_some _ x))))⟩
end

section
variable {X : Cx} {pins : List (Addr × Obj)} {σ : St} {H : Hp} {s : Shared} {h' : Heap}
/-- several untracked records of ours have turned, and a new tuple is tracked -/
theorem Inv.turnedL {t' : Nat} {ch : List Addr} (I : Inv X pins σ H s) (k : ∀ b o, b ∉ ch → s.heap.get? b = some o → h'.get? b = some o) (hf : ∀ b ∈ ch, FpOk X pins H b) : Inv X pins σ H { s with heap := h', toks := t' } := by
  have nit : ∀ b u, H b = some u → b ∉ ch := fun b u e z => by rw [(hf b z).1] at e; cases e
  refine I.step (g' := s.gens) (d' := s.drawn) (ch := ch) (fun b hb => ?_) (fun b o _ _ hc e _ => k b o hc e) (fun b o _ _ hc e _ => ⟨o.slots, k b o hc e⟩) (fun _ _ _ _ n => n)
    (fun b o hc e => ⟨o, k b o hc e⟩) (fun _ _ e => e) (fun _ _ _ e => e) (fun b ps e => ⟨#[], by rw [e]; simp⟩) (fun m hm => ?_) (fun b u e => ?_) I.bare
  · obtain ⟨f0, f1, f2, f3, f4, f5⟩ := hf b hb
    exact ⟨f3, f1, f4, f5⟩
  · obtain ⟨o, es, ep, ho, r⟩ := hm
    exact ⟨o, es, ep, k _ o (fun z => (hf _ z).2.1 rfl) ho, r⟩
  · refine (I.hok b u e).stay (fun c v hc q => k c v ?_ q) (fun _ q => q) fun _ _ q => q
    rcases hc with z | z
    · rw [z]; exact nit b u e
    · exact nit c _ z
theorem Inv.turnedT {t' : Nat} {ch : List Addr} {T : Addr} {vs : List V} (I : Inv X pins σ H s) (k : ∀ b o, b ∉ ch → s.heap.get? b = some o → h'.get? b = some o) (hf : ∀ b ∈ ch, FpOk X pins H b) (hT : s.heap.objs.size ≤ T)
    (new : ObjOk X.prog X.w (upd H T (.tup vs)) h' T (.tup vs)) : Inv X pins σ (upd H T (.tup vs)) { s with heap := h', toks := t' } := by
  have hn : H T = none := I.hok.fresh hT
  have nit : ∀ b u, H b = some u → b ∉ ch := fun b u e z => by rw [(hf b z).1] at e; cases e
  have nT : ∀ b o, s.heap.get? b = some o → b ≠ T := fun b o e z => absurd (Heap.lt_size e) (by rw [z]; exact Nat.not_lt.mpr hT)
  have up : ∀ b u, H b = some u → upd H T (.tup vs) b = some u := fun b u e => by rw [upd_ne (ne_of_none e hn)]; exact e
  refine I.step (g' := s.gens) (d' := s.drawn) (ch := ch) (fun b hb => ?_) (fun b o _ _ hc e _ => k b o hc e) (fun b o _ _ hc e _ => ⟨o.slots, k b o hc e⟩) (fun b o _ e n => by rw [upd_ne (nT b o e)]; exact n)
    (fun b o hc e => ⟨o, k b o hc e⟩) (fun b xs e => up b _ e) (fun b o u e => up b _ e) (fun b ps e => ⟨#[], by rw [up b _ e]; simp⟩) (fun m hm => ?_) (fun b u e => ?_) I.bare
  · obtain ⟨f0, f1, f2, f3, f4, f5⟩ := hf b hb
    exact ⟨f3, f1, f4, f5⟩
  · obtain ⟨o, es, ep, ho, r⟩ := hm
    exact ⟨o, es, ep, k _ o (fun z => (hf _ z).2.1 rfl) ho, r⟩
  · by_cases hb : b = T
    · subst hb; rw [upd_same] at e; cases e; exact new
    · rw [upd_ne hb] at e
      refine (I.hok b u e).stay (fun c v hc q => k c v ?_ q) (fun c q => up c _ q) fun c xs q => up c _ q
      rcases hc with z | z
      · rw [z]; exact nit b u e
      · exact nit c _ z
end

/-- what zip(a, b) yields: pairs, each a new tuple -/
def Itz (G1 G2 : Hp → List V → Prop) : It :=
  ⟨fun i H => ∃ xs ys x y, G1 H xs ∧ G2 H ys ∧ xs[i]? = some x ∧ ys[i]? = some y, fun i H v H' => ∃ T, v = .ref T ∧ H T = none ∧ ∀ xs ys x y, G1 H xs → G2 H ys → xs[i]? = some x → ys[i]? = some y → H' = upd H T (.tup [x, y]),
    fun i H => ∃ xs ys, G1 H xs ∧ G2 H ys ∧ (xs.length ≤ i ∨ ys.length ≤ i)⟩
/-- a sequence as a zip's part: what of the abstract heap tells its items -/
structure Part (K : PySem.W.Frag) (G : Hp → List V → Prop) (Si : Addr → Nat → Heap → Prop) (R : Heap → (Nat → Option Value) → Prop) (own : Addr) : Prop where
  sub : ∀ (P : Program) (w : World) (i : Addr), Sub P w i (Si i) R
  ready : ∀ (X : Cx), X.K = K → ∀ (pins : List (Addr × Obj)) (σ : St) (H : Hp) (s : Shared) (xs : List V), Inv X pins σ H s → G H xs → ∃ us : List Value, Vals xs us ∧ R s.heap (fun k => us[k]?)
  inj : ∀ (X : Cx), X.K = K → ∀ (pins : List (Addr × Obj)) (σ : St) (H : Hp) (s : Shared) (xs ys : List V), Inv X pins σ H s → G H xs → G H ys → xs = ys
  keep : ∀ h h' g, R h g → (∀ o, h.get? own = some o → h'.get? own = some o) → R h' g
theorem part_tuple {K : PySem.W.Frag} (a : Addr) : Part K (fun H xs => SqT K H a xs) (fun i k h => h.IsTupleIter i a k) (fun h get => ∃ items : Array Value, h.IsTuple a items ∧ ∀ k, get k = items[k]?) a where
  sub := fun P w i => sub_tuple i a
  ready := fun X hK pins σ H s xs I hq => by
    subst hK
    obtain ⟨its, r, ht, _⟩ := I.tuple hq
    exact ⟨its, r, its.toArray, ht, fun k => by simp⟩
  inj := fun X hK pins σ H s xs ys I h1 h2 => by subst hK; exact I.tuple_inj h1 h2
  keep := fun h h' g ⟨items, ⟨o, e, r⟩, q⟩ k => ⟨items, ⟨o, k o e, r⟩, q⟩
theorem part_list {K : PySem.W.Frag} (a : Addr) : Part K (fun H xs => SqL K H a xs) (fun i k h => h.IsListIter i a k) (fun h get => ∃ items : Array Value, h.IsList a items ∧ ∀ k, get k = items[k]?) a where
  sub := fun P w i => sub_list i a
  ready := fun X hK pins σ H s xs I hq => by
    subst hK
    obtain ⟨its, r, ht, _⟩ := I.list hq
    exact ⟨its, r, its.toArray, ht.isList, fun k => by simp⟩
  inj := fun X hK pins σ H s xs ys I h1 h2 => by subst hK; exact I.list_inj h1 h2
  keep := fun h h' g ⟨items, ⟨o, e, r⟩, q⟩ k => ⟨items, ⟨o, k o e, r⟩, q⟩
theorem turn_zip {P : Program} {w : World} {K : PySem.W.Frag} {elts : List Expr} {kk : Nat} {pos : Pos} {G1 G2 : Hp → List V → Prop} {S1 S2 : Addr → Nat → Heap → Prop} {R1 R2 : Heap → (Nat → Option Value) → Prop} {a1 a2 : Addr}
    (p1 : Part K G1 S1 R1 a1) (p2 : Part K G2 S2 R2 a2) {z TI TO i1 i2 : Addr} (D : ZApart z TI TO i1 i2) (n1 : a1 ∉ [z, TO, i1, i2]) (n2 : a2 ∉ [z, TO, i1, i2]) :
    Turn P w K (.Tuple elts kk pos) (Itz G1 G2) [z, TI, TO, i1, i2] z (fun i h => IsZip h z TI TO .none ∧ IsPair h TI (.ref i1) (.ref i2) ∧ (∃ a b, IsPair h TO a b) ∧ S1 i1 i h ∧ S2 i2 i h) where
  mem := by simp
  obj := fun i h ⟨hz, hTI, ⟨a, b, hTO⟩, h1, h2⟩ c hc => by
    simp only [List.mem_cons, List.not_mem_nil, or_false] at hc
    rcases hc with rfl | rfl | rfl | rfl | rfl
    · exact ⟨_, hz, fun v e => by cases e⟩
    · exact ⟨_, hTI, fun v e => by cases e⟩
    · exact ⟨_, hTO, fun v e => by cases e⟩
    · exact (p1.sub P w _).obj _ _ h1
    · exact (p2.sub P w _).obj _ _ h2
  keep := fun i h h' ⟨hz, hTI, ⟨a, b, hTO⟩, h1, h2⟩ q =>
    ⟨q z (by simp) _ hz, q TI (by simp) _ hTI, ⟨a, b, q TO (by simp) _ hTO⟩, (p1.sub P w i1).keep _ _ _ h1 (q i1 (by simp)), (p2.sub P w i2).keep _ _ _ h2 (q i2 (by simp))⟩
  item := by
    intro X hP hw hK hc i pins s σ H E I hf ⟨hz, hTI, ⟨a, b, hTO⟩, h1, h2⟩ hg
    subst hP hw
    obtain ⟨xs, ys, x, y, g1, g2, hx, hy⟩ := hg
    obtain ⟨us1, r1, rd1⟩ := p1.ready X hK pins σ H s xs I g1
    obtain ⟨us2, r2, rd2⟩ := p2.ready X hK pins σ H s ys I g2
    obtain ⟨u, hu, ru⟩ := r1.get hx
    obtain ⟨v, hv, rv⟩ := r2.get hy
    have out : ∀ c, c ≠ z → c ≠ TO → c ≠ i1 → c ≠ i2 → c ∉ [z, TO, i1, i2] := fun c c1 c2 c3 c4 hm => by
      simp only [List.mem_cons, List.not_mem_nil, or_false] at hm
      rcases hm with e | e | e | e <;> contradiction
    have sep : ∀ {c : Addr}, c ∉ [z, TO, i1, i2] → c ≠ z ∧ c ≠ TO ∧ c ≠ i1 ∧ c ≠ i2 := fun hm => ⟨fun e => hm (by simp [e]), fun e => hm (by simp [e]), fun e => hm (by simp [e]), fun e => hm (by simp [e])⟩
    obtain ⟨m1, m2, m3, m4⟩ := sep n1
    obtain ⟨m5, m6, m7, m8⟩ := sep n2
    refine zip_item (k := i) D (p1.sub _ _ i1) (p2.sub _ _ i2) (fun h h' g r q => p1.keep _ _ _ r fun o e => q a1 o m1 m2 m3 m4 e) (fun h h' g r q => p2.keep _ _ _ r fun o e => q a2 o m5 m6 m7 m8 e) hz hTI hTO h1 h2 rd1 rd2 hu hv fun h' tk hz' hTO' h1' h2' hT' hsz keep => ?_
    refine ⟨_, rfl, ?_⟩
    refine wpAny_letOwnedTupleGo_zip (s := { s with heap := h', toks := tk }) hz' fun h'' hz'' sb => ?_
    have zlt : z < s.heap.objs.size := Heap.lt_size hz
    have kp : ∀ c o, c ∉ [z, TO, i1, i2] → s.heap.get? c = some o → h''.get? c = some o := fun c o hm e => by
      obtain ⟨c1, c2, c3, c4⟩ := sep hm
      exact sb.extBut c o c1 (keep c o c1 c2 c3 c4 e)
    have hT'' : IsPair h'' s.heap.objs.size u v := sb.extBut _ _ (Nat.ne_of_gt zlt) hT'
    have fp4 : ∀ c ∈ [z, TO, i1, i2], FpOk X pins H c := fun c hm => hf c (by
      simp only [List.mem_cons, List.not_mem_nil, or_false] at hm ⊢
      rcases hm with e | e | e | e <;> simp [e])
    have I' := I.turnedT (t' := tk) (h' := h'') (T := s.heap.objs.size) (vs := [x, y]) kp fp4 (Nat.le_refl _) (show ObjOk X.prog X.w _ h'' _ (.tup [x, y]) from ⟨by show 2 ≤ sizeLine; decide, [u, v], .cons ru (.cons rv .nil), _, hT'', rfl, _, rfl⟩)
    have fresh : H s.heap.objs.size = none := I.hok.fresh (Nat.le_refl _)
    refine ⟨.ref s.heap.objs.size, _, I', rfl, ⟨_, rfl, fresh, fun xs' ys' x' y' g1' g2' hx' hy' => ?_⟩, ⟨hz'', sb.extBut _ _ D.a (keep _ _ D.a D.e D.f D.g hTI), ⟨_, _, sb.extBut _ _ D.b hTO'⟩, (p1.sub X.prog X.w i1).keep _ _ _ h1' fun o e => sb.extBut _ _ D.c e, (p2.sub X.prog X.w i2).keep _ _ _ h2' fun o e => sb.extBut _ _ D.d e⟩, fun c hm => ?_⟩
    · rw [p1.inj X hK pins σ H s _ _ I g1' g1, hx] at hx'
      rw [p2.inj X hK pins σ H s _ _ I g2' g2, hy] at hy'
      cases hx'
      cases hy'
      rfl
    · have h0 := (hf c hm).1
      have clt : c < s.heap.objs.size := by
        simp only [List.mem_cons, List.not_mem_nil, or_false] at hm
        rcases hm with rfl | rfl | rfl | rfl | rfl
        · exact zlt
        · exact Heap.lt_size hTI
        · exact Heap.lt_size hTO
        · obtain ⟨o, e, _⟩ := (p1.sub X.prog X.w _).obj _ _ h1; exact Heap.lt_size e
        · obtain ⟨o, e, _⟩ := (p2.sub X.prog X.w _).obj _ _ h2; exact Heap.lt_size e
      rw [upd_ne (Nat.ne_of_lt clt)]
      exact h0
  done := by
    intro X hP hw hK hc i pins s σ H E I hf ⟨hz, hTI, ⟨a, b, hTO⟩, h1, h2⟩ hg
    subst hP hw
    obtain ⟨xs, ys, g1, g2, hend⟩ := hg
    obtain ⟨us1, r1, rd1⟩ := p1.ready X hK pins σ H s xs I g1
    obtain ⟨us2, r2, rd2⟩ := p2.ready X hK pins σ H s ys I g2
    have sep : ∀ {c : Addr}, c ∉ [z, TO, i1, i2] → c ≠ z ∧ c ≠ TO ∧ c ≠ i1 ∧ c ≠ i2 := fun hm => ⟨fun e => hm (by simp [e]), fun e => hm (by simp [e]), fun e => hm (by simp [e]), fun e => hm (by simp [e])⟩
    obtain ⟨m1, m2, m3, m4⟩ := sep n1
    obtain ⟨m5, m6, m7, m8⟩ := sep n2
    have l1 := r1.length
    have l2 := r2.length
    refine zip_end (k := i) (I.ok.hd hc) D (p1.sub _ _ i1) (p2.sub _ _ i2) (fun h h' g r q => p1.keep _ _ _ r fun o e => q a1 o m1 m2 m3 m4 e) (fun h h' g r q => p2.keep _ _ _ r fun o e => q a2 o m5 m6 m7 m8 e) hz hTI hTO h1 h2 rd1 rd2 ?_ fun h' tk keep => ?_
    · rcases hend with e | e
      · exact .inl (by simp; omega)
      · exact .inr (by simp; omega)
    · refine ⟨rfl, I.turnedL (ch := [z, TO, i1, i2]) (fun c o hm e => ?_) fun c hm => hf c (by
        simp only [List.mem_cons, List.not_mem_nil, or_false] at hm ⊢
        rcases hm with e | e | e | e <;> simp [e])⟩
      obtain ⟨c1, c2, c3, c4⟩ := sep hm
      exact keep c o c1 c2 c3 c4 e
  self := fun A i s Q E ⟨hz, _⟩ q => wpAny_pyIter_zip hz q
end L2
namespace L2
open PySem PySem.Spec PyProof.Rows
section
variable {X : Cx} {elts : List Expr} {kk : Nat} {tpos : Pos}
theorem zapart_new (n : Nat) : ZApart (n + 4) (n + 2) (n + 3) n (n + 1) := by
  constructor <;> (intro e; have e' : @Eq Nat _ _ := e; omega)
/-- zip(a, b) of two tuples, of two lists -/
def iZipT (K : PySem.W.Frag) (ta : TA) : TI := fun σ H R => ta σ H fun vs H1 => ∃ a b xs ys, vs = [.ref a, .ref b] ∧ SqT K H1 a xs ∧ SqT K H1 b ys ∧ R (Itz (fun H xs => SqT K H a xs) (fun H ys => SqT K H b ys)) H1
def iZipL (K : PySem.W.Frag) (ta : TA) : TI := fun σ H R => ta σ H fun vs H1 => ∃ a b xs ys, vs = [.ref a, .ref b] ∧ SqL K H1 a xs ∧ SqL K H1 b ys ∧ R (Itz (fun H xs => SqL K H a xs) (fun H ys => SqL K H b ys)) H1
theorem zip_pie {pins : List (Addr × Obj)} {σ : St} {H : Hp} {s : Shared} {R : It → Hp → Prop} {E : Value → Shared → Prop} {G1 G2 : Hp → List V → Prop} {S1 S2 : Addr → Nat → Heap → Prop} {R1 R2 : Heap → (Nat → Option Value) → Prop} {a b : Addr} {o1 o2 : Obj}
    (I : Inv X pins σ H s) (p1 : Part X.K G1 S1 R1 a) (p2 : Part X.K G2 S2 R2 b) (t1 : ItersTo s.heap (.ref a) o1) (t2 : ItersTo s.heap (.ref b) o2) (f1 : o1.isFreed = false) (f2 : o2.isFreed = false) (la : a < s.heap.objs.size) (lb : b < s.heap.objs.size)
    (s1 : ∀ h i, h.get? i = some o1 → S1 i 0 h) (s2 : ∀ h i, h.get? i = some o2 → S2 i 0 h) (q : R (Itz G1 G2) H) :
    wpAny (model X.prog X.w) X.A (call (.type "zip") [.ref a, .ref b]) (fun v s1 => wpAny (model X.prog X.w) X.A (pyIter v) (PIE X pins σ (.Tuple elts kk tpos) R) E s1) E s := by
  refine call_zip2 t1 t2 f1 f2 fun h' hz hTI hTO g1 g2 hsz keep => ?_
  refine wpAny_pyIter_zip hz ?_
  have I1 : Inv X pins σ H { s with heap := h' } := I.kept (t' := s.toks) keep
  refine ⟨_, [s.heap.objs.size + 4, s.heap.objs.size + 2, s.heap.objs.size + 3, s.heap.objs.size, s.heap.objs.size + 1], _, _, H, rfl, I1, turn_zip (K := X.K) p1 p2 (zapart_new s.heap.objs.size) ?_ ?_, ⟨hz, hTI, ⟨_, _, hTO⟩, s1 _ _ g1, s2 _ _ g2⟩, fun c hc => ?_, q⟩
  · intro hm
    simp only [List.mem_cons, List.not_mem_nil, or_false] at hm
    rcases hm with e | e | e | e <;> (have e' : @Eq Nat _ _ := e; have la' : @LT.lt Nat _ a s.heap.objs.size := la; have lb' : @LT.lt Nat _ b s.heap.objs.size := lb; omega)
  · intro hm
    simp only [List.mem_cons, List.not_mem_nil, or_false] at hm
    rcases hm with e | e | e | e <;> (have e' : @Eq Nat _ _ := e; have la' : @LT.lt Nat _ a s.heap.objs.size := la; have lb' : @LT.lt Nat _ b s.heap.objs.size := lb; omega)
  · have hle : s.heap.objs.size ≤ c := by
      simp only [List.mem_cons, List.not_mem_nil, or_false] at hc
      rcases hc with e | e | e | e | e <;> (have e' : @Eq Nat _ _ := e; show @LE.le Nat _ s.heap.objs.size c; omega)
    exact I.fpOk hle (I.hok.fresh hle)
theorem pi_zipT {a b : Expr} {ta : TA} {p pos : Pos} (hg : Gl X "zip") (hm : X.mg "zip" = none) (ha : PA X [a, b] ta) (hs : starEach [a, b] X.env = [(false, eval a X.env), (false, eval b X.env)] := by rfl) (hs2 : starEach [b] X.env = [(false, eval b X.env)] := by rfl) :
    PI X (.Tuple elts kk tpos) (.Call (.Name "zip" p) [a, b] [] pos) (iZipT X.K ta) := by
  intro pins s σ H R I h
  refine Call_ (ld_blt I hg hm boot_zip (PyProof.Rows.callWith_type1 (thn (ha pos pins s σ H _ I h) fun us s1 ⟨vs, H1, I1, r1, q1⟩ => ?_) (by rw [hs, hs2]) (by rw [hs2]; rfl)))
  obtain ⟨x, y, xs, ys, e, hx, hy, q⟩ := q1
  subst e
  obtain ⟨u, v, rfl, ru, rv⟩ := r1.two
  cases ru
  cases rv
  obtain ⟨i1, _, ht1, _⟩ := I1.tuple hx
  obtain ⟨i2, _, ht2, _⟩ := I1.tuple hy
  have l1 : x < s1.heap.objs.size := by obtain ⟨_, e, _⟩ := ht1; exact Heap.lt_size e
  have l2 : y < s1.heap.objs.size := by obtain ⟨_, e, _⟩ := ht2; exact Heap.lt_size e
  exact zip_pie I1 (part_tuple x) (part_tuple y) (itersTo_tuple ht1) (itersTo_tuple ht2) rfl rfl l1 l2 (fun h i e => ⟨_, e, rfl, rfl⟩) (fun h i e => ⟨_, e, rfl, rfl⟩) q
theorem pi_zipL {a b : Expr} {ta : TA} {p pos : Pos} (hg : Gl X "zip") (hm : X.mg "zip" = none) (ha : PA X [a, b] ta) (hs : starEach [a, b] X.env = [(false, eval a X.env), (false, eval b X.env)] := by rfl) (hs2 : starEach [b] X.env = [(false, eval b X.env)] := by rfl) :
    PI X (.Tuple elts kk tpos) (.Call (.Name "zip" p) [a, b] [] pos) (iZipL X.K ta) := by
  intro pins s σ H R I h
  refine Call_ (ld_blt I hg hm boot_zip (PyProof.Rows.callWith_type1 (thn (ha pos pins s σ H _ I h) fun us s1 ⟨vs, H1, I1, r1, q1⟩ => ?_) (by rw [hs, hs2]) (by rw [hs2]; rfl)))
  obtain ⟨x, y, xs, ys, e, hx, hy, q⟩ := q1
  subst e
  obtain ⟨u, v, rfl, ru, rv⟩ := r1.two
  cases ru
  cases rv
  obtain ⟨i1, _, ht1, _⟩ := I1.list hx
  obtain ⟨i2, _, ht2, _⟩ := I1.list hy
  have l1 : x < s1.heap.objs.size := by obtain ⟨_, e, _⟩ := ht1.isList; exact Heap.lt_size e
  have l2 : y < s1.heap.objs.size := by obtain ⟨_, e, _⟩ := ht2.isList; exact Heap.lt_size e
  exact zip_pie I1 (part_list x) (part_list y) (itersTo_list ht1.isList) (itersTo_list ht2.isList) rfl rfl l1 l2 (fun h i e => ⟨_, e, rfl, rfl⟩) (fun h i e => ⟨_, e, rfl, rfl⟩) q
/-- a comprehension over anything of n turns -/
theorem lc_gen {J : It} {P : Hp → Prop} {n : Nat} (hgo : ∀ i H, P H → i < n → J.go i H) (hstop : ∀ H, P H → J.stop n H) {src : List (Option Nat)} {g : TG} {tt : TT} {te : TE} {σ : St} {H1 : Hp} {Q : VK} {D : Addr} (Pv : Nat → List V → St → Hp → Prop)
    (h0 : Pv 0 [] (capSt src σ) (upd H1 D (.lst []))) (hP : ∀ i ys σ' H', Pv i ys σ' H' → P H' ∧ H' D = some (.lst ys))
    (step : ∀ i ys σ' H', i < n → Pv i ys σ' H' → ∀ x H3, J.yld i H' x H3 → g x σ' H3 fun σ2 H4 => tt σ2 H4 fun b H5 => if b = true then te σ2 H5 fun y H6 => H6 D = some (.lst ys) ∧ ys.length < sizeLine ∧ Pv (i + 1) (ys ++ [y]) σ2 (upd H6 D (.lst (ys ++ [y]))) else Pv (i + 1) ys σ2 H5)
    (fin : ∀ ys σ' H', Pv n ys σ' H' → Q (.ref D) H') :
    LC src J g tt te σ H1 Q D := by
  refine ⟨fun i m ys σ' H' => m = n - i ∧ i ≤ n ∧ Pv i ys σ' H', ⟨n, by simp, Nat.zero_le _, h0⟩, ?_⟩
  rintro i m ys σ' H2 ⟨rfl, hi, p⟩
  obtain ⟨hp, hD⟩ := hP i ys σ' H2 p
  refine ⟨hD, ?_⟩
  by_cases hlt : i < n
  · refine .inr ⟨hgo i H2 hp hlt, fun ys' σ3 H3 => Pv (i + 1) ys' σ3 H3, fun ys' σ3 H3 p' => ⟨n - (i + 1), by omega, rfl, hlt, p'⟩, fun x H3 y => step i ys σ' H2 hlt p x H3 y⟩
  · have e : i = n := by omega
    subst e
    exact .inl ⟨hstop H2 hp, fin ys σ' H2 p⟩

/-- .. without a test -/
theorem lc_on {J : It} {P : Hp → Prop} {xs : List V} (hJ : ItSeq J P xs) {src : List (Option Nat)} {g : TG} {te : TE} {σ : St} {H1 : Hp} {Q : VK} {D : Addr} (Pv : Nat → List V → St → Hp → Prop)
    (h0 : Pv 0 [] (capSt src σ) (upd H1 D (.lst []))) (hP : ∀ i ys σ' H', Pv i ys σ' H' → P H' ∧ H' D = some (.lst ys))
    (mono : ∀ x σ H Q Q', (∀ σ' H', Q σ' H' → Q' σ' H') → g x σ H Q → g x σ H Q')
    (step : ∀ i ys σ' H' x, xs[i]? = some x → Pv i ys σ' H' → g x σ' H' fun σ2 H4 => te σ2 H4 fun y H6 => H6 D = some (.lst ys) ∧ ys.length < sizeLine ∧ Pv (i + 1) (ys ++ [y]) σ2 (upd H6 D (.lst (ys ++ [y]))))
    (fin : ∀ ys σ' H', Pv xs.length ys σ' H' → Q (.ref D) H') : LC src J g tYes te σ H1 Q D :=
  lc_by hJ Pv h0 hP (fun i ys σ' H' x hx p => by
    refine mono _ _ _ _ _ ?_ (step i ys σ' H' x hx p)
    intro σ2 H4 q
    unfold tYes
    dsimp only
    rw [if_pos rfl]
    exact q) fin
theorem gName_mono (i : Nat) : ∀ x σ H Q Q', (∀ σ' H', Q σ' H' → Q' σ' H') → gName i x σ H Q → gName i x σ H Q' := fun _ _ _ _ _ h q => h _ _ q
theorem lc_gen_on {J : It} {P : Hp → Prop} {n : Nat} (hgo : ∀ i H, P H → i < n → J.go i H) (hstop : ∀ H, P H → J.stop n H) {src : List (Option Nat)} {g : TG} {te : TE} {σ : St} {H1 : Hp} {Q : VK} {D : Addr} (Pv : Nat → List V → St → Hp → Prop)
    (h0 : Pv 0 [] (capSt src σ) (upd H1 D (.lst []))) (hP : ∀ i ys σ' H', Pv i ys σ' H' → P H' ∧ H' D = some (.lst ys))
    (mono : ∀ x σ H Q Q', (∀ σ' H', Q σ' H' → Q' σ' H') → g x σ H Q → g x σ H Q')
    (step : ∀ i ys σ' H', i < n → Pv i ys σ' H' → ∀ x H3, J.yld i H' x H3 → g x σ' H3 fun σ2 H4 => te σ2 H4 fun y H6 => H6 D = some (.lst ys) ∧ ys.length < sizeLine ∧ Pv (i + 1) (ys ++ [y]) σ2 (upd H6 D (.lst (ys ++ [y]))))
    (fin : ∀ ys σ' H', Pv n ys σ' H' → Q (.ref D) H') : LC src J g tYes te σ H1 Q D :=
  lc_gen hgo hstop Pv h0 hP (fun i ys σ' H' hi p x H3 y => by
    refine mono _ _ _ _ _ ?_ (step i ys σ' H' hi p x H3 y)
    intro σ2 H4 q
    unfold tYes
    dsimp only
    rw [if_pos rfl]
    exact q) fin
/-! ### for over a text, over anything of n turns -/
theorem for_gen {J : It} {P : Hp → Prop} {n : Nat} (hgo : ∀ i H, P H → i < n → J.go i H) (hstop : ∀ H, P H → J.stop n H) {g : TG} {tb : TS} {D : Ends} {σ : St} {H : Hp} (Pv : Nat → St → Hp → Prop) (h0 : Pv 0 σ H) (hP : ∀ i σ H, Pv i σ H → P H)
    (hs : ∀ i σ H, i < n → Pv i σ H → ∀ x H', J.yld i H x H' → g x σ H' fun σ2 H2 => tb { D with nx := Pv (i + 1), ct := Pv (i + 1), bk := D.nx } σ2 H2) (hd : ∀ σ H, Pv n σ H → D.nx σ H) :
    ∃ W : Nat → Nat → St → Hp → Prop, (∃ m, W 0 m σ H) ∧ ∀ i m σ H, W i m σ H →
      (J.stop i H ∧ D.nx σ H) ∨ (J.go i H ∧ ∃ N : St → Hp → Prop, (∀ σ' H', N σ' H' → ∃ m', m' < m ∧ W (i + 1) m' σ' H') ∧ ∀ x H', J.yld i H x H' → g x σ H' fun σ2 H2 => tb { D with nx := N, ct := N, bk := D.nx } σ2 H2) := by
  refine ⟨fun i m σ H => m = n - i ∧ i ≤ n ∧ Pv i σ H, ⟨n, by simp, Nat.zero_le _, h0⟩, ?_⟩
  rintro i m σ H ⟨rfl, hi, p⟩
  have q := hP i σ H p
  by_cases hlt : i < n
  · exact .inr ⟨hgo i H q hlt, Pv (i + 1), fun σ' H' p' => ⟨n - (i + 1), by omega, rfl, hlt, p'⟩, fun x H' y => hs i σ H hlt p x H' y⟩
  · have e : i = n := by omega
    subst e
    exact .inl ⟨hstop H q, hd σ H p⟩
theorem for_str {z : Str} {g : TG} {tb : TS} {D : Ends} {σ : St} {H : Hp} (Pv : Nat → St → Hp → Prop) (h0 : Pv 0 σ H)
    (hs : ∀ i c σ H, z.cps.toList[i]? = some c → Pv i σ H → g (.str ⟨#[c]⟩) σ H fun σ2 H2 => tb { D with nx := Pv (i + 1), ct := Pv (i + 1), bk := D.nx } σ2 H2) (hd : ∀ σ H, Pv z.cps.toList.length σ H → D.nx σ H) :
    ∃ W : Nat → Nat → St → Hp → Prop, (∃ m, W 0 m σ H) ∧ ∀ i m σ H, W i m σ H →
      ((Its z).stop i H ∧ D.nx σ H) ∨ ((Its z).go i H ∧ ∃ N : St → Hp → Prop, (∀ σ' H', N σ' H' → ∃ m', m' < m ∧ W (i + 1) m' σ' H') ∧ ∀ x H', (Its z).yld i H x H' → g x σ H' fun σ2 H2 => tb { D with nx := N, ct := N, bk := D.nx } σ2 H2) :=
  for_gen (P := fun _ => True) (n := z.cps.toList.length) (fun i H _ hi => by show i < z.cps.size; simpa using hi) (fun H _ => by show z.cps.size ≤ _; simp) Pv h0 (fun _ _ _ _ => trivial)
    (fun i σ H hi p x H' y => by
      obtain ⟨e, c, hc, e2⟩ := y
      subst e e2
      exact hs i c σ _ hc p) hd
end
end L2
namespace L2
open PySem PySem.Spec PyProof.Rows
/-! ### short words: the surroundings of a law as one thing, its defs by their promises -/
structure Gx where
  P : Program
  w : World
  K : PySem.W.Frag
  mg : Str → Option Value
  base : Heap
def Cx.gx (X : Cx) : Gx := ⟨X.prog, X.w, X.K, X.mg, X.base⟩
/-- a def of the top as it stands there -/
def Gx.Raw (g : Gx) (x qual : Str) (st : Stmt) (ps : List Str) : Prop := ∃ f fd, Fun g.K x qual st f fd ∧ Binds g.K fd ps [] ∧ g.mg x = some (.ref f)
/-- .. with its promise, k calls deep -/
def Gx.Fn (g : Gx) (k : Nat) (x : Str) (ps : List Str) (sp : Sp) : Prop := ∃ f fd, FnOk g.P g.w g.K g.mg g.base CX0 k f fd ps sp ∧ Binds g.K fd ps [] ∧ PySem.W.keepIn g.K (.ref f) = true ∧ g.mg x = some (.ref f)
/-- a method of the class at C -/
def Gx.RawM (g : Gx) (C : Addr) (m qual : Str) (st : Stmt) (ps : List Str) : Prop := ∃ f fd, Fun g.K m qual st f fd ∧ Binds g.K fd ps [] ∧ Meth g.K C m f
def Gx.Me (g : Gx) (k : Nat) (C : Addr) (m : Str) (ps : List Str) (sp : Sp) : Prop := ∃ f fd, FnOk g.P g.w g.K g.mg g.base CX0 k f fd ps sp ∧ Binds g.K fd ps [] ∧ Meth g.K C m f
/-- the class's own making -/
def Gx.RawI (g : Gx) (x : Str) (C : Addr) (qual : Str) (st : Stmt) (ps : List Str) : Prop := ∃ f fd, Fun g.K "__init__" qual st f fd ∧ Binds g.K fd ps [] ∧ Mk g.K C f ∧ g.mg x = some (.ref C)
def Gx.Ma (g : Gx) (k : Nat) (x : Str) (C : Addr) (ps : List Str) (sp : Sp) : Prop := ∃ f fd, FnOk g.P g.w g.K g.mg g.base CX0 k f fd ps sp ∧ Binds g.K fd ps [] ∧ Mk g.K C f ∧ g.mg x = some (.ref C)
def Gx.Con (g : Gx) (x : Str) (v : V) : Prop := ∃ u, g.mg x = some u ∧ RelV v u
/-- the body's context -/
abbrev Gx.cx (g : Gx) (N : List Str) (qual : Str) (st : Stmt) (f : Addr) (cdv : Value) (A : Around) (outer : List Env) (s : Shared) (H : Hp) (E : XK) : Cx := (cxOf CX0 g.P g.w g.K g.mg g.base N qual (defScope st) f cdv A outer s H E).nox
def Body (g : Gx) (k : Nat) (N : List Str) (qual : Str) (st : Stmt) (sp : Sp) : Prop := ∀ (f : Addr) (cdv : Value) (A : Around) (outer : List Env) (s : Shared) (H : Hp) (vs : List V) (Q : VK) (E : XK), Room k (g.cx N qual st f cdv A outer s H E).A → sp vs H Q E →
  ∃ t, PSs (g.cx N qual st f cdv A outer s H E) (defBody st) t ∧ t { nx := fun _ H' => Q .non H', rt := Q } (start N vs) H
section
variable {g : Gx} {k : Nat} {x qual m : Str} {st : Stmt} {N ps : List Str} {sp : Sp} {C : Addr}
theorem Gx.Raw.fn (R : g.Raw x qual st ps) (S : FnScope N ps (defScope st)) (len : ∀ vs H Q E, sp vs H Q E → vs.length = ps.length) (b : Body g k N qual st sp) : g.Fn (k + 1) x ps sp := by
  obtain ⟨f, fd, F, bd, hm⟩ := R
  exact ⟨f, fd, F.ok S len fun cdv A outer s H vs Q E hr h => b f cdv A outer s H vs Q E hr h, bd, F.kp, hm⟩
theorem Gx.RawM.me (R : g.RawM C m qual st ps) (S : FnScope N ps (defScope st)) (len : ∀ vs H Q E, sp vs H Q E → vs.length = ps.length) (b : Body g k N qual st sp) : g.Me (k + 1) C m ps sp := by
  obtain ⟨f, fd, F, bd, hm⟩ := R
  exact ⟨f, fd, F.ok S len fun cdv A outer s H vs Q E hr h => b f cdv A outer s H vs Q E hr h, bd, hm⟩
theorem Gx.RawI.ma (R : g.RawI x C qual st ps) (S : FnScope N ps (defScope st)) (len : ∀ vs H Q E, sp vs H Q E → vs.length = ps.length) (b : Body g k N qual st sp) : g.Ma (k + 1) x C ps sp := by
  obtain ⟨f, fd, F, bd, hm, hg⟩ := R
  exact ⟨f, fd, F.ok S len fun cdv A outer s H vs Q E hr h => b f cdv A outer s H vs Q E hr h, bd, hm, hg⟩
theorem Gx.Fn.mono {j : Nat} (F : g.Fn j x ps sp) (h : j ≤ k) : g.Fn k x ps sp := by
  obtain ⟨f, fd, F, r⟩ := F
  exact ⟨f, fd, F.mono h, r⟩
theorem Gx.Me.mono {j : Nat} (F : g.Me j C m ps sp) (h : j ≤ k) : g.Me k C m ps sp := by
  obtain ⟨f, fd, F, r⟩ := F
  exact ⟨f, fd, F.mono h, r⟩
/-- nothing can be asked: no call is left -/
theorem Gx.Raw.none (R : g.Raw x qual st ps) (no : ∀ vs H Q E, ¬ sp vs H Q E) : g.Fn k x ps sp := by
  obtain ⟨f, fd, F, bd, hm⟩ := R
  exact ⟨f, fd, ⟨fun vs H Q E h => absurd h (no vs H Q E), fun A outer s H args us vs Q E _ _ _ _ h => absurd h (no vs H Q E)⟩, bd, F.kp, hm⟩
end
section
variable {g : Gx} {X : Cx} {k j : Nat} {x m : Str} {ps : List Str} {sp : Sp} {C : Addr} {e o : Expr} {es : List Expr} {t : TA} {ta : TE} {p pos apos : Pos}
/-- f(e, ..) -/
theorem pe_fn (F : g.Fn j x ps sp) (hr : Room k X.A) (ha : PA X (e :: es) t) (hj : j ≤ k := by omega) (hX : X.gx = g := by rfl) (hg : Gl X x := by rfl) (hdb : (x == ("__debug__" : Str)) = false := by decide)
    (he : starEach (e :: es) X.env = (false, eval e X.env) :: starEach es X.env := by rfl) (hpl : (backTo pos (starEach es X.env)).any (·.1) = false := by rfl) : PE X (.Call (.Name x p) (e :: es) [] pos) (tCall sp [] E0 t) := by
  subst hX
  obtain ⟨f, fd, F, b, kp, hm⟩ := F
  exact pe_call F (hr.mono hj) hg hm kp b .nil pass0 ha hdb he hpl
/-- o.m(e, ..) -/
theorem pe_me {pl : Sem Bool} (F : g.Me j C m ps sp) (c : Cls g.K C) (hr : Room k X.A) (ho : PE X o ta) (ha : PA X (e :: es) t) (hj : j ≤ k := by omega) (hX : X.gx = g := by rfl)
    (hst : starEach (e :: es) X.env = (false, eval e X.env) :: starEach es X.env := by rfl) (hpl : (backTo pos (starEach es X.env)).any (·.1) = false := by rfl)
    (ht : eval (.Call (.Attribute o m apos) (e :: es) [] pos) X.env = (do
      let ov ← eval o X.env
      standAt apos.atName
      let (f, first) ← holding [ov] (getMethod ov m pl)
      callWith pos f first (backTo pos (starEach (e :: es) X.env)) (backToKw pos (keywordEach [] X.env))) := by rfl) : PE X (.Call (.Attribute o m apos) (e :: es) [] pos) (tMeth C m sp [] E0 ta t) := by
  subst hX
  obtain ⟨f, fd, F, b, hm⟩ := F
  exact pe_meth ho c hm F (hr.mono hj) b .nil pass0 ha hst hpl ht
/-- o.m() -/
theorem pe_me0 {pl : Sem Bool} (F : g.Me j C m ps sp) (c : Cls g.K C) (hr : Room k X.A) (ho : PE X o ta) (hj : j ≤ k := by omega) (hX : X.gx = g := by rfl)
    (ht : eval (.Call (.Attribute o m apos) [] [] pos) X.env = (do
      let ov ← eval o X.env
      standAt apos.atName
      let (f, first) ← holding [ov] (getMethod ov m pl)
      callWith pos f first (backTo pos (starEach [] X.env)) (backToKw pos (keywordEach [] X.env))) := by rfl) : PE X (.Call (.Attribute o m apos) [] [] pos) (tMeth C m sp [] E0 ta tNil) := by
  subst hX
  obtain ⟨f, fd, F, b, hm⟩ := F
  exact pe_meth0 ho c hm F (hr.mono hj) b .nil pass0 ht
/-- C(e, ..) -/
theorem pe_ma (F : g.Ma j x C ps sp) (hr : Room k X.A) (ha : PA X (e :: es) t) (hj : j + 1 ≤ k := by omega) (hX : X.gx = g := by rfl) (hg : Gl X x := by rfl) (hdb : (x == ("__debug__" : Str)) = false := by decide)
    (he : starEach (e :: es) X.env = (false, eval e X.env) :: starEach es X.env := by rfl) (hpl : (backTo pos (starEach es X.env)).any (·.1) = false := by rfl) : PE X (.Call (.Name x p) (e :: es) [] pos) (tMake C sp [] E0 t) := by
  subst hX
  obtain ⟨f, fd, F, b, M, hm⟩ := F
  exact pe_make M F (hr.mono hj) hg hm b .nil pass0 ha hdb he hpl
/-- a constant of the top -/
theorem pe_gc {v : V} (F : g.Con x v) (hX : X.gx = g := by rfl) (hg : Gl X x := by rfl) (hd : (x == ("__debug__" : Str)) = false := by decide) : PE X (.Name x pos) (tC v) := by
  subst hX
  obtain ⟨u, hm, r⟩ := F
  exact pe_glob hg hm r hd
/-- a built-in function, type -/
theorem pe_bf {id : String} {r : List V → Hp → VK → Prop} (hm : g.mg x = none) (hc : CallR X (.builtin id) r) (ha : PA X (e :: es) t) (hv : bootBuiltins x = some (.builtin id) := by decide +kernel) (hX : X.gx = g := by rfl) (hg : Gl X x := by rfl) (hn : x ≠ "__name__" := by decide) (hdb : (x == ("__debug__" : Str)) = false := by decide)
    (he : starEach (e :: es) X.env = (false, eval e X.env) :: starEach es X.env := by rfl) (hpl : (backTo pos (starEach es X.env)).any (·.1) = false := by rfl) : PE X (.Call (.Name x p) (e :: es) [] pos) (tCB r t) := by
  subst hX
  exact pe_callB hc hg hm hv ha hn hdb he hpl
theorem pe_bt {T : String} {r : List V → Hp → VK → Prop} (hm : g.mg x = none) (hc : CallR X (.type T) r) (ha : PA X (e :: es) t) (hv : bootBuiltins x = some (.type T) := by decide +kernel) (hX : X.gx = g := by rfl) (hg : Gl X x := by rfl) (hn : x ≠ "__name__" := by decide) (hdb : (x == ("__debug__" : Str)) = false := by decide)
    (he : starEach (e :: es) X.env = (false, eval e X.env) :: starEach es X.env := by rfl) (hpl : (backTo pos (starEach es X.env)).any (·.1) = false := by rfl) : PE X (.Call (.Name x p) (e :: es) [] pos) (tCB r t) := by
  subst hX
  exact pe_callTy hc hg hm hv ha hn hdb he hpl
/-- a built-in type's name -/
theorem pe_bn {T : String} (hm : g.mg x = none) (hv : bootBuiltins x = some (.type T) := by decide +kernel) (hX : X.gx = g := by rfl) (hg : Gl X x := by rfl) (hn : x ≠ "__name__" := by decide) (hdb : (x == ("__debug__" : Str)) = false := by decide) : PE X (.Name x pos) (tC (.ty T)) := by
  subst hX
  exact pe_bltn hg hm hv rfl hn hdb
end
theorem upd_id {H : Hp} {p : Addr} {o : HO} (h : H p = some o) : upd H p o = H := by
  funext b
  unfold upd
  split
  · rename_i e; rw [e, h]
  · rfl
/-! ### code lists as texts -/
def S (l : List Nat) : Str := ⟨l.toArray⟩
theorem S_list (l : List Nat) : (S l).cps.toList = l := by simp [S]
theorem S_len (l : List Nat) : (S l).length = l.length := by simp [S, Str.length]
theorem S_app (a b : List Nat) : S a ++ S b = S (a ++ b) := by
  show Str.append (S a) (S b) = S (a ++ b)
  simp [Str.append, S]
theorem S_inj {a b : List Nat} (h : S a = S b) : a = b := by
  have := congrArg (fun x : Str => x.cps.toList) h
  simpa [S_list] using this
theorem cutS_nat (l : List Nat) (i j : Nat) : cutS (S l) (some (i : Int)) (some (j : Int)) = S ((l.drop i).take (j - i)) := by
  unfold cutS
  rw [S_list, S_len, HT.sIx_nat, HT.sIx_nat]
  show S _ = S _
  congr 1
  by_cases h : i ≤ l.length
  · rw [Nat.min_eq_left h]
    by_cases h2 : j ≤ l.length
    · rw [Nat.min_eq_left h2]
    · rw [Nat.min_eq_right (by omega)]
      rw [List.take_of_length_le (by simp), List.take_of_length_le (by simp; omega)]
  · have e : min i l.length = l.length := Nat.min_eq_right (by omega)
    rw [e, List.drop_eq_nil_of_le (Nat.le_refl l.length), List.drop_eq_nil_of_le (show l.length ≤ i by omega)]
    simp
theorem cutS_lo (l : List Nat) (i : Nat) : cutS (S l) (some (i : Int)) none = S (l.drop i) := by
  unfold cutS
  rw [S_list, S_len, HT.sIx_nat, HT.sIx_none]
  show S _ = S _
  congr 1
  by_cases h : i ≤ l.length
  · rw [Nat.min_eq_left h, List.take_of_length_le (by simp)]
  · rw [Nat.min_eq_right (by omega), List.drop_eq_nil_of_le (Nat.le_refl _), List.drop_eq_nil_of_le (by omega)]
    simp
def joinL (s : List Nat) : List (List Nat) → List Nat
  | [] => []
  | [x] => x
  | x :: y :: r => x ++ s ++ joinL s (y :: r)
end L2
namespace L2
open PySem PySem.Spec PyProof.Rows
/-! ### what the top has written -/
section
variable {K : PySem.W.Frag} {h : Heap} {mg : Str → Option Value} {P : Program} {w : World} {base : Heap} {f C : Addr} {x qual m : Str} {st : Stmt} {ps : List Str} {oc kV dc pm cd ct : Value} {od an : Option Addr} {sl : Array (Option Value)}
theorem raw_mk (X : K.In h) (G : h.Ns mainGlobals mg) (ps : List Str)
    (a : PySem.W.nsIn K mainGlobals x = some (some (.ref f))) (l : K.lookup f = some ⟨oc, od, .func (PySem.W.fnOf x x (defArgs st) (defBody st) (defScope st) .none kV dc pm an cd ct), sl⟩) (c : PySem.W.codeIn K cd x = true) (k : PySem.W.keepIn K (.ref f) = true)
    (b : ∀ (kV doc pm : Value) (an : Option Addr) (cdv ct : Value) (us : List Value), us.length = ps.length → bindArgs (PySem.W.fnOf x x (defArgs st) (defBody st) (defScope st) .none kV doc pm an cdv ct) ⟨us, []⟩ = pure (ps.zip us)) :
    ∀ P w base, (Gx.mk P w K mg base).Raw x x st ps := fun P w base =>
  have F := fun_mk (st := st) l c k
  ⟨f, _, F, F.binds b, PySem.W.mg_of X G a⟩
theorem rawM_mk (X : K.In h) (G : h.Ns mainGlobals mg) (ps : List Str)
    (a : PySem.W.findIn K (.ref C) m = some (some (.ref f))) (i : PySem.W.isFn K (.ref f) = true) (l : K.lookup f = some ⟨oc, od, .func (PySem.W.fnOf m qual (defArgs st) (defBody st) (defScope st) .none kV dc pm an cd ct), sl⟩) (c : PySem.W.codeIn K cd qual = true) (k : PySem.W.keepIn K (.ref f) = true)
    (b : ∀ (kV doc pm : Value) (an : Option Addr) (cdv ct : Value) (us : List Value), us.length = ps.length → bindArgs (PySem.W.fnOf m qual (defArgs st) (defBody st) (defScope st) .none kV doc pm an cdv ct) ⟨us, []⟩ = pure (ps.zip us)) :
    ∀ P w base, (Gx.mk P w K mg base).RawM C m qual st ps := fun P w base =>
  have F := fun_mk (st := st) l c k
  ⟨f, _, F, F.binds b, ⟨a, i, k⟩⟩
theorem rawI_mk (X : K.In h) (G : h.Ns mainGlobals mg) (ps : List Str) (aC : PySem.W.nsIn K mainGlobals x = some (some (.ref C))) (mk : PySem.W.makesIn K C = true) (kc : PySem.W.keepIn K (.ref C) = true)
    (a : PySem.W.findIn K (.ref C) "__init__" = some (some (.ref f))) (i : PySem.W.isFn K (.ref f) = true) (l : K.lookup f = some ⟨oc, od, .func (PySem.W.fnOf "__init__" qual (defArgs st) (defBody st) (defScope st) .none kV dc pm an cd ct), sl⟩) (c : PySem.W.codeIn K cd qual = true) (k : PySem.W.keepIn K (.ref f) = true)
    (b : ∀ (kV doc pm : Value) (an : Option Addr) (cdv ct : Value) (us : List Value), us.length = ps.length → bindArgs (PySem.W.fnOf "__init__" qual (defArgs st) (defBody st) (defScope st) .none kV doc pm an cdv ct) ⟨us, []⟩ = pure (ps.zip us)) :
    ∀ P w base, (Gx.mk P w K mg base).RawI x C qual st ps := fun P w base =>
  have F := fun_mk (st := st) l c k
  ⟨f, _, F, F.binds b, ⟨mk, a, i, kc⟩, PySem.W.mg_of X G aC⟩
theorem conI_mk (X : K.In h) (G : h.Ns mainGlobals mg) {i : Int} {t : Tok} (a : PySem.W.nsIn K mainGlobals x = some (some (.int i t))) : ∀ P w base, (Gx.mk P w K mg base).Con x (.int i) := fun P w base => ⟨_, PySem.W.mg_of X G a, t, rfl⟩
end
/-- the law's own promise -/
def spTrue (K : PySem.W.Frag) : Sp := fun vs H Q _ => ∃ (a : Addr) (ns : List Int), vs = [.ref a] ∧ SqL K H a (ns.map V.int) ∧ ns.length ≤ 63 ∧ ∀ H', Q (.bl true) H'
/-- the law's def as it stands at the top -/
def LawRaw (K : PySem.W.Frag) (mg : Str → Option Value) (st : Stmt) (x n : Str) : Prop := ∃ f fd, Fun K n n st f fd ∧ (∀ (s : Shared) (u : Value), BindsTo s fd ⟨[u], []⟩ [(x, u)]) ∧ mg n = some (.ref f)
theorem lawRaw_mk {K : PySem.W.Frag} {h : Heap} {mg : Str → Option Value} {f : Addr} {x n : Str} {st : Stmt} {oc kV dc pm cd ct : Value} {od an : Option Addr} {sl : Array (Option Value)} (X : K.In h) (G : h.Ns mainGlobals mg)
    (a : PySem.W.nsIn K mainGlobals n = some (some (.ref f))) (l : K.lookup f = some ⟨oc, od, .func (PySem.W.fnOf n n (defArgs st) (defBody st) (defScope st) .none kV dc pm an cd ct), sl⟩) (c : PySem.W.codeIn K cd n = true) (k : PySem.W.keepIn K (.ref f) = true)
    (b : ∀ (kV doc pm : Value) (an : Option Addr) (cdv ct : Value) (s : Shared) (u : Value), BindsTo s (PySem.W.fnOf n n (defArgs st) (defBody st) (defScope st) .none kV doc pm an cdv ct) ⟨[u], []⟩ [(x, u)]) : LawRaw K mg st x n :=
  ⟨f, _, fun_mk (st := st) l c k, b kV dc pm an cd ct, PySem.W.mg_of X G a⟩
/-- from the law's body to the claim -/
theorem walk_gx {l : PySem.W.OpenLaw} {q : Program} {loose : List Str} {XP : (Str → Option Value) → Heap → Prop} {YP : World → Heap → Prop} {d : DefRec} {K : Params → PySem.W.Frag} (k : Nat) (x : Str) (st : Stmt) (N : List Str) (hn : l.most = some 63) (hdf : d.params.defaults = []) (hk : Room (k + 1) callerA) (S : FnScope N [x] (defScope st))
    (hY : ∀ (w : World) (h : Heap), YP w h → (K w.params).In h)
    (F : ∀ (w : World) (mg : Str → Option Value) (h : Heap), (K w.params).In h → h.Ns mainGlobals mg → LawRaw (K w.params) mg st x d.name ∧ ∀ base, Body (Gx.mk l.prog w (K w.params) mg base) k N d.name st (spTrue (K w.params))) :
    PySem.W.WalkO q loose XP YP l.row.toRowW d [] (fun f vs => PySem.call f vs) := by
  refine L2.walk_of (n := 63) (k := k + 1) (x := x) (CX := fun _ => CX0) (sp := fun w => spTrue (K w.params)) hn (by decide) hdf hk hY (fun w mg fa h KX G hmg => ?_) (fun _ _ a ns hl _ hS => ⟨a, ns, rfl, hS, hl, fun _ => rfl⟩) fun _ _ _ _ _ z => z
  obtain ⟨⟨f, fd, Fu, hb, hm⟩, B⟩ := F w mg h KX G
  have e := hmg.symm.trans hm
  cases e
  exact ⟨fd, hb, fun base _ _ => Fu.ok S (fun vs H Q E h => by obtain ⟨a, ns, rfl, _⟩ := h; rfl) fun cdv A outer s H vs Q E hr h => B base fa cdv A outer s H vs Q E hr h⟩
end L2
namespace L2
open PySem PySem.Spec PyProof.Rows
section
variable {X : Cx}
/-- a number's bits, by a power above it -/
theorem bits_lt {a : Int} {m : Nat} (h : a.natAbs < 2 ^ m) : Builtin.Int.intBits a ≤ m := by
  unfold Builtin.Int.intBits
  split
  · omega
  · rename_i h0
    have h0 : a.natAbs ≠ 0 := by simpa using h0
    have := (Nat.log2_lt h0).mpr h
    omega
/-- a product whose bits are told -/
def CMulB (i j : Int) : Prop := ∃ m n : Nat, i.natAbs < 2 ^ m ∧ j.natAbs < 2 ^ n ∧ m + n ≤ 100000000
theorem CMulB.ok {i j : Int} (h : CMulB i j) : IntMulOk i j := by
  obtain ⟨m, n, h1, h2, h3⟩ := h
  exact IntMulOk.of_le (bits_lt h1) (bits_lt h2) (by omega)
def CDivL (i j : Int) : Prop := 0 < j ∧ j.natAbs < 2 ^ 9000
theorem op_fdivL : OpR X (binaryOp .FloorDiv) (rI CDivL fun i j => .int (i / j)) := opI fun i j _ _ _ _ _ hc q => by
  have h1 : (0 : Int) < j := hc.1
  have h2 := hc.2
  have h3 : j.natAbs ≠ 0 := by omega
  exact floordiv_int (by omega) (by rw [Int.fdiv_eq_ediv_of_nonneg i (by omega)]; exact q) (.inl (PyProof.noPylong_of_log2 ((Nat.log2_lt h3).mpr h2)))
theorem small_div {j : Int} (h : 0 < j) (h2 : j < 1073741824) {i : Int} : CDivL i j := ⟨h, Nat.lt_of_lt_of_le (show j.natAbs < 2 ^ 30 by omega) (Nat.pow_le_pow_right (by decide) (by decide))⟩
end
end L2
namespace L2
open PySem PySem.Spec PyProof.Rows
theorem cxOf_K {CX : CXT} {P : Program} {w : World} {K : PySem.W.Frag} {mg : Str → Option Value} {base : Heap} {N : List Str} {qual : Str} {scope : Scope} {f : Addr} {cd : Value} {A : Around} {outer : List Env} {s : Shared} {H : Hp} {E : XK} :
    (cxOf CX P w K mg base N qual scope f cd A outer s H E).K = K := rfl
theorem nox_K {X : Cx} : X.nox.K = X.K := rfl
/-! loops, said of the reading itself -/
section
variable {g : TG} {tb : TS} {D : Ends} {σ : St} {H : Hp}
end
end L2
namespace L2
open PySem PySem.Spec PyProof.Rows
section
variable {X : Cx}
end
/-! ### enumerate over a list -/
/-- what enumerate yields: pairs of a place and a thing, each a new tuple -/
def Ite (G : Hp → List V → Prop) : It :=
  ⟨fun i H => ∃ xs x, G H xs ∧ xs[i]? = some x, fun i H v H' => ∃ T, v = .ref T ∧ H T = none ∧ ∀ xs x, G H xs → xs[i]? = some x → H' = upd H T (.tup [.int i, x]), fun i H => ∃ xs, G H xs ∧ xs.length ≤ i⟩
section
variable {X : Cx} {elts : List Expr} {kk : Nat} {tpos : Pos}
def iEnumL (K : PySem.W.Frag) (ta : TA) : TI := fun σ H R => ta σ H fun vs H1 => ∃ a xs, vs = [.ref a] ∧ SqL K H1 a xs ∧ R (Ite fun H xs => SqL K H a xs) H1
end
end L2
namespace L2
open PySem PySem.Spec PyProof.Rows
/-! ### == and != of data of any depth -/
mutual
/-- the data that a value of the heap stands for -/
inductive Den (K : PySem.W.Frag) (H : Hp) : V → PyData → Prop
  | non : Den K H .non .none
  | bl (b : Bool) : Den K H (.bl b) (.bool b)
  | int (i : Int) : Den K H (.int i) (.int i)
  | str (x : Str) (h : PyData.strOk x = true) : Den K H (.str x) (.str x)
  | lst {a : Addr} {vs : List V} {ds : List PyData} : SqL K H a vs → Dens K H vs ds → Den K H (.ref a) (.list ds)
  | tup {a : Addr} {vs : List V} {ds : List PyData} : SqT K H a vs → Dens K H vs ds → Den K H (.ref a) (.tuple ds)
inductive Dens (K : PySem.W.Frag) (H : Hp) : List V → List PyData → Prop
  | nil : Dens K H [] []
  | cons {v : V} {d : PyData} {vs : List V} {ds : List PyData} : Den K H v d → Dens K H vs ds → Dens K H (v :: vs) (d :: ds)
end
mutual
theorem Den.keep {K : PySem.W.Frag} {H H' : Hp} (e : Same H H') : ∀ {v : V} {d : PyData}, Den K H v d → Den K H' v d
  | _, _, .non => .non
  | _, _, .bl b => .bl b
  | _, _, .int i => .int i
  | _, _, .str x h => .str x h
  | _, _, .lst h hs => .lst (e.seq h) (hs.keep e)
  | _, _, .tup h hs => .tup (e.tup h) (hs.keep e)
theorem Dens.keep {K : PySem.W.Frag} {H H' : Hp} (e : Same H H') : ∀ {vs : List V} {ds : List PyData}, Dens K H vs ds → Dens K H' vs ds
  | _, _, .nil => .nil
  | _, _, .cons h hs => .cons (h.keep e) (hs.keep e)
end
mutual
theorem Den.lay {K : PySem.W.Frag} {H : Hp} : ∀ {v : V} {d : PyData}, Den K H v d → d.canLay0 = true
  | _, _, .non => rfl
  | _, _, .bl b => rfl
  | _, _, .int i => rfl
  | _, _, .str x h => by simpa [PyData.canLay0] using h
  | _, _, .lst _ hs => by rw [PyData.canLay0]; exact hs.lay
  | _, _, .tup _ hs => by rw [PyData.canLay0]; exact hs.lay
theorem Dens.lay {K : PySem.W.Frag} {H : Hp} : ∀ {vs : List V} {ds : List PyData}, Dens K H vs ds → PyData.canLayAll0 ds = true
  | _, _, .nil => rfl
  | _, _, .cons h hs => by rw [PyData.canLayAll0, h.lay, hs.lay]; rfl
end
section
variable {X : Cx}
mutual
theorem Den.reads {pins : List (Addr × Obj)} {σ : St} {H : Hp} {s : Shared} (I : Inv X pins σ H s) : ∀ {v : V} {d : PyData} {u : Value}, Den X.K H v d → RelV v u → ∃ as, Reads s.heap u d as
  | _, _, u, .non, r => by cases (show u = .none from r); exact ⟨_, .none⟩
  | _, _, u, .bl b, r => by cases (show u = .bool b from r); exact ⟨_, .bool b⟩
  | _, _, u, .int i, r => by obtain ⟨t, rfl⟩ := r; exact ⟨_, .int i t⟩
  | _, _, u, .str x h, r => by obtain ⟨t, rfl⟩ := r; exact ⟨_, .str x t⟩
  | _, _, u, .lst (a := a) h hs, r => by
    cases (show u = .ref a from r)
    obtain ⟨its, rv, pl, hz⟩ := I.list h
    obtain ⟨as, ra⟩ := hs.reads I rv
    obtain ⟨o, e1, e2, n, e3⟩ := pl.isList
    exact ⟨_, .list e1 e2 e3 (by simpa using ra)⟩
  | _, _, u, .tup (a := a) h hs, r => by
    cases (show u = .ref a from r)
    obtain ⟨its, rv, pl, hz⟩ := I.tuple h
    obtain ⟨as, ra⟩ := hs.reads I rv
    obtain ⟨o, e1, e2, n, e3⟩ := (show s.heap.IsTuple a its.toArray from pl)
    exact ⟨_, .tuple e1 e2 e3 (by simpa using ra)⟩
theorem Dens.reads {pins : List (Addr × Obj)} {σ : St} {H : Hp} {s : Shared} (I : Inv X pins σ H s) : ∀ {vs : List V} {ds : List PyData} {us : List Value}, Dens X.K H vs ds → Vals vs us → ∃ as, ReadsAll s.heap us ds as
  | _, _, us, .nil, r => by cases r; exact ⟨_, .nil⟩
  | _, _, us, .cons h hs, r => by
    cases r with
    | cons r rr =>
      obtain ⟨as, ra⟩ := h.reads I r
      obtain ⟨bs, rb⟩ := hs.reads I rr
      exact ⟨_, .cons ra rb⟩
end
theorem op_eqD (hu : X.A.units + 64 < cLine) : OpR X (compareOp .Eq) (fun x y H Q => ∃ d e, Den X.K H x d ∧ Den X.K H y e ∧ d.depth ≤ 64 ∧ Q (.bl (PyData.eqv d e)) H) := by
  intro pins s σ H x y v u Q I rx ry h
  obtain ⟨d, e, hd, he, dp, q⟩ := h
  obtain ⟨as, ra⟩ := hd.reads I rx
  obtain ⟨bs, rb⟩ := he.reads I ry
  exact SeqAt.rcAt_reads ra rb hd.lay he.lay (by omega) _ _ _ _ ⟨.bl _, H, I, rfl, q⟩
end
theorem eqv_ints : ∀ (ns ms : List Int), PyData.eqvAll (ns.map PyData.int) (ms.map PyData.int) = decide (ns = ms)
  | [], [] => by simp [PyData.eqvAll]
  | [], m :: ms => by simp [PyData.eqvAll]
  | n :: ns, [] => by simp [PyData.eqvAll]
  | n :: ns, m :: ms => by
    rw [List.map_cons, List.map_cons, PyData.eqvAll, eqv_ints ns ms, PyData.eqv]
    by_cases h : n = m <;> by_cases h2 : ns = ms <;> simp [h, h2]
theorem depth_ints : ∀ ns : List Int, PyData.depthAll (ns.map PyData.int) ≤ 1
  | [] => by simp [PyData.depthAll]
  | n :: ns => by
    have := depth_ints ns
    rw [List.map_cons, PyData.depthAll, PyData.depth]
    omega
/-! ### comprehensions -/
theorem take_snoc {α : Type} {l : List α} {i : Nat} {x : α} (h : l[i]? = some x) : l.take (i + 1) = l.take i ++ [x] := by
  obtain ⟨hi, hc⟩ := List.getElem?_eq_some_iff.mp h
  rw [List.take_succ_eq_append_getElem hi, hc]
theorem lc_map {J : It} {P : Hp → Prop} {xs : List V} (hJ : ItSeq J P xs) {src : List (Option Nat)} {te : TE} {σ : St} {H1 : Hp} {Q : VK} {D : Addr} (ys : List V) (hP : ∀ H', Same H1 H' → P H') (hD : H1 D = none) (hl : ys.length = xs.length) (hlen : xs.length ≤ 100000)
    (step : ∀ (i : Nat) x y H', xs[i]? = some x → ys[i]? = some y → Same H1 H' → ∀ R : VK, (∀ H'', Same H' H'' → R y H'') → te (some x :: capSt src σ) H' R)
    (fin : ∀ H', Same H1 H' → H' D = some (.lst ys) → Q (.ref D) H') : LC (none :: src) J (gName 0) tYes te σ H1 Q D := by
  have h6 : 100000 < sizeLine := by decide
  refine lc_on hJ (fun i zs σ' H' => zs = ys.take i ∧ (∃ o, σ' = o :: capSt src σ) ∧ Same H1 H' ∧ H' D = some (.lst zs)) ⟨by simp, ⟨none, rfl⟩, .upd_new hD _, upd_same⟩ (fun i zs σ' H' p => ⟨hP _ p.2.2.1, p.2.2.2⟩) (gName_mono 0) ?_ ?_
  · rintro i zs σ' H' x hx ⟨rfl, ⟨o, rfl⟩, sm, hd⟩
    have hi := (List.getElem?_eq_some_iff.mp hx).1
    have hy : ys[i]? = some (ys[i]'(by omega)) := List.getElem?_eq_getElem _
    show te (some x :: capSt src σ) H' _
    refine step i x _ H' hx hy sm _ fun H'' s2 => ⟨s2 _ _ hd, ?_, (take_snoc hy).symm, ⟨_, rfl⟩, .upd_over hD (sm.trans s2) _, upd_same⟩
    rw [List.length_take]; omega
  · rintro zs σ' H' ⟨rfl, _, sm, hd⟩
    rw [← hl, List.take_length] at hd
    exact fin H' sm hd
theorem gTup2_mono' (K : PySem.W.Frag) (i j : Nat) : ∀ x σ H Q Q', (∀ σ' H', Q σ' H' → Q' σ' H') → gTup K 2 (gCons (gName i) (gCons (gName j) gNil)) x σ H Q → gTup K 2 (gCons (gName i) (gCons (gName j) gNil)) x σ H Q' := by
  rintro x σ H Q Q' h ⟨a, xs, e, sq, l, v, r, e1, v2, r2, e2, e3, q⟩
  exact ⟨a, xs, e, sq, l, v, r, e1, v2, r2, e2, e3, h _ _ q⟩
end L2
namespace L2
open PySem PySem.Spec PyProof.Rows
/-! a block cut behind its first statements -/
section
variable {a b c d e r : TS} {D : Ends} {σ : St} {H : Hp} (M : St → Hp → Prop) (h1 : ∀ σ H, M σ H → r D σ H)
include h1
theorem cut1 (h2 : ∀ N : St → Hp → Prop, (∀ σ H, M σ H → N σ H) → a { D with nx := N } σ H) : tSeq a r D σ H := h2 (r D) h1
theorem cut2 (h2 : ∀ N : St → Hp → Prop, (∀ σ H, M σ H → N σ H) → tSeq a b { D with nx := N } σ H) : tSeq a (tSeq b r) D σ H := h2 (r D) h1
end
theorem scal_ii (i j : Int) : scal (.int i) (.int j) = true := rfl
theorem scal_ss (i j : Str) : scal (.str i) (.str j) = true := rfl
theorem cut_list {α : Type} (xs : List α) (i j : Nat) : (xs.drop (min i xs.length)).take (min j xs.length - min i xs.length) = (xs.drop i).take (j - i) := by
  by_cases hi : i ≤ xs.length
  · rw [Nat.min_eq_left hi]
    by_cases hj : j ≤ xs.length
    · rw [Nat.min_eq_left hj]
    · rw [Nat.min_eq_right (by omega), List.take_of_length_le (by rw [List.length_drop]; omega), List.take_of_length_le (by rw [List.length_drop]; omega)]
  · rw [List.drop_of_length_le (by omega), List.drop_of_length_le (show xs.length ≤ i by omega)]
    simp
theorem cutV_nn (xs : List V) (i j : Nat) : cutV xs (some (i : Int)) (some (j : Int)) = (xs.drop i).take (j - i) := by
  unfold cutV
  rw [HT.sIx_nat, HT.sIx_nat]
  exact cut_list xs i j
end L2
namespace L2
open PySem PySem.Spec PyProof.Rows
section
variable {X : Cx} {tg : Expr}
def CPowB (i j : Int) : Prop := 0 ≤ j ∧ ∃ m : Nat, i.natAbs < 2 ^ m ∧ (m : Int) * j ≤ 2 ^ 27
/-- hi, hi - 1, .. (n of them) -/
def Itd (hi : Int) (n : Nat) : It := ⟨fun i _ => i < n, fun i H x H' => H' = H ∧ x = .int (hi - i), fun i _ => n ≤ i⟩
def iRngD (ta : TA) : TI := fun σ H R => ta σ H fun vs H1 => ∃ i j : Int, vs = [.int i, .int j, .int (-1)] ∧ (-(2 ^ 62) ≤ i ∧ i < 2 ^ 62 ∧ -(2 ^ 62) ≤ j ∧ j < 2 ^ 62) ∧ R (Itd i (i - j).toNat) H1
end
end L2
namespace L2
open PySem PySem.Spec PyProof.Rows
end L2
namespace L2
open PySem PySem.Spec PyProof.Rows
section
variable {src : List (Option Nat)} {te : TE} {σ : St} {H : Hp} {Q : VK}
/-- a comprehension over a list that is made on the spot -/
theorem tLC_listN {K : PySem.W.Frag} {tl : TE} {xs : List V} (ys : List V) (ha : ∀ R : V → Hp → Prop, (∀ a H1, Same H H1 → SqL K H1 a xs → R (.ref a) H1) → tl σ H R) (hl : ys.length = xs.length) (hlen : xs.length ≤ 100000)
    (step : ∀ (i : Nat) x y H', xs[i]? = some x → ys[i]? = some y → Same H H' → ∀ R : VK, (∀ H'', Same H' H'' → R y H'') → te (some x :: capSt src σ) H' R)
    (fin : ∀ D H', H D = none → Same H H' → H' D = some (.lst ys) → Q (.ref D) H') : tLC (none :: src) (iList K tl) (gName 0) tYes te σ H Q :=
  ha _ fun a H1 s1 hS => ⟨a, rfl, ⟨xs, hS⟩, fun D hD => lc_map (itseq_list.imp fun H' (e : Same H1 H') => e.seq hS) ys (fun _ e => e) hD hl hlen (fun i x y H' hx hy sm R r => step i x y H' hx hy (s1.trans sm) R r) fun H' sm => fin D H' (s1.free hD) (s1.trans sm)⟩
end
end L2
namespace L2
open PySem PySem.Spec PyProof.Rows
section
variable {src : List (Option Nat)} {te : TE} {σ : St} {H : Hp} {Q : VK}
end
/-! the same within a comprehension, whose own block says the text's objects in its own words -/
section
variable {X : Cx} {K : PySem.W.Frag}
end
end L2
namespace L2
open PySem PySem.Spec PyProof.Rows
section
variable {tb : TS} {D : Ends} {σ : St} {H : Hp}
end
end L2
namespace L2
open PySem PySem.Spec PyProof.Rows
section
variable {X : Cx} {e st : Expr} {te ts : TE} {pos p2 : Pos}
/-- xs[::-1] of a list: a new list -/
def tRev (K : PySem.W.Frag) (te ts : TE) : TE := fun σ H Q => te σ H fun x H1 => ts σ H1 fun y H2 => y = .int (-1) ∧ ∃ a xs, x = .ref a ∧ SqL K H2 a xs ∧ ∀ p, H2 p = none → Q (.ref p) (upd H2 p (.lst xs.reverse))
end
end L2
namespace L2
open PySem PySem.Spec PyProof.Rows
section
variable {X : Cx} {pos : Pos}
def rBits : V → List V → Hp → VK → Prop := fun x vs H Q => ∃ i, x = .int i ∧ vs = [] ∧ Q (.int (Builtin.Int.intBits i : Nat)) H
def rFind : V → List V → Hp → VK → Prop := fun x vs H Q => ∃ (z y : Str), x = .str z ∧ vs = [.str y] ∧ Q (.int (Txt.find z y)) H
def tDict0 : TE := fun _ H Q => ∀ p, H p = none → Q (.ref p) (upd H p (.dK []))
end
/-- a tuple of texts of the module's top -/
def Gx.ConT (g : Gx) (x : Str) (xs : List V) : Prop := ∃ c, g.mg x = some (.ref c) ∧ ∀ H, SqT g.K H c xs
theorem conT_mk {K : PySem.W.Frag} {h : Heap} {mg : Str → Option Value} {x : Str} {i : Addr} {dc : Option Addr} {its : Array Value} {n : Nat} {sl : Array (Option Value)} {xs : List V} (X : K.In h) (G : h.Ns mainGlobals mg)
    (a : PySem.W.nsIn K mainGlobals x = some (some (.ref i))) (l : K.lookup i = some ⟨.type "tuple", dc, .seq its n, sl⟩) (hz : its.size ≤ sizeLine) (r : Vals xs its.toList) : ∀ P w base, (Gx.mk P w K mg base).ConT x xs :=
  fun P w base => ⟨i, PySem.W.mg_of X G a, fun H => .inr ⟨_, its, n, l, rfl, rfl, hz, r⟩⟩
section
variable {X : Cx} {g : Gx} {x : Str} {pos : Pos}
def tConT (K : PySem.W.Frag) (xs : List V) : TE := fun _ H Q => ∀ c, SqT K H c xs → Q (.ref c) H
theorem pe_gt {xs : List V} (F : g.ConT x xs) (hX : X.gx = g := by rfl) (hg : Gl X x := by rfl) (hd : (x == ("__debug__" : Str)) = false := by decide) : PE X (.Name x pos) (tConT g.K xs) := by
  subst hX
  obtain ⟨c, e, hc⟩ := F
  exact fun pins s σ H Q I h => pe_glob hg e (show RelV (.ref c) (.ref c) from rfl) hd pins s σ H Q I (h c (hc H))
end
end L2
namespace L2
open PySem PySem.Spec PyProof.Rows
theorem iteN {c A B : Prop} [Decidable c] (h : ¬ c) (hb : B) : if c then A else B := by rw [if_neg h]; exact hb
theorem iteY {c A B : Prop} [Decidable c] (h : c) (ha : A) : if c then A else B := by rw [if_pos h]; exact ha
section
variable {src : List (Option Nat)} {te : TE} {σ : St} {H : Hp} {Q : VK}
theorem tLC_str {tl : TE} {l : List Nat} (ys : List V) (ha : ∀ R : V → Hp → Prop, R (.str (S l)) H → tl σ H R) (hl : ys.length = l.length) (hlen : l.length ≤ 100000)
    (step : ∀ (i c : Nat) y H', l[i]? = some c → ys[i]? = some y → Same H H' → ∀ R : VK, (∀ H'', Same H' H'' → R y H'') → te (some (.str (S [c])) :: capSt src σ) H' R)
    (fin : ∀ D H', H D = none → Same H H' → H' D = some (.lst ys) → Q (.ref D) H') : tLC (none :: src) (iStr tl) (gName 0) tYes te σ H Q :=
  ha _ ⟨S l, rfl, fun D hD => lc_map (itseq_str (S l) (fun _ => True)) ys (fun _ _ => trivial) hD (by rw [S_list]; simpa using hl) (by rw [S_list]; simpa using hlen) (fun i x y H' hx hy sm R r => by
    rw [S_list, List.getElem?_map] at hx
    cases e : l[i]? with
    | none => rw [e] at hx; cases hx
    | some c =>
      rw [e] at hx
      have : V.str ⟨#[c]⟩ = x := Option.some.inj hx
      subst this
      exact step i c y H' e hy sm R r) fun H' => fin D H' hD⟩
end
section
variable {X : Cx} {K : PySem.W.Frag} {o e : Expr} {es : List Expr} {to : TE} {t : TA} {name : Str} {apos cpos : Pos} {T id : String} {r : V → List V → Hp → VK → Prop}
end
section
variable {X : Cx}
def CMulC (i j : Int) : Prop := CMulB i j ∨ CMul i j
theorem op_mulC : OpR X (binaryOp .Mult) (rI CMulC fun i j => .int (i * j)) := opI fun _ _ _ _ _ _ _ hc q => mul_int q (hc.elim (fun h => h.ok) fun h => h.ok)
end
end L2
namespace L2
open PySem PySem.Spec PyProof.Rows
abbrev IsZipF (h : Heap) (z TI TO : Addr) (f0 : Value) (f1 : Bool) : Prop :=
  h.get? z = some { cls := .type "zip", dict := none, data := .fields #[f0, .bool f1, .bool false, .ref TI, .ref TO], slots := #[] }
section
variable {prog : Program} {w : World} {A : Around} {E : Value → Shared → Prop} {s : Shared} {z TI TO i1 i2 T : Addr} {S1 S2 : Nat → Heap → Prop} {R1 R2 : Heap → (Nat → Option Value) → Prop} {g1 g2 : Nat → Option Value} {k : Nat} {a b : Value} {f : Bool} {oT : Obj}
end
/-! list(zip(a, b)) of two tuples of one length -/
section
variable {prog : Program} {w : World} {A : Around} {s : Shared} {R : Result → Shared → Prop} {z TI TO i1 i2 S p1 p2 : Addr} {xs ys : List Value}
/-- the zip as it stands at turn i -/
def ZSt (h : Heap) (z TI TO i1 i2 p1 p2 : Addr) (i : Nat) (as : List Addr) : Prop :=
  IsPair h TI (.ref i1) (.ref i2) ∧ h.IsTupleIter i1 p1 i ∧ h.IsTupleIter i2 p2 i ∧ ((i = 0 ∧ IsZip h z TI TO .none ∧ ∃ a b, IsPair h TO a b) ∨ ∃ T f, T ∈ as ∧ IsZipF h z TI TO (rawInt T) f)
end
end L2
namespace L2
open PySem PySem.Calls PySem.Spec PyProof.Rows PyProof.V
section
variable {prog : Program} {w : World} {A : Around} {E : Value → Shared → Prop} {s : Shared} {z TI TO i1 i2 p1 p2 : Addr} {xs ys : List Value}
/-- what the list has at the end -/
structure ZGot (xs ys : List Value) (lo : Nat) (h : Heap) (as : List Addr) : Prop where
  len : as.length = xs.length
  rise : as.Pairwise (· < ·)
  above : ∀ a ∈ as, lo ≤ a
  pairs : ∀ (j : Nat) a x y, as[j]? = some a → xs[j]? = some x → ys[j]? = some y → IsPair h a x y
end
end L2
namespace L2
open PySem PySem.Spec PyProof.Rows
section
variable {X : Cx} {pins : List (Addr × Obj)} {σ : St} {H H' : Hp} {s : Shared} {h' : Heap}
end
section
variable {X : Cx}
/-- list(zip(a, b)) of two tuples of one length -/
def tLZ (K : PySem.W.Frag) (ta : TA) : TE := fun σ H Q => ta σ H fun vs H1 => ∃ a b xs ys, vs = [.ref a, .ref b] ∧ SqT K H1 a xs ∧ SqT K H1 b ys ∧ xs.length = ys.length ∧
  ∀ (l : Addr) (as : List Addr) (H2 : Hp), H1 l = none → Same H1 H2 → H2 l = some (.lst (as.map V.ref)) → as.length = xs.length →
    (∀ (j : Nat) a x y, as[j]? = some a → xs[j]? = some x → ys[j]? = some y → H1 a = none ∧ H2 a = some (.tup [x, y])) → Q (.ref l) H2
end
end L2
namespace L2
open PySem PySem.Spec PyProof.Rows
section
variable {src : List (Option Nat)} {te : TE} {σ : St} {H : Hp} {Q : VK}
end
end L2
namespace L2
open PySem PySem.Spec PyProof.Rows
section
variable {X : Cx}
/-- name = [.. for ..]: stored ahead of the letting go of the block's own names -/
theorem ps_setC {i : Nat} {x : Str} {pos' apos : Pos} {elt tg iter : Expr} {ifs : List Expr} {scope : Scope} {pos : Pos} {src : List (Option Nat)} {N' : List Str} {wi : TI} {g : TG} {tt : TT} {te : TE} (hN : X.N.Nodup) (hix : X.N[i]? = some x) (hlx : Loc X.env.scope x) (hcap : Cap X scope src N') (hc : X.calm = true) (hi : PI X tg iter wi)
    (hg : ∀ cl C s₀ H₀ fp pn, PG (cxC X scope N' cl C s₀ H₀ fp pn) tg g) (ht : ∀ cl C s₀ H₀ fp pn, PTs (cxC X scope N' cl C s₀ H₀ fp pn) ifs tt) (he : ∀ cl C s₀ H₀ fp pn, PE (cxC X scope N' cl C s₀ H₀ fp pn) elt te)
    (hfree : ∀ x, (x, NameKind.free) ∈ scope.names → X.env.scope.names.lookup x = some NameKind.cell ∨ X.env.scope.names.lookup x = some NameKind.free)
    (hk : scope.kind = .function := by rfl) (hcell : ∀ y ∈ scope.names, y.2 ≠ .cell := by decide) (hnames : ∀ y ∈ scope.names, y.2 = .local → scope.names.lookup y.1 = some .local := by decide +kernel)
    (hs : ∀ x, foldedSetIterable iter X.env x = pure x := by intro _; rfl) (hsw : swapsWithSole [.Name x pos'] (.ListComp elt [⟨tg, iter, ifs, 0⟩] scope pos) apos.line X.env = pure true := by rfl) (hf : X.fn x = true ∨ X.env.scope.names.lookup x = some .local := by first | exact .inl rfl | exact .inr rfl | assumption) :
    PS X (.Assign [.Name x pos'] (.ListComp elt [⟨tg, iter, ifs, 0⟩] scope pos) apos) (tAsg (tLC src wi g tt te) (gName i)) := by
  intro pins s σ H D0 I h
  have no : ∀ {E : Value → Shared → Prop}, ∀ (e : Value) (s' : Shared), False → E e s' := fun _ _ f => f.elim
  obtain ⟨cl, hcl, a, b⟩ := closure_ok X.env scope fun x hx => I.ok.has x (hfree x hx)
  rw [exec_Assign_arm]
  refine wpAny_bind (wpAny_standAt ?_)
  rw [hsw]
  refine wpAny_bind (wpAny_pure ?_)
  rw [if_pos rfl]
  refine wpAny_bind ?_
  rw [arm_evalThenUse_ListComp]
  refine wpAny_bind ?_
  refine wpAny_comprehension_free (use := some _) rfl hs hcl hk hnames (thn (hi pins s σ H _ I h) fun v s1 h1 => thn h1 fun itv s2 h2 => ?_)
  obtain ⟨it, fp, tn, J, H2, e, I2, T, st2, f2, q⟩ := h2
  subst e
  have hD : H2 s2.heap.objs.size = none := I2.hok.fresh (Nat.le_refl _)
  obtain ⟨W, ⟨m0, w0⟩, turn⟩ := q s2.heap.objs.size hD
  have I3 := I2.lnew (t' := s2.toks) (ys := []) (its := []) .nil (Nat.zero_le _)
  have fl2 : ∀ b ∈ fp, b < s2.heap.objs.size := fun b hb => by
    obtain ⟨o, e, _⟩ := T.obj _ _ st2 b hb
    exact Heap.lt_size e
  refine wpAny_newObj_type ?_
  generalize es3 : ({ s2 with heap := s2.heap.push { cls := .type "list", dict := none, data := .seq ([] : List Value).toArray } } : Shared) = s3
  have I3' : Inv X pins σ (upd H2 s2.heap.objs.size (.lst [])) s3 := es3 ▸ I3
  have keep3 : ∀ b o, s2.heap.get? b = some o → s3.heap.get? b = some o := fun b o e => by rw [← es3]; exact Heap.get?_push_of_some _ e
  have st3 : tn 0 s3.heap := T.keep _ _ _ st2 fun b _ o e => keep3 b o e
  have fl3 : ∀ b ∈ fp, b < s3.heap.objs.size := fun b hb => by
    obtain ⟨o, e, _⟩ := T.obj _ _ st3 b hb
    exact Heap.lt_size e
  have f3 : ∀ b ∈ fp, FpOk X pins (upd H2 s2.heap.objs.size (.lst [])) b := fun b hb => ⟨by rw [upd_ne (Nat.ne_of_lt (fl2 b hb))]; exact (f2 b hb).1, (f2 b hb).2⟩
  generalize eD : s2.heap.objs.size = D at *
  generalize eH3 : upd H2 D (.lst []) = H3 at *
  refine wpAny_newFunctionEnv hcell (by intro y hy; simp at hy) (fun h₁ hns₁ hsb₁ => ?_) hk
  have keep4 : ∀ b o, s3.heap.get? b = some o → h₁.get? b = some o := fun b o e => hsb₁.extBut b o (Nat.ne_of_lt (Heap.lt_size e)) (Heap.get?_push_of_some _ e)
  have I4 := inv_comp (N' := N') (src := src) (tk := s3.toks + ([] : List (Str × Value)).length) hk hcell hcap a b I3' f3 fl3 rfl keep4 hns₁
  -- the iterator's objects, through the block
  have stat : ∀ {H' : Hp}, (∀ b ∈ fp, H' b = none) → ∀ b ∈ fp, FpOk (cxC X scope N' cl s3.heap.objs.size s3 H3 fp (X.pn ++ pins)) [] H' b := fun hn b' hb => by
    obtain ⟨f0, f1, fs, fe, f4, f5⟩ := f3 b' hb
    refine ⟨hn b' hb, Nat.ne_of_lt (fl3 b' hb), fun z => ?_, .inl hb, fun x c h => f4 x c (a x c h), fun p hp => f5 p (by simpa [cxC] using hp)⟩
    rcases List.mem_cons.mp (I3'.stkSub b' z) with e | e
    · exact f1 e
    · exact fs e
  -- behind the block
  have fin : ∀ {H' : Hp} {s' : Shared} {σ' : St} {pins' : List (Addr × Obj)}, Inv (cxC X scope N' cl s3.heap.objs.size s3 H3 fp (X.pn ++ pins)) pins' σ' H' s' → ∀ h', Heap.SameBut s3.heap.objs.size s'.heap h' → Inv X pins σ H' { s' with heap := h' } := fun {H' s' σ' pins'} J' h' sb => by
    have same : ∀ b o, b ≠ s3.heap.objs.size → s'.heap.get? b = some o → h'.get? b = some o := fun b o hb e => sb.extBut b o hb e
    have u : Un (frs X.stack) fp H3 H' s3.heap s'.heap := J'.base
    refine I3'.call' (s' := { s' with heap := h' }) (ch := fp) J'.os ⟨fun b o e n hb hx => ?_, fun b o e n hb hx => ?_, u.free, fun b o e hx => ?_, u.tups, u.frzs, u.tbls⟩ (fun b o e => ?_) J'.bare fun b hb => ?_
    · exact same b o (Nat.ne_of_lt (Heap.lt_size e)) (u.keep b o e n hb hx)
    · obtain ⟨sl, z⟩ := u.slot b o e n hb hx
      exact ⟨sl, same b _ (Nat.ne_of_lt (Heap.lt_size e)) z⟩
    · obtain ⟨o', z⟩ := u.there b o e hx
      exact ⟨o', same b o' (Nat.ne_of_lt (Heap.lt_size e)) z⟩
    · have nC : ∀ c v, H' c = some v → c ≠ s3.heap.objs.size := fun c v z q => by
        have := J'.free
        rw [show (cxC X scope N' cl s3.heap.objs.size s3 H3 fp (X.pn ++ pins)).env.locals = s3.heap.objs.size from rfl, ← q, z] at this
        cases this
      refine (J'.hok b o e).stay (fun c v hc q => same c v ?_ q) (fun _ q => q) fun _ _ q => q
      rcases hc with z | z
      · rw [z]; exact nC b o e
      · exact nC c _ z
    · obtain ⟨f0, f1, fs, fe, f4, f5⟩ := f3 b hb
      exact ⟨fe, f1, f4, f5⟩
  have loop : codeAny (model X.prog X.w) X.A (.compLoop (.ListComp elt [⟨tg, iter, ifs, 0⟩] scope pos) 0 (.ref it) (.ref D) (compEnvC scope cl s3.heap.objs.size X.env))
      (compPost (model X.prog X.w) X.A X.xe (some fun v => assignAll v ((assignEach [.Name x pos'] X.env).map (·.2))) (fun _ s' => wpAny (model X.prog X.w) X.A (pure PUnit.unit) (fun _ s' => wpAny (model X.prog X.w) X.A (pure Flow.next) (SP X pins D0) X.xe s') X.xe s') (.ref D) s3.heap.objs.size) { s3 with heap := h₁, toks := s3.toks + ([] : List (Str × Value)).length } := by
    refine comp_loop (fun n s' => ∃ i ys σ' H', Inv (cxC X scope N' cl s3.heap.objs.size s3 H3 fp (X.pn ++ pins)) [] σ' H' s' ∧ tn i s'.heap ∧ (∀ b ∈ fp, H' b = none) ∧ W i n ys σ' H') ?_ m0 ⟨0, [], capSt src σ, H3, I4, T.keep _ _ _ st3 fun b _ o e => keep4 b o e, fun b hb => (f3 b hb).1, w0⟩
    rintro n s5 ⟨i, ys, σ5, H5, I5, st5, fr5, w5⟩
    obtain ⟨hDs, stop | go⟩ := turn i n ys σ5 H5 w5
    · obtain ⟨stop, qn⟩ := stop
      refine thn (T.done (cxC X scope N' cl s3.heap.objs.size s3 H3 fp (X.pn ++ pins)) rfl rfl rfl hc i [] s5 σ5 H5 _ I5 (stat fr5) st5 stop) fun r s6 ⟨hr, I6⟩ => ?_
      subst hr
      obtain ⟨m, hn, _⟩ := id I6.loc
      have IO : Inv X pins σ H5 s6 := fin I6 s6.heap (Heap.SameBut.refl _ _)
      have hCn : H5 s3.heap.objs.size = none := I6.free
      have hC : ∀ {H' : Hp}, H' s3.heap.objs.size = none → FpOk X pins H' s3.heap.objs.size := fun {H'} z => I3'.fpOk (Nat.le_refl _) z
      obtain ⟨oC, es, ep, hoC, rC⟩ := hn
      have IP := IO.pinned (fp := [s3.heap.objs.size]) (fun b hb => by rw [List.mem_singleton.mp hb]; exact hC hCn) (fun b hb => by rw [List.mem_singleton.mp hb]; exact ⟨oC, hoC, fun v z => by (rw [rC.1] at z; cases z)⟩)
      show wpAny _ _ (assign (.Name x pos') X.env (.ref D)) _ _ _
      refine thn (pg_name hN hix hlx hf _ s6 σ H5 (.ref D) (.ref D) _ IP rfl qn) fun _ s7 ⟨σ7, H7, I7, q7⟩ => ?_
      obtain ⟨g1, g2, _⟩ := I7.pin (s3.heap.objs.size, oC) (List.mem_append_right _ (List.mem_append_right _ (mem_pinsAt (List.mem_singleton.mpr rfl) hoC)))
      refine ⟨m, ⟨oC, es, ep, g1, rC⟩, fun h' sb => wpAny_pure (wpAny_pure ⟨σ7, H7, ?_, q7⟩)⟩
      exact I7.unpinned.turnedL (t' := s7.toks) (ch := [s3.heap.objs.size]) (fun b o hb e => sb.extBut b o (fun z => hb (by rw [z]; exact List.mem_singleton.mpr rfl)) e) (fun b hb => by rw [List.mem_singleton.mp hb]; exact hC g2)
    · obtain ⟨go, N, hN, step⟩ := go
      refine thn (T.item (cxC X scope N' cl s3.heap.objs.size s3 H3 fp (X.pn ++ pins)) rfl rfl rfl hc i [] s5 σ5 H5 _ I5 (stat fr5) st5 go) fun r s6 ⟨u, hr, h6⟩ => ?_
      subst hr
      refine thn h6 fun _ s7 ⟨x, H7, I7, r7, y7, st7, fr7⟩ => ?_
      have I7' := I7.pinned (stat fr7) (T.obj _ _ st7)
      have again : ∀ {s8 : Shared} {σ8 : St} {H8 : Hp} {ys' : List V}, Inv (cxC X scope N' cl s3.heap.objs.size s3 H3 fp (X.pn ++ pins)) ([] ++ pinsAt fp s7.heap) σ8 H8 s8 → (∃ m', m' < n ∧ W (i + 1) m' ys' σ8 H8) →
          ∃ m, m < n ∧ ∃ i ys σ' H', Inv (cxC X scope N' cl s3.heap.objs.size s3 H3 fp (X.pn ++ pins)) [] σ' H' s8 ∧ tn i s8.heap ∧ (∀ b ∈ fp, H' b = none) ∧ W i m ys σ' H' := fun {s8 σ8 H8 ys'} I8 ⟨m', hm, w8⟩ => by
        refine ⟨m', hm, i + 1, ys', σ8, H8, I8.unpinned, T.keep _ _ _ st7 fun b hb o e => (I8.pin (b, o) (List.mem_append_right _ (List.mem_append_right _ (mem_pinsAt hb e)))).1, fun b hb => ?_, w8⟩
        obtain ⟨o, e, d⟩ := T.obj _ _ st7 b hb
        exact (I8.pin (b, o) (List.mem_append_right _ (List.mem_append_right _ (mem_pinsAt hb e)))).2.1
      refine thn (hg cl _ s3 H3 fp _ _ s7 σ5 H7 x u _ I7' r7 (step x H7 y7)) fun _ s8 ⟨σ8, H8, I8, q8⟩ => ?_
      refine thn (ht cl _ s3 H3 fp _ _ s8 σ8 H8 _ I8 q8) fun ok s9 ⟨H9, I9, q9⟩ => ?_
      cases ok with
      | false => exact again I9 (hN _ _ _ q9)
      | true =>
        rw [if_pos rfl]
        refine thn (he cl _ s3 H3 fp _ _ s9 σ8 H9 _ I9 q9) fun y s10 ⟨yv, H10, I10, r10, q10⟩ => ?_
        obtain ⟨hDy, hlen, w10⟩ := q10
        refine thn (mt_append (X := cxC X scope N' cl s3.heap.objs.size s3 H3 fp (X.pn ++ pins)) _ s10 σ8 H10 (.ref D) [yv] (.ref D) [y] (fun _ H' => H' = upd H10 D (.lst (ys ++ [yv]))) I10 rfl (.cons r10 .nil) ⟨D, ys, yv, rfl, rfl, hDy, hlen, rfl⟩) fun _ s11 ⟨_, H11, I11, _, e11⟩ => ?_
        subst e11
        exact again I11 (hN _ _ _ w10)
  exact codeAny_compStart_list loop (T.self _ 0 _ _ _ (T.keep _ _ _ st3 fun b _ o e => keep4 b o e) loop)
end
end L2
namespace L2
open PySem PySem.Spec PyProof.Rows
/-! ### an exception of the program's own: it flies over B, which is all that stays behind it but the frames -/
structure Fly (P : Program) (w : World) (l : List Env) (H : Hp) (h : Heap) (e : Addr) (cls : Value) (H' : Hp) (h' B : Heap) : Prop where
  fl : ∃ a0, Heap.FlyingW B l e cls a0 h'
  hok : HOk P w H' B
  keep : ∀ b o, h.get? b = some o → H b = none → b ∉ frs l → B.get? b = some o
  slot : ∀ b o, h.get? b = some o → H b = none → b ∈ frs l → ∃ sl, h'.get? b = some { o with slots := sl }
  al : ∀ b o, h.get? b = some o → b ∉ frs l → ∃ o', B.get? b = some o'
  free : ∀ b o, h.get? b = some o → H b = none → H' b = none
  tups : ∀ b xs, H b = some (.tup xs) → H' b = some (.tup xs)
  frzs : ∀ b o u, H b = some (.frz o u) → H' b = some (.frz o u)
  tbls : ∀ b ps, H b = some (.tbl ps) → ∃ more, H' b = some (.tbl (ps ++ more))
section
variable {P : Program} {w : World} {l : List Env} {H H' : Hp} {h h' h'' B : Heap} {e : Addr} {cls : Value}
end
section
variable {X : Cx} {pins : List (Addr × Obj)} {σ : St} {H H' : Hp} {s s' : Shared} {h' B : Heap} {e : Addr} {cls : Value} {M : Model} {A : Around} {Q : Unit → Shared → Prop} {EE : Value → Shared → Prop}
end
/-- how an exception lies behind a call -/
def CXF (P : Program) (w : World) : CXT := fun l H s E e s' => ∃ (a : Addr) (cls : Value) (H' : Hp) (B : Heap), e = .ref a ∧ s'.os = s.os ∧ AllBare s'.gens ∧ Fly P w l H s.heap a cls H' s'.heap B ∧ E cls none H'
/-- a body from which exceptions may go -/
abbrev Gx.cxX (g : Gx) (N : List Str) (qual : Str) (st : Stmt) (f : Addr) (cdv : Value) (A : Around) (outer : List Env) (s : Shared) (H : Hp) (E : XK) : Cx := cxOf (CXF g.P g.w) g.P g.w g.K g.mg g.base N qual (defScope st) f cdv A outer s H E
section
variable {g : Gx} {N : List Str} {qual : Str} {st : Stmt} {f : Addr} {cdv : Value} {A : Around} {outer : List Env} {s : Shared} {H : Hp} {E : XK}
/-- what a raise asks -/
def Raises (X : Cx) (E : XK) : Prop := ∀ (pins : List (Addr × Obj)) (σ : St) (H : Hp) (s : Shared) (h' : Heap) (e : Addr) (cls : Value) (vs : List Value), Inv X pins σ H s → Heap.MadeExcOf s.heap h' e cls vs → E cls none H → X.xe (.ref e) { s with heap := h' }
end
def Gx.FnX (g : Gx) (k : Nat) (x : Str) (ps : List Str) (sp : Sp) : Prop := ∃ f fd, FnOk g.P g.w g.K g.mg g.base (CXF g.P g.w) k f fd ps sp ∧ Binds g.K fd ps [] ∧ PySem.W.keepIn g.K (.ref f) = true ∧ g.mg x = some (.ref f)
def BodyX (g : Gx) (k : Nat) (N : List Str) (qual : Str) (st : Stmt) (sp : Sp) : Prop := ∀ (f : Addr) (cdv : Value) (A : Around) (outer : List Env) (s : Shared) (H : Hp) (vs : List V) (Q : VK) (E : XK), Room k (g.cxX N qual st f cdv A outer s H E).A → sp vs H Q E →
  ∃ t, PSs (g.cxX N qual st f cdv A outer s H E) (defBody st) t ∧ t { nx := fun _ H' => Q .non H', rt := Q } (start N vs) H
section
variable {g : Gx} {k : Nat} {x qual m : Str} {st : Stmt} {N ps : List Str} {sp : Sp} {C : Addr}
end
section
variable {g : Gx} {X : Cx} {k j : Nat} {x : Str} {ps : List Str} {sp : Sp} {E : XK} {e : Expr} {es : List Expr} {t : TA} {p pos cpos np : Pos}
/-- the built-in line that our classes stand in -/
abbrev veLine : List Value := [.type "ValueError", .type "Exception", .type "BaseException", .type "object"]
/-- an exception class of the text, without an __init__ of its own -/
structure Gx.Exc (g : Gx) (x : Str) (C : Addr) : Prop where
  bound : g.mg x = some (.ref C)
  own : PySem.W.excIn g.K C veLine "ValueError.__new__" = true
def tRaise (C : Addr) (E : XK) (t : TA) : TS := fun _ σ H => t σ H fun vs H1 => vs.length ≤ sizeLine ∧ E (.ref C) none H1
end
/-! ### try: x = f(..) except C: suite -/
abbrev Cx.caught (X : Cx) (e : Addr) : Cx := { X with A := X.A.mark (some (.ref e)), calm := false, xe := fun _ _ => False }
section
variable {X : Cx} {pins : List (Addr × Obj)} {σ : St} {H H' H1 : Hp} {s s1 s' : Shared} {e : Value} {D : Ends} {ts : TS} {b₀ : Stmt} {suite : List Stmt} {c : Str} {cv : Value} {cp hpos : Pos}
end
def tTry (K : PySem.W.Frag) (cv : Value) (sp : Sp) (t : TA) (i : Nat) (ts : TS) : TS := fun D σ H => t σ H fun vs H1 => sp (vs ++ []) H1 (fun v H2 => D.nx (σ.set i (some v)) H2) (fun cls _ H2 => PySem.W.exmOne K cls cv = some true ∧ ts D σ H2)
section
variable {g : Gx} {X : Cx} {k j i : Nat} {x f c : Str} {ps : List Str} {sp : Sp} {e : Expr} {es : List Expr} {t : TA} {ts : TS} {b₀ : Stmt} {suite : List Stmt} {cv : Value} {fp px cp hpos apos cpos pos : Pos}
end
end L2
namespace L2
open PySem PySem.Spec PyProof.Rows
/-! ### enumerate, over a tuple, or from a number on -/
def Ite' (k : Nat) (G : Hp → List V → Prop) : It :=
  ⟨fun i H => ∃ xs x, G H xs ∧ xs[i]? = some x, fun i H v H' => ∃ T, v = .ref T ∧ H T = none ∧ ∀ xs x, G H xs → xs[i]? = some x → H' = upd H T (.tup [.int ((i + k : Nat) : Int), x]), fun i H => ∃ xs, G H xs ∧ xs.length = i⟩
section
variable {prog : Program} {w : World} {A : Around} {E : Value → Shared → Prop} {s : Shared}
open AutoSeq1 (wpAny_loadPart') in
end
section
variable {X : Cx} {elts : List Expr} {kk : Nat} {tpos : Pos}
def iEnumT (K : PySem.W.Frag) (ta : TA) : TI := fun σ H R => ta σ H fun vs H1 => ∃ a xs, vs = [.ref a] ∧ SqT K H1 a xs ∧ R (Ite' 0 fun H xs => SqT K H a xs) H1
end
/-! ### loops over it -/
section
variable {g : TG} {tb : TS} {D : Ends} {σ : St} {H : Hp}
end
end L2
namespace L2
open PySem PySem.Spec PyProof.Rows
/-! ### enumerate(xs, start=1) -/
section
variable {prog : Program} {w : World} {A : Around} {E : Value → Shared → Prop} {s : Shared}
open AutoSeq1 (wpAny_loadPart') in
end
end L2
namespace L2
open PySem PySem.Spec PyProof.Rows
section
variable {X : Cx} {elts : List Expr} {kk : Nat} {tpos : Pos}
def iEnum1 (K : PySem.W.Frag) (ta : TA) : TI := fun σ H R => ta σ H fun vs H1 => ∃ a xs, vs = [.ref a] ∧ SqL K H1 a xs ∧ R (Ite' 1 fun H xs => SqL K H a xs) H1
end
section
variable {g : TG} {tb : TS} {D : Ends} {σ : St} {H : Hp}
end
/-! ### range(a, b, c), c above 0 -/
section
variable {X : Cx} {tg : Expr}
/-- lo, lo + c, .., n of them -/
def Itu (lo c : Int) (n : Nat) : It := ⟨fun i _ => i < n, fun i H v H' => v = .int (lo + i * c) ∧ H' = H, fun i _ => n ≤ i⟩
def iRngU (ta : TA) : TI := fun σ H R => ta σ H fun vs H1 => ∃ i j c : Int, vs = [.int i, .int j, .int c] ∧ (-(2 ^ 60) ≤ i ∧ i < 2 ^ 60 ∧ -(2 ^ 60) ≤ j ∧ j < 2 ^ 60 ∧ 0 < c ∧ c < 2 ^ 29) ∧ R (Itu i c (Builtin.Range.rangeSize i j c).toNat) H1
end
end L2
namespace L2
open PySem PySem.Spec PyProof.Rows
/-! ### an exception that was caught by a name: a thing of the heap -/
def ExcO (a : Addr) (cls : Value) : HO := .ext fun h => ∃ o vs, h.get? a = some o ∧ o.cls = cls ∧ o.data = .fields vs
section
variable {P : Program} {w : World} {l : List Env} {H H' : Hp} {h h' h'' B : Heap} {a e : Addr} {cls : Value} {o : HO}
end
section
variable {X : Cx} {pins : List (Addr × Obj)} {σ : St} {H H' H1 : Hp} {s s1 s' : Shared}
end
/-- behind an except clause by a name: the name stands for nothing -/
def Ends.gone (D : Ends) (j : Nat) : Ends := { nx := fun σ H => D.nx (σ.set j none) H, rt := D.rt, bk := fun σ H => D.bk (σ.set j none) H, ct := fun σ H => D.ct (σ.set j none) H }
section
variable {X : Cx} {pins : List (Addr × Obj)} {σ : St} {H H' H1 : Hp} {s s1 s' : Shared} {e : Value} {D : Ends} {ts : TS} {b₀ : Stmt} {suite : List Stmt} {c n : Str} {cv : Value} {cp hpos : Pos} {j : Nat}
end
end L2
namespace L2
open PySem PySem.Spec PyProof.Rows
/-! ### try by a name; a def that is called within an except suite -/
def tTryAs (K : PySem.W.Frag) (cv : Value) (sp : Sp) (t : TA) (i j : Nat) (ts : TS) : TS := fun D σ H => t σ H fun vs H1 => sp (vs ++ []) H1 (fun v H2 => D.nx (σ.set i (some v)) H2) (fun cls _ H2 => PySem.W.exmOne K cls cv = some true ∧ ∀ a, H2 a = none → ts (D.gone j) (σ.set j (some (.ref a))) (upd H2 a (ExcO a cls)))
section
variable {g : Gx} {X : Cx} {k jj i j : Nat} {x f c n : Str} {ps : List Str} {sp : Sp} {e : Expr} {es : List Expr} {t : TA} {ts : TS} {b₀ : Stmt} {suite : List Stmt} {cv : Value} {fp px cp hpos apos cpos pos : Pos}
end
/-- room, whatever is handled -/
structure RoomM (k : Nat) (A : Around) : Prop where
  dp : A.depth + 3 * k + 5 < recursionLimit
  un : A.units + 16 * k + 200 < cLine
structure FnOkM (P : Program) (w : World) (K : PySem.W.Frag) (mg : Str → Option Value) (base : Heap) (k : Nat) (f : Addr) (fd : FuncData) (ps : List Str) (sp : Sp) : Prop where
  len : ∀ vs H Q E, sp vs H Q E → vs.length = ps.length
  run : ∀ (A : Around) (outer : List Env) (s : Shared) (H : Hp) (args : Args) (us : List Value) (vs : List V) (Q : VK) (E : XK), RoomM k A → Env0 P w K mg base A outer s H → BindsTo s fd args (ps.zip us) → Vals vs us → sp vs H Q E →
    codeAny (model P w) A (.call (.ref f) args) (CR CX0 outer P w H s Q E) s
def Gx.FnM (g : Gx) (k : Nat) (x : Str) (ps : List Str) (sp : Sp) : Prop := ∃ f fd, FnOkM g.P g.w g.K g.mg g.base k f fd ps sp ∧ Binds g.K fd ps [] ∧ PySem.W.keepIn g.K (.ref f) = true ∧ g.mg x = some (.ref f)
abbrev Gx.cxM (g : Gx) (N : List Str) (qual : Str) (st : Stmt) (f : Addr) (cdv : Value) (A : Around) (outer : List Env) (s : Shared) (H : Hp) (E : XK) : Cx := { cxOf CX0 g.P g.w g.K g.mg g.base N qual (defScope st) f cdv A outer s H E with calm := false, xe := fun _ _ => False }
def BodyM (g : Gx) (k : Nat) (N : List Str) (qual : Str) (st : Stmt) (sp : Sp) : Prop := ∀ (f : Addr) (cdv : Value) (A : Around) (outer : List Env) (s : Shared) (H : Hp) (vs : List V) (Q : VK) (E : XK), RoomM k (g.cxM N qual st f cdv A outer s H E).A → sp vs H Q E →
  ∃ t, PSs (g.cxM N qual st f cdv A outer s H E) (defBody st) t ∧ t { nx := fun _ H' => Q .non H', rt := Q } (start N vs) H
section
variable {g : Gx} {k : Nat} {x qual : Str} {st : Stmt} {N ps : List Str} {sp : Sp}
end
section
variable {g : Gx} {X : Cx} {k j : Nat} {x : Str} {ps : List Str} {sp : Sp} {e : Expr} {es : List Expr} {t : TA} {p pos : Pos}
end
end L2
namespace PySem.W
open PySem PySem.Calls PyProof.Rows Builtin Builtin.ObjectAttr Builtin.Getset_descriptor
section
variable {prog : Program} {w : World} {A : Around} {E : Value → Shared → Prop} {K : Frag} {x C : Addr} {ox : Obj} {hh : Heap} {g : Array GenState} {d : Drawn} {t : Nat} {os : OsState}
end
end PySem.W
namespace L2
open PySem PySem.Spec PyProof.Rows
/-- what the text's exception class has from its line -/
structure ExcT (K : PySem.W.Frag) (C : Addr) : Prop where
  hd : PySem.W.hasDictIn K C = true
  hm : PySem.W.mroIn K C (.type "object") = some true
  hb : PySem.W.mroIn K C (.type "BaseException") = some true
  ha : PySem.W.findIn K (.ref C) "__class__" = some (some (.builtin "object.__class__"))
  hga : PySem.W.findIn K (.ref C) "__getattribute__" = some (some (.builtin "BaseException.__getattribute__"))
  hgt : PySem.W.findIn K (.ref C) "__getattr__" = some none
section
variable {X : Cx}
end
theorem caught_K {X : Cx} {a : Addr} : (X.caught a).K = X.K := rfl
end L2
namespace L2
open PySem PySem.Spec PyProof.Rows
theorem noattr_mk {K : PySem.W.Frag} {C : Addr} {f : Str} (h : PySem.W.findIn K (.ref C) f = some none) : NoAttr K C f := h
end L2
namespace L2
open PySem PySem.Spec PyProof.Rows
section
variable {src : List (Option Nat)} {te : TE} {σ : St} {H : Hp} {Q : VK}
end
end L2
namespace L2
open PySem PySem.Spec PyProof.Rows
section
variable {X : Cx}
end
end L2
namespace L2
open PySem PySem.Spec PyProof.Rows
section
variable {src : List (Option Nat)} {te : TE} {σ : St} {H : Hp} {Q : VK}
/-- a comprehension over a tuple -/
theorem tLC_tupN {K : PySem.W.Frag} {tl : TE} {xs : List V} (ys : List V) (ha : ∀ R : V → Hp → Prop, (∀ a H1, Same H H1 → SqT K H1 a xs → R (.ref a) H1) → tl σ H R) (hl : ys.length = xs.length) (hlen : xs.length ≤ 100000)
    (step : ∀ (i : Nat) x y H', xs[i]? = some x → ys[i]? = some y → Same H H' → ∀ R : VK, (∀ H'', Same H' H'' → R y H'') → te (some x :: capSt src σ) H' R)
    (fin : ∀ D H', H D = none → Same H H' → H' D = some (.lst ys) → Q (.ref D) H') : tLC (none :: src) (iTup K tl) (gName 0) tYes te σ H Q :=
  ha _ fun a H1 s1 hS => ⟨a, rfl, ⟨xs, hS⟩, fun D hD => lc_map (itseq_tup.imp fun H' (e : Same H1 H') => e.tup hS) ys (fun _ e => e) hD hl hlen (fun i x y H' hx hy sm R r => step i x y H' hx hy (s1.trans sm) R r) fun H' sm => fin D H' (s1.free hD) (s1.trans sm)⟩
end
end L2
namespace L2
open PySem PySem.Spec PyProof.Rows
/-! the script itself as a list that + may read -/
def SqX (K : PySem.W.Frag) (H : Hp) (a : Addr) (xs : List V) : Prop := Rd H a (.lst xs) ∨ ∃ (its : Array Value) (n : Nat), K.lookup a = some { cls := .type "list", data := .seq its n } ∧ its.size ≤ sizeLine ∧ Vals xs its.toList
section
variable {X : Cx}
def rCatX (K : PySem.W.Frag) : R2 := fun x y H Q => ∃ l b xs zs, x = .ref l ∧ y = .ref b ∧ SqX K H l xs ∧ SqX K H b zs ∧ xs.length + zs.length ≤ sizeLine ∧ ∀ p, H p = none → Q (.ref p) (upd H p (.lst (xs ++ zs)))
end
def spTrueX (K : PySem.W.Frag) : Sp := fun vs H Q _ => ∃ (a : Addr) (ns : List Int), vs = [.ref a] ∧ SqX K H a (ns.map V.int) ∧ ns.length ≤ 63 ∧ ∀ H', Q (.bl true) H'
end L2
namespace L2
open PySem PySem.Spec PyProof.Rows
/-! defs as values: a def's name as an argument, a call of what a name of one's own holds -/
def Gx.FnV (g : Gx) (k : Nat) (f : Addr) (ps : List Str) (sp : Sp) : Prop := ∃ fd, FnOk g.P g.w g.K g.mg g.base CX0 k f fd ps sp ∧ Binds g.K fd ps [] ∧ PySem.W.keepIn g.K (.ref f) = true
def tFn (g : Gx) (k : Nat) (ps : List Str) (sp : Sp) : TE := fun _ H Q => ∀ f, g.FnV k f ps sp → Q (.ref f) H
def tCallV (g : Gx) (k i : Nat) (t : TA) : TE := fun σ H Q => ∃ f ps sp, σ[i]? = some (some (.ref f)) ∧ g.FnV k f ps sp ∧ t σ H fun vs H1 => sp vs H1 Q E0
section
variable {X : Cx} {g : Gx} {k j i : Nat} {x : Str} {ps : List Str} {sp : Sp} {p pos : Pos} {e : Expr} {es : List Expr} {t : TA}
end
/-! the arguments of a call, one by one: for tuples and lists, said once (by rfl at the place it costs minutes) -/
theorem star_tup (es : List Expr) (x : Nat) (p : Pos) (es' : List Expr) (env : Env) : starEach (.Tuple es x p :: es') env = (false, eval (.Tuple es x p) env) :: starEach es' env := rfl
end L2
namespace L2
open PySem PySem.Spec PyProof.Rows
/-! isinstance(x, (T, U)); comprehensions over the pairs of two lists, two tuples, either -/
section
variable {X : Cx} {pins : List (Addr × Obj)} {σ : St} {H : Hp} {s : Shared} {A : Around} {E Q : Value → Shared → Prop}
theorem tys_vals : ∀ {Ts : List String} {us : List Value}, Vals (Ts.map V.ty) us → us = Ts.map Value.type
  | [], _, r => by cases r; rfl
  | T :: Ts, _, r => by
    cases r with
    | cons h t =>
      have : _ = Value.type T := h
      rw [this, tys_vals t]
      rfl
theorem isinstT_ok {x : V} {u t : Value} {tp : Addr} {Ts : List String} {b : Bool} (I : Inv X pins σ H s) (rx : RelV x u) (ty : TyOf X.K H x t) (hT : H tp = some (.tup (Ts.map V.ty))) (e : PySem.W.kitAny X.K t (Ts.map Value.type) = some b) (h : ∀ tk, Q (.bool b) { s with toks := tk }) :
    wpAny (model X.prog X.w) A (call (.builtin "isinstance") [u, .ref tp]) Q E s := by
  obtain ⟨_, us, r, o, g1, g2, n, g3⟩ := (show ObjOk X.prog X.w H s.heap tp (.tup (Ts.map V.ty)) from I.hok tp _ hT)
  obtain ⟨oc, od, ot, sl⟩ := o
  have g2' : oc = Value.type "tuple" := g2
  have g3' : ot = Data.seq us.toArray n := g3
  subst g2' g3'
  rw [tys_vals r] at g1
  cases ty with
  | non => cases (show u = Value.none from rx); exact PySem.W.kia_tup PySem.W.kitx_none I.kIn True.intro g1 e (fun z => nomatch z) h
  | bl y => cases (show u = Value.bool y from rx); exact PySem.W.kia_tup PySem.W.kitx_bool I.kIn True.intro g1 e (fun z => nomatch z) h
  | int i => obtain ⟨t, q⟩ := (show ∃ t, u = Value.int i t from rx); cases q; exact PySem.W.kia_tup PySem.W.kitx_int I.kIn True.intro g1 e (fun z => nomatch z) h
  | str y => obtain ⟨t, q⟩ := (show ∃ t, u = Value.str y t from rx); cases q; exact PySem.W.kia_tup PySem.W.kitx_str I.kIn True.intro g1 e (fun z => nomatch z) h
  | flt y => obtain ⟨t, q⟩ := (show ∃ t, u = Value.float y t from rx); cases q; exact PySem.W.kia_tup PySem.W.kitx_float I.kIn True.intro g1 e (fun z => nomatch z) h
  | @lst a xs ea =>
    cases (show u = Value.ref a from rx)
    obtain ⟨_, _, n, _, h1⟩ := (show ObjOk X.prog X.w H s.heap a (.lst xs) from I.hok a _ ea)
    exact PySem.W.kia_tup PySem.W.kitx_list I.kIn ⟨_, h1, rfl⟩ g1 e (fun z => nomatch z) h
  | @frz a ob xs ea =>
    cases (show u = Value.ref a from rx)
    obtain ⟨_, _, _, n, _, h1⟩ := (show ObjOk X.prog X.w H s.heap a (.frz ob (.lst xs)) from I.hok a _ ea)
    exact PySem.W.kia_tup PySem.W.kitx_list I.kIn ⟨_, h1, rfl⟩ g1 e (fun z => nomatch z) h
  | @tup a xs ea =>
    cases (show u = Value.ref a from rx)
    obtain ⟨_, _, _, p⟩ := (show ObjOk X.prog X.w H s.heap a (.tup xs) from I.hok a _ ea)
    obtain ⟨o, h1, h2, _⟩ := p
    exact PySem.W.kia_tup PySem.W.kitx_tuple I.kIn ⟨o, h1, h2⟩ g1 e (fun z => nomatch z) h
  | @dK a kvs ea =>
    cases (show u = Value.ref a from rx)
    obtain ⟨_, _, vs, _, p⟩ := (show ObjOk X.prog X.w H s.heap a (.dK kvs) from I.hok a _ ea)
    obtain ⟨o, es, ep, h1, h2, _⟩ := p
    exact PySem.W.kia_tup PySem.W.kitx_dict I.kIn ⟨o, h1, h2.1⟩ g1 e (fun z => nomatch z) h
  | @dT a kvs ea =>
    cases (show u = Value.ref a from rx)
    obtain ⟨_, _, xs, _, o, es, ep, h1, h2, _⟩ := (show ObjOk X.prog X.w H s.heap a (.dT kvs) from I.hok a _ ea)
    exact PySem.W.kia_tup PySem.W.kitx_dict I.kIn ⟨o, h1, h2.1⟩ g1 e (fun z => nomatch z) h
  | @ins a C dx fs ea cl ha hn htk hm =>
    cases (show u = Value.ref a from rx)
    obtain ⟨mA, O, _⟩ := ins_get I.hok ea
    obtain ⟨od, J, _⟩ := O.look
    exact PySem.W.kia_tup (PySem.W.kitx_own (cl.get _) cl.hd ha hn htk hm) I.kIn J g1 e (fun z => nomatch z) h
end
section
variable {X : Cx}
theorem call_isinstT : CallR X (.builtin "isinstance") (fun xs H Q => ∃ x tp Ts t b, xs = [x, .ref tp] ∧ H tp = some (.tup (List.map V.ty Ts)) ∧ TyOf X.K H x t ∧ PySem.W.kitAny X.K t (Ts.map Value.type) = some b ∧ Q (.bl b) H) := by
  intro pins s σ H xs us Q I r h
  obtain ⟨x, tp, Ts, t, b, rfl, hT, ty, e, q⟩ := h
  obtain ⟨u, v, rfl, ru, rv⟩ := r.two
  cases rv
  exact isinstT_ok I ru ty hT e fun tk => ⟨.bl b, H, I.tok _, rfl, q⟩
end
section
variable {src : List (Option Nat)} {te : TE} {σ : St} {Q : VK}
theorem lc_zip {K : PySem.W.Frag} {G1 G2 : Hp → List V → Prop} {xs ys : List V} {H1 : Hp} {D : Addr} (zs : List V) (g1 : ∀ H', Same H1 H' → G1 H' xs) (g2 : ∀ H', Same H1 H' → G2 H' ys) (hD : H1 D = none) (hxy : xs.length = ys.length) (hl : zs.length = xs.length) (hlen : xs.length ≤ 100000)
    (step : ∀ (i : Nat) x y z H', xs[i]? = some x → ys[i]? = some y → zs[i]? = some z → Same H1 H' → ∀ R : VK, (∀ H'', Same H' H'' → R z H'') → te (some x :: some y :: capSt src σ) H' R)
    (fin : ∀ H', Same H1 H' → H' D = some (.lst zs) → Q (.ref D) H') : LC (none :: none :: src) (Itz G1 G2) (gTup K 2 (gCons (gName 0) (gCons (gName 1) gNil))) tYes te σ H1 Q D := by
  have h6 : 100000 < sizeLine := by decide
  refine lc_gen_on (J := Itz G1 G2) (n := xs.length) (P := fun H' => Same H1 H') (fun i H' sm hi => ⟨xs, ys, xs[i], ys[i], g1 _ sm, g2 _ sm, List.getElem?_eq_getElem hi, List.getElem?_eq_getElem (by omega)⟩) (fun H' sm => ⟨xs, ys, g1 _ sm, g2 _ sm, by omega⟩)
    (fun i ws σ' H' => ws = zs.take i ∧ (∃ o o', σ' = o :: o' :: capSt src σ) ∧ Same H1 H' ∧ H' D = some (.lst ws)) ⟨by simp, ⟨none, none, rfl⟩, .upd_new hD _, upd_same⟩ (fun i ws σ' H' p => ⟨p.2.2.1, p.2.2.2⟩) (gTup2_mono' K 0 1) ?_ ?_
  · rintro i ws σ' H' hi ⟨rfl, ⟨o, o', rfl⟩, sm, hd⟩ x H3 ⟨T, rfl, hT, heq⟩
    have hx : xs[i]? = some xs[i] := List.getElem?_eq_getElem hi
    have hy : ys[i]? = some (ys[i]'(by omega)) := List.getElem?_eq_getElem _
    have hz : zs[i]? = some (zs[i]'(by omega)) := List.getElem?_eq_getElem _
    have e3 := heq xs ys _ _ (g1 _ sm) (g2 _ sm) hx hy
    subst e3
    have s3 : Same H' (upd H' T (.tup [xs[i], ys[i]'(by omega)])) := .upd_new hT _
    refine ⟨T, _, rfl, SqT.of upd_same, rfl, _, _, rfl, _, _, rfl, rfl, ?_⟩
    show te (some xs[i] :: some (ys[i]'(by omega)) :: capSt src σ) _ _
    refine step i _ _ _ _ hx hy hz (sm.trans s3) _ fun H'' s2 => ⟨s2 _ _ (s3 _ _ hd), ?_, (take_snoc hz).symm, ⟨_, _, rfl⟩, .upd_over hD ((sm.trans s3).trans s2) _, upd_same⟩
    rw [List.length_take]; omega
  · rintro ws σ' H' ⟨rfl, _, sm, hd⟩
    rw [← hl, List.take_length] at hd
    exact fin H' sm hd
variable {X : Cx} {H : Hp}
/-- an iteration over either of two kinds -/
def iOr (a b : TI) : TI := fun σ H R => a σ H R ∨ b σ H R
theorem pi_or {tg : Expr} {l : Expr} {a b : TI} (ha : PI X tg l a) (hb : PI X tg l b) : PI X tg l (iOr a b) := by
  intro pins s σ H R I h
  rcases h with h | h
  · exact ha pins s σ H R I h
  · exact hb pins s σ H R I h
theorem tLC_zipT {K : PySem.W.Frag} {ta : TA} {xs ys : List V} {a b : Addr} (zs : List V) (ha : ∀ R : List V → Hp → Prop, R [.ref a, .ref b] H → ta σ H R) (h1 : SqT K H a xs) (h2 : SqT K H b ys) (hxy : xs.length = ys.length) (hl : zs.length = xs.length) (hlen : xs.length ≤ 100000)
    (step : ∀ (i : Nat) x y z H', xs[i]? = some x → ys[i]? = some y → zs[i]? = some z → Same H H' → ∀ R : VK, (∀ H'', Same H' H'' → R z H'') → te (some x :: some y :: capSt src σ) H' R)
    (fin : ∀ D H', H D = none → Same H H' → H' D = some (.lst zs) → Q (.ref D) H') : tLC (none :: none :: src) (iZipT K ta) (gTup K 2 (gCons (gName 0) (gCons (gName 1) gNil))) tYes te σ H Q :=
  ha _ ⟨a, b, xs, ys, rfl, h1, h2, fun D hD => lc_zip zs (fun H' sm => sm.tup h1) (fun H' sm => sm.tup h2) hD hxy hl hlen step fun H' => fin D H' hD⟩
theorem tLC_zipL {K : PySem.W.Frag} {ta : TA} {xs ys : List V} {a b : Addr} (zs : List V) (ha : ∀ R : List V → Hp → Prop, R [.ref a, .ref b] H → ta σ H R) (h1 : SqL K H a xs) (h2 : SqL K H b ys) (hxy : xs.length = ys.length) (hl : zs.length = xs.length) (hlen : xs.length ≤ 100000)
    (step : ∀ (i : Nat) x y z H', xs[i]? = some x → ys[i]? = some y → zs[i]? = some z → Same H H' → ∀ R : VK, (∀ H'', Same H' H'' → R z H'') → te (some x :: some y :: capSt src σ) H' R)
    (fin : ∀ D H', H D = none → Same H H' → H' D = some (.lst zs) → Q (.ref D) H') : tLC (none :: none :: src) (iZipL K ta) (gTup K 2 (gCons (gName 0) (gCons (gName 1) gNil))) tYes te σ H Q :=
  ha _ ⟨a, b, xs, ys, rfl, h1, h2, fun D hD => lc_zip zs (fun H' sm => sm.seq h1) (fun H' sm => sm.seq h2) hD hxy hl hlen step fun H' => fin D H' hD⟩
end
end L2
namespace L2
open PySem PySem.Spec PyProof.Rows
/-! ### < of data: ints and tuples of them, to any depth -/
mutual
/-- d < e, of which this is the answer -/
inductive LtR : PyData → PyData → Bool → Prop
  | int (i j : Int) : LtR (.int i) (.int j) (decide (i < j))
  | tup {ds es : List PyData} {b : Bool} : LtA ds es b → LtR (.tuple ds) (.tuple es) b
inductive LtA : List PyData → List PyData → Bool → Prop
  | nn : LtA [] [] false
  | nc {e : PyData} {es : List PyData} : LtA [] (e :: es) true
  | cn {d : PyData} {ds : List PyData} : LtA (d :: ds) [] false
  | eq {d e : PyData} {ds es : List PyData} {b : Bool} : PyData.eqv d e = true → LtA ds es b → LtA (d :: ds) (e :: es) b
  | ne {d e : PyData} {ds es : List PyData} {b : Bool} : PyData.eqv d e = false → LtR d e b → LtA (d :: ds) (e :: es) b
end
def LtAt (A : Around) (s : Shared) (u v : Value) (b : Bool) : Prop := ∀ (prog : Program) (w : World) (E : Value → Shared → Prop) (Q : Value → Shared → Prop), Q (.bool b) s → wpAny (model prog w) A (richCompare .Lt u v) Q E s
section
open PySem.SeqAt
open PySem.AutoSeq1 (wpAny_loadPart')
open PySem.MeetsSeq PySem.MeetsSeq2 PySem.MeetsSeq3
/-- pairs of items: equal by the data, or comparable -/
inductive Two (A : Around) (s : Shared) : List Value → List Value → Bool → Prop
  | nn : Two A s [] [] false
  | nc {v : Value} {vs : List Value} : Two A s [] (v :: vs) true
  | cn {v : Value} {vs : List Value} : Two A s (v :: vs) [] false
  | eq {u v : Value} {us vs : List Value} {b : Bool} : EqAt A s u v true → Two A s us vs b → Two A s (u :: us) (v :: vs) b
  | ne {u v : Value} {us vs : List Value} {b : Bool} : EqAt A s u v false → LtAt A s u v b → Two A s (u :: us) (v :: vs) b
theorem tuple_lt_two (l b : Addr) (items items2 : Array Value) (n n2 : Nat) (dd dd2 : Option Addr) (sl sl2 : Array (Option Value)) (r : Bool) :
    Meets (Builtin.«tuple.__lt__» ⟨[.ref l, .ref b], []⟩)
      (fun A R s => s.heap.get? l = some { cls := .type "tuple", dict := dd, data := .seq items n, slots := sl } ∧ s.heap.get? b = some { cls := .type "tuple", dict := dd2, data := .seq items2 n2, slots := sl2 } ∧
        Two A.in1 s items.toList items2.toList r ∧ R (.ok (.ret (.bool r))) s) :=
  .of_wp fun prog w A R s h => by
    obtain ⟨hp, g, d, tk, os⟩ := s; obtain ⟨hl, hb, h2, h⟩ := h
    have f2 := AutoSeq1.sub_tuple_tuple
    wp_walk using wpAny_loadPart' hl, wpAny_loadPart' hb, wpAny_forIn_list _ (fun rest b s' => b.1 = none ∧ s' = ⟨hp, g, d, tk, os⟩ ∧ ∃ (vs ws : List Value), rest = vs.zip ws ∧
      vs.length + items2.size = ws.length + items.size ∧ Two A.in1 ⟨hp, g, d, tk, os⟩ vs ws r) _
    case turn =>
      rintro ⟨y, x⟩ rest b s' ⟨hb', rfl, vs, ws, hz, hlen, ht⟩
      cases ht with
      | nn => cases hz
      | nc => cases hz
      | cn => cases hz
      | eq he ht' =>
        rw [List.zip_cons_cons] at hz
        injection hz with hyx hrest
        injection hyx with hy hx
        subst hy hx
        simp only [List.length_cons] at hlen
        refine wpAny_bind (he prog w _ _ ?_)
        wp_walk
        exact ⟨rfl, rfl, _, _, hrest, by omega, ht'⟩
      | ne he hlt =>
        rw [List.zip_cons_cons] at hz
        injection hz with hyx hrest
        injection hyx with hy hx
        subst hy hx
        refine wpAny_bind (he prog w _ _ ?_)
        have hri := hlt prog w
        wp_walk using hri
        exact ⟨_, rfl, by simpa using h⟩
    case fin =>
      rintro ⟨b1, b2⟩ s' ⟨hb', rfl, vs, ws, hz, hlen, ht⟩
      simp only at hb'
      subst hb'
      have hv : r = decide (items.size < items2.size) := by
        cases ht with
        | nn => simp only [List.length_nil] at hlen; exact (decide_eq_false (by omega)).symm
        | nc => simp only [List.length_nil, List.length_cons] at hlen; exact (decide_eq_true (by omega)).symm
        | cn => simp only [List.length_nil, List.length_cons] at hlen; exact (decide_eq_false (by omega)).symm
        | eq _ _ => rw [List.zip_cons_cons] at hz; cases hz
        | ne _ _ => rw [List.zip_cons_cons] at hz; cases hz
      rw [hv] at h
      wp_walk
      exact ⟨_, rfl, by simpa [Builtin.Tuple.tupleCompareSizes] using h⟩
    case h =>
      exact ⟨rfl, rfl, items.toList, items2.toList, rfl, by simp; omega, h2⟩
mutual
theorem ltAt_reads : ∀ {d e : PyData} {b : Bool}, LtR d e b → ∀ (A : Around) (s : Shared) (u v : Value) (as bs : List Addr), Reads s.heap u d as → Reads s.heap v e bs → d.canLay0 = true → e.canLay0 = true → A.units + d.depth + 1 < cLine → LtAt A s u v b
  | _, _, _, .int i j, A, s, u, v, as, bs, r1, r2, _, _, _ => by
    cases r1
    cases r2
    exact fun prog w E Q h => HT.rcLt_int A s i _ j _ prog w E Q h
  | _, _, b, .tup (ds := ds) (es := es) hA, A, s, u, v, as, bs, r1, r2, l1, l2, hu => by
    rw [PyData.canLay0] at l1 l2
    rw [PyData.depth] at hu
    cases r1 with
    | @tuple a1 o1 vs1 n1 _ _ h1 c1 d1 q1 =>
    cases r2 with
    | @tuple a2 o2 vs2 n2 _ _ h2 c2 d2 q2 =>
    have ht := two_reads hA A.in1 s _ _ _ _ q1 q2 l1 l2 (show A.units + 1 + _ + 1 < cLine by omega)
    obtain ⟨cls, dd, data, sl⟩ := o1
    obtain ⟨cls2, dd2, data2, sl2⟩ := o2
    have c1' : cls = Value.type "tuple" := c1
    have c2' : cls2 = Value.type "tuple" := c2
    have d1' : data = Data.seq vs1 n1 := d1
    have d2' : data2 = Data.seq vs2 n2 := d2
    subst c1' c2' d1' d2'
    exact fun prog w E Q h => richCompare_meets_room (op := .Lt) ⟨_, h1, rfl⟩ ⟨_, h2, rfl⟩ PySem.F.slot_tuple_lt PySem.F.entry_tuple_lt (PySem.F.args_tuple_lt_2 _ _) (tuple_lt_two _ _ _ _ n1 n2 dd dd2 sl sl2 b)
      ⟨h1, h2, ht, show Value.bool b ≠ Value.notImplemented ∧ Q (.bool b) s from ⟨(fun x => nomatch x), h⟩⟩ (by omega)
theorem two_reads : ∀ {ds es : List PyData} {b : Bool}, LtA ds es b → ∀ (A : Around) (s : Shared) (us vs : List Value) (as bs : List Addr), ReadsAll s.heap us ds as → ReadsAll s.heap vs es bs → PyData.canLayAll0 ds = true → PyData.canLayAll0 es = true → A.units + PyData.depthAll ds + 1 < cLine → Two A s us vs b
  | _, _, _, .nn, A, s, us, vs, as, bs, r1, r2, _, _, _ => by cases r1; cases r2; exact .nn
  | _, _, _, .nc, A, s, us, vs, as, bs, r1, r2, _, _, _ => by cases r1; cases r2; exact .nc
  | _, _, _, .cn, A, s, us, vs, as, bs, r1, r2, _, _, _ => by cases r1; cases r2; exact .cn
  | _, _, b, .eq (d := d) (e := e) he hA, A, s, us, vs, as, bs, r1, r2, l1, l2, hu => by
    rw [PyData.canLayAll0, Bool.and_eq_true] at l1 l2
    rw [PyData.depthAll] at hu
    cases r1 with
    | cons q1 qs1 =>
    cases r2 with
    | cons q2 qs2 =>
    have h := SeqAt.eqAt_reads d e A s _ _ _ _ q1 q2 l1.1 l2.1 (by omega)
    rw [he] at h
    exact .eq h (two_reads hA A s _ _ _ _ qs1 qs2 l1.2 l2.2 (by omega))
  | _, _, b, .ne (d := d) (e := e) he hR, A, s, us, vs, as, bs, r1, r2, l1, l2, hu => by
    rw [PyData.canLayAll0, Bool.and_eq_true] at l1 l2
    rw [PyData.depthAll] at hu
    cases r1 with
    | cons q1 qs1 =>
    cases r2 with
    | cons q2 qs2 =>
    have h := SeqAt.eqAt_reads d e A s _ _ _ _ q1 q2 l1.1 l2.1 (by omega)
    rw [he] at h
    exact .ne h (ltAt_reads hR A s _ _ _ _ q1 q2 l1.1 l2.1 (by omega))
end
variable {X : Cx}
end
end L2
namespace L2
open PySem PySem.Spec PyProof.Rows
/-! ### <= of data: ints and tuples of them, to any depth -/
mutual
/-- d <= e, of which this is the answer -/
inductive LeR : PyData → PyData → Bool → Prop
  | int (i j : Int) : LeR (.int i) (.int j) (decide (i ≤ j))
  | tup {ds es : List PyData} {b : Bool} : LeA ds es b → LeR (.tuple ds) (.tuple es) b
inductive LeA : List PyData → List PyData → Bool → Prop
  | nn : LeA [] [] true
  | nc {e : PyData} {es : List PyData} : LeA [] (e :: es) true
  | cn {d : PyData} {ds : List PyData} : LeA (d :: ds) [] false
  | eq {d e : PyData} {ds es : List PyData} {b : Bool} : PyData.eqv d e = true → LeA ds es b → LeA (d :: ds) (e :: es) b
  | ne {d e : PyData} {ds es : List PyData} {b : Bool} : PyData.eqv d e = false → LeR d e b → LeA (d :: ds) (e :: es) b
end
theorem rcLe_int (A : Around) (s : Shared) (a : Int) (t : Tok) (c : Int) (u : Tok) (prog : Program) (w : World) (E : Value → Shared → Prop) (Q : Value → Shared → Prop) (h : Q (.bool (decide (a ≤ c))) s) :
    wpAny (model prog w) A (richCompare .LtE (.int a t) (.int c u)) Q E s :=
  (PyProof.Rows.le_int h : wpAny (model prog w) A (compareOp .LtE (.int a t) (.int c u)) Q E s)
def LeAt (A : Around) (s : Shared) (u v : Value) (b : Bool) : Prop := ∀ (prog : Program) (w : World) (E : Value → Shared → Prop) (Q : Value → Shared → Prop), Q (.bool b) s → wpAny (model prog w) A (richCompare .LtE u v) Q E s
section
open PySem.SeqAt
open PySem.AutoSeq1 (wpAny_loadPart')
open PySem.MeetsSeq PySem.MeetsSeq2 PySem.MeetsSeq3
/-- pairs of items: equal by the data, or comparable -/
inductive TwoE (A : Around) (s : Shared) : List Value → List Value → Bool → Prop
  | nn : TwoE A s [] [] true
  | nc {v : Value} {vs : List Value} : TwoE A s [] (v :: vs) true
  | cn {v : Value} {vs : List Value} : TwoE A s (v :: vs) [] false
  | eq {u v : Value} {us vs : List Value} {b : Bool} : EqAt A s u v true → TwoE A s us vs b → TwoE A s (u :: us) (v :: vs) b
  | ne {u v : Value} {us vs : List Value} {b : Bool} : EqAt A s u v false → LeAt A s u v b → TwoE A s (u :: us) (v :: vs) b
theorem tuple_le_two (l b : Addr) (items items2 : Array Value) (n n2 : Nat) (dd dd2 : Option Addr) (sl sl2 : Array (Option Value)) (r : Bool) :
    Meets (Builtin.«tuple.__le__» ⟨[.ref l, .ref b], []⟩)
      (fun A R s => s.heap.get? l = some { cls := .type "tuple", dict := dd, data := .seq items n, slots := sl } ∧ s.heap.get? b = some { cls := .type "tuple", dict := dd2, data := .seq items2 n2, slots := sl2 } ∧
        TwoE A.in1 s items.toList items2.toList r ∧ R (.ok (.ret (.bool r))) s) :=
  .of_wp fun prog w A R s h => by
    obtain ⟨hp, g, d, tk, os⟩ := s; obtain ⟨hl, hb, h2, h⟩ := h
    have f2 := AutoSeq1.sub_tuple_tuple
    wp_walk using wpAny_loadPart' hl, wpAny_loadPart' hb, wpAny_forIn_list _ (fun rest b s' => b.1 = none ∧ s' = ⟨hp, g, d, tk, os⟩ ∧ ∃ (vs ws : List Value), rest = vs.zip ws ∧
      vs.length + items2.size = ws.length + items.size ∧ TwoE A.in1 ⟨hp, g, d, tk, os⟩ vs ws r) _
    case turn =>
      rintro ⟨y, x⟩ rest b s' ⟨hb', rfl, vs, ws, hz, hlen, ht⟩
      cases ht with
      | nn => cases hz
      | nc => cases hz
      | cn => cases hz
      | eq he ht' =>
        rw [List.zip_cons_cons] at hz
        injection hz with hyx hrest
        injection hyx with hy hx
        subst hy hx
        simp only [List.length_cons] at hlen
        refine wpAny_bind (he prog w _ _ ?_)
        wp_walk
        exact ⟨rfl, rfl, _, _, hrest, by omega, ht'⟩
      | ne he hlt =>
        rw [List.zip_cons_cons] at hz
        injection hz with hyx hrest
        injection hyx with hy hx
        subst hy hx
        refine wpAny_bind (he prog w _ _ ?_)
        have hri := hlt prog w
        wp_walk using hri
        exact ⟨_, rfl, by simpa using h⟩
    case fin =>
      rintro ⟨b1, b2⟩ s' ⟨hb', rfl, vs, ws, hz, hlen, ht⟩
      simp only at hb'
      subst hb'
      have hv : r = decide (items.size ≤ items2.size) := by
        cases ht with
        | nn => simp only [List.length_nil] at hlen; exact (decide_eq_true (by omega)).symm
        | nc => simp only [List.length_nil, List.length_cons] at hlen; exact (decide_eq_true (by omega)).symm
        | cn => simp only [List.length_nil, List.length_cons] at hlen; exact (decide_eq_false (by omega)).symm
        | eq _ _ => rw [List.zip_cons_cons] at hz; cases hz
        | ne _ _ => rw [List.zip_cons_cons] at hz; cases hz
      rw [hv] at h
      wp_walk
      exact ⟨_, rfl, by simpa [Builtin.Tuple.tupleCompareSizes] using h⟩
    case h =>
      exact ⟨rfl, rfl, items.toList, items2.toList, rfl, by simp; omega, h2⟩
mutual
theorem leAt_reads : ∀ {d e : PyData} {b : Bool}, LeR d e b → ∀ (A : Around) (s : Shared) (u v : Value) (as bs : List Addr), Reads s.heap u d as → Reads s.heap v e bs → d.canLay0 = true → e.canLay0 = true → A.units + d.depth + 1 < cLine → LeAt A s u v b
  | _, _, _, .int i j, A, s, u, v, as, bs, r1, r2, _, _, _ => by
    cases r1
    cases r2
    exact fun prog w E Q h => rcLe_int A s i _ j _ prog w E Q h
  | _, _, b, .tup (ds := ds) (es := es) hA, A, s, u, v, as, bs, r1, r2, l1, l2, hu => by
    rw [PyData.canLay0] at l1 l2
    rw [PyData.depth] at hu
    cases r1 with
    | @tuple a1 o1 vs1 n1 _ _ h1 c1 d1 q1 =>
    cases r2 with
    | @tuple a2 o2 vs2 n2 _ _ h2 c2 d2 q2 =>
    have ht := twoE_reads hA A.in1 s _ _ _ _ q1 q2 l1 l2 (show A.units + 1 + _ + 1 < cLine by omega)
    obtain ⟨cls, dd, data, sl⟩ := o1
    obtain ⟨cls2, dd2, data2, sl2⟩ := o2
    have c1' : cls = Value.type "tuple" := c1
    have c2' : cls2 = Value.type "tuple" := c2
    have d1' : data = Data.seq vs1 n1 := d1
    have d2' : data2 = Data.seq vs2 n2 := d2
    subst c1' c2' d1' d2'
    exact fun prog w E Q h => richCompare_meets_room (op := .LtE) ⟨_, h1, rfl⟩ ⟨_, h2, rfl⟩ PySem.F.slot_tuple_le PySem.F.entry_tuple_le (PySem.F.args_tuple_le_2 _ _) (tuple_le_two _ _ _ _ n1 n2 dd dd2 sl sl2 b)
      ⟨h1, h2, ht, show Value.bool b ≠ Value.notImplemented ∧ Q (.bool b) s from ⟨(fun x => nomatch x), h⟩⟩ (by omega)
theorem twoE_reads : ∀ {ds es : List PyData} {b : Bool}, LeA ds es b → ∀ (A : Around) (s : Shared) (us vs : List Value) (as bs : List Addr), ReadsAll s.heap us ds as → ReadsAll s.heap vs es bs → PyData.canLayAll0 ds = true → PyData.canLayAll0 es = true → A.units + PyData.depthAll ds + 1 < cLine → TwoE A s us vs b
  | _, _, _, .nn, A, s, us, vs, as, bs, r1, r2, _, _, _ => by cases r1; cases r2; exact .nn
  | _, _, _, .nc, A, s, us, vs, as, bs, r1, r2, _, _, _ => by cases r1; cases r2; exact .nc
  | _, _, _, .cn, A, s, us, vs, as, bs, r1, r2, _, _, _ => by cases r1; cases r2; exact .cn
  | _, _, b, .eq (d := d) (e := e) he hA, A, s, us, vs, as, bs, r1, r2, l1, l2, hu => by
    rw [PyData.canLayAll0, Bool.and_eq_true] at l1 l2
    rw [PyData.depthAll] at hu
    cases r1 with
    | cons q1 qs1 =>
    cases r2 with
    | cons q2 qs2 =>
    have h := SeqAt.eqAt_reads d e A s _ _ _ _ q1 q2 l1.1 l2.1 (by omega)
    rw [he] at h
    exact .eq h (twoE_reads hA A s _ _ _ _ qs1 qs2 l1.2 l2.2 (by omega))
  | _, _, b, .ne (d := d) (e := e) he hR, A, s, us, vs, as, bs, r1, r2, l1, l2, hu => by
    rw [PyData.canLayAll0, Bool.and_eq_true] at l1 l2
    rw [PyData.depthAll] at hu
    cases r1 with
    | cons q1 qs1 =>
    cases r2 with
    | cons q2 qs2 =>
    have h := SeqAt.eqAt_reads d e A s _ _ _ _ q1 q2 l1.1 l2.1 (by omega)
    rw [he] at h
    exact .ne h (leAt_reads hR A s _ _ _ _ q1 q2 l1.1 l2.1 (by omega))
end
variable {X : Cx}
variable {K : PySem.W.Frag}
end
end L2
namespace L2
open PySem
/-! keys: ints and tuples of keys; their order -/
mutual
inductive KD : PyData → Prop
  | int (i : Int) : KD (.int i)
  | tup {ds : List PyData} : KDs ds → KD (.tuple ds)
inductive KDs : List PyData → Prop
  | nil : KDs []
  | cons {d : PyData} {ds : List PyData} : KD d → KDs ds → KDs (d :: ds)
end
mutual
theorem KD.eqv : ∀ {d e : PyData}, KD d → KD e → (PyData.eqv d e = true ↔ d = e)
  | _, _, .int i, .int j => by rw [PyData.eqv]; simp
  | _, _, .int i, .tup _ => by rw [PyData.eqv]; simp
  | _, _, .tup _, .int i => by rw [PyData.eqv]; simp
  | _, _, .tup h, .tup k => by
    rw [PyData.eqv, h.eqv k]
    simp
theorem KDs.eqv : ∀ {ds es : List PyData}, KDs ds → KDs es → (PyData.eqvAll ds es = true ↔ ds = es)
  | _, _, .nil, .nil => by simp [PyData.eqvAll]
  | _, _, .nil, .cons _ _ => by simp [PyData.eqvAll]
  | _, _, .cons _ _, .nil => by simp [PyData.eqvAll]
  | _, _, .cons (d := d) (ds := ds) h hs, .cons (d := e) (ds := es) k ks => by
    rw [PyData.eqvAll, Bool.and_eq_true, h.eqv k, hs.eqv ks]
    simp
end
mutual
/-- the order of keys, ints ahead of tuples -/
inductive KLt : PyData → PyData → Prop
  | int {i j : Int} : i < j → KLt (.int i) (.int j)
  | mix {i : Int} {ds : List PyData} : KLt (.int i) (.tuple ds)
  | tup {ds es : List PyData} : KLs ds es → KLt (.tuple ds) (.tuple es)
inductive KLs : List PyData → List PyData → Prop
  | nil {e : PyData} {es : List PyData} : KLs [] (e :: es)
  | here {d e : PyData} {ds es : List PyData} : KLt d e → KLs (d :: ds) (e :: es)
  | there {d : PyData} {ds es : List PyData} : KLs ds es → KLs (d :: ds) (d :: es)
end
mutual
theorem KLt.irr : ∀ {d e : PyData}, KLt d e → d = e → False
  | _, _, .int h, e => by cases e; omega
  | _, _, .tup h, e => by cases e; exact h.irr rfl
theorem KLs.irr : ∀ {ds es : List PyData}, KLs ds es → ds = es → False
  | _, _, .here h, e => by injection e with e1 e2; exact h.irr e1
  | _, _, .there h, e => by injection e with e1 e2; exact h.irr e2
end
mutual
theorem KLt.trans : ∀ {a b c : PyData}, KLt a b → KLt b c → KLt a c
  | _, _, _, .int h, .int k => .int (by omega)
  | _, _, _, .int h, .mix => .mix
  | _, _, _, .mix, .tup _ => .mix
  | _, _, _, .tup h, .tup k => .tup (h.trans k)
theorem KLs.trans : ∀ {a b c : List PyData}, KLs a b → KLs b c → KLs a c
  | _, _, _, .nil, .here _ => .nil
  | _, _, _, .nil, .there _ => .nil
  | _, _, _, .here h, .here k => .here (h.trans k)
  | _, _, _, .here h, .there _ => .here h
  | _, _, _, .there _, .here k => .here k
  | _, _, _, .there h, .there k => .there (h.trans k)
end
mutual
theorem KD.tri : ∀ {d e : PyData}, KD d → KD e → KLt d e ∨ d = e ∨ KLt e d
  | _, _, .int i, .int j => by
    rcases Int.lt_trichotomy i j with h | h | h
    · exact .inl (.int h)
    · exact .inr (.inl (by rw [h]))
    · exact .inr (.inr (.int h))
  | _, _, .int i, .tup _ => .inl .mix
  | _, _, .tup _, .int i => .inr (.inr .mix)
  | _, _, .tup h, .tup k => by
    rcases h.tri k with h | h | h
    · exact .inl (.tup h)
    · exact .inr (.inl (by rw [h]))
    · exact .inr (.inr (.tup h))
theorem KDs.tri : ∀ {ds es : List PyData}, KDs ds → KDs es → KLs ds es ∨ ds = es ∨ KLs es ds
  | _, _, .nil, .nil => .inr (.inl rfl)
  | _, _, .nil, .cons _ _ => .inl .nil
  | _, _, .cons _ _, .nil => .inr (.inr .nil)
  | _, _, .cons (d := d) h hs, .cons (d := e) k ks => by
    rcases h.tri k with h | h | h
    · exact .inl (.here h)
    · subst h
      rcases hs.tri ks with h | h | h
      · exact .inl (.there h)
      · exact .inr (.inl (by rw [h]))
      · exact .inr (.inr (.there h))
    · exact .inr (.inr (.here h))
end
/-! where < answers, it answers by the order -/
mutual
theorem LtR.order : ∀ {d e : PyData} {b : Bool}, LtR d e b → KD d → KD e → (b = true ↔ KLt d e)
  | _, _, _, .int i j, _, _ => by
    rw [decide_eq_true_eq]
    exact ⟨.int, fun h => by cases h; assumption⟩
  | _, _, _, .tup h, .tup k, .tup l => by
    rw [h.order k l]
    exact ⟨.tup, fun h => by cases h; assumption⟩
theorem LtA.order : ∀ {ds es : List PyData} {b : Bool}, LtA ds es b → KDs ds → KDs es → (b = true ↔ KLs ds es)
  | _, _, _, .nn, _, _ => ⟨(fun h => by cases h), (fun h => by cases h)⟩
  | _, _, _, .nc, _, _ => ⟨fun _ => .nil, fun _ => rfl⟩
  | _, _, _, .cn, _, _ => ⟨(fun h => by cases h), (fun h => by cases h)⟩
  | _, _, _, .eq he h, .cons k ks, .cons l ls => by
    have e := (k.eqv l).mp he
    subst e
    rw [h.order ks ls]
    refine ⟨.there, fun h => ?_⟩
    cases h with
    | here h => exact (h.irr rfl).elim
    | there h => exact h
  | _, _, _, .ne he h, .cons k ks, .cons l ls => by
    have e : _ ≠ _ := fun z => Bool.eq_false_iff.mp he ((k.eqv l).mpr z)
    rw [h.order k l]
    refine ⟨.here, fun h => ?_⟩
    cases h with
    | here h => exact h
    | there h => exact (e rfl).elim
end
/-! two keys that < can be asked of: of one make where they first differ -/
mutual
inductive Sim : PyData → PyData → Prop
  | int (i j : Int) : Sim (.int i) (.int j)
  | tup {ds es : List PyData} : Sims ds es → Sim (.tuple ds) (.tuple es)
inductive Sims : List PyData → List PyData → Prop
  | nil {es : List PyData} : Sims [] es
  | end_ {ds : List PyData} : Sims ds []
  | cons {d e : PyData} {ds es : List PyData} : Sim d e → (d = e → Sims ds es) → Sims (d :: ds) (e :: es)
end
theorem eqv_cases {d e : PyData} (hd : KD d) (he : KD e) : (PyData.eqv d e = true ∧ d = e) ∨ (PyData.eqv d e = false ∧ d ≠ e) := by
  cases h : PyData.eqv d e with
  | true => exact .inl ⟨rfl, (hd.eqv he).mp h⟩
  | false => exact .inr ⟨rfl, fun z => by rw [(hd.eqv he).mpr z] at h; cases h⟩
mutual
theorem Sim.lt : ∀ {d e : PyData}, Sim d e → KD d → KD e → ∃ b, LtR d e b
  | _, _, .int i j, _, _ => ⟨_, .int i j⟩
  | _, _, .tup h, .tup k, .tup l => by
    obtain ⟨b, hb⟩ := h.lt k l
    exact ⟨b, .tup hb⟩
theorem Sims.lt : ∀ {ds es : List PyData}, Sims ds es → KDs ds → KDs es → ∃ b, LtA ds es b
  | _, [], .nil, _, _ => ⟨_, .nn⟩
  | _, _ :: _, .nil, _, _ => ⟨_, .nc⟩
  | [], _, .end_, _, _ => ⟨_, .nn⟩
  | _ :: _, _, .end_, _, _ => ⟨_, .cn⟩
  | _, _, .cons h hs, .cons k ks, .cons l ls => by
    rcases eqv_cases k l with ⟨a, c⟩ | ⟨a, c⟩
    · obtain ⟨b, hb⟩ := (hs c).lt ks ls
      exact ⟨b, .eq a hb⟩
    · obtain ⟨b, hb⟩ := h.lt k l
      exact ⟨b, .ne a hb⟩
end
end L2
namespace L2
open PySem
section
variable {src : List (Option Nat)} {te : TE} {σ : St} {H : Hp} {Q : VK}
/-- a comprehension whose things keep a promise each, apart from its own list -/
theorem lc_relD {J : It} {P : Hp → Prop} {xs : List V} (hJ : ItSeq J P xs) {H1 : Hp} {D : Addr} (Rl : Nat → V → Hp → Prop) (st : ∀ i y H H', Rl i y H → Same H H' → Rl i y H') (su : ∀ i y H zs zs', Rl i y H → H D = some (.lst zs) → Rl i y (upd H D (.lst zs')))
    (hP : ∀ H', Same H1 H' → P H') (hD : H1 D = none) (hlen : xs.length ≤ 100000)
    (step : ∀ (i : Nat) x H' zs, xs[i]? = some x → Same H1 H' → H' D = some (.lst zs) → ∀ R : VK, (∀ y H'', Same H' H'' → Rl i y H'' → R y H'') → te (some x :: capSt src σ) H' R)
    (fin : ∀ (ys : List V) H', Same H1 H' → H' D = some (.lst ys) → ys.length = xs.length → (∀ (j : Nat) y, ys[j]? = some y → Rl j y H') → Q (.ref D) H') : LC (none :: src) J (gName 0) tYes te σ H1 Q D := by
  have h6 : 100000 < sizeLine := by decide
  refine lc_on hJ (fun i zs σ' H' => zs.length = i ∧ (∃ o, σ' = o :: capSt src σ) ∧ Same H1 H' ∧ H' D = some (.lst zs) ∧ ∀ (j : Nat) y, zs[j]? = some y → Rl j y H')
    ⟨rfl, ⟨none, rfl⟩, .upd_new hD _, upd_same, fun j y h => by simp at h⟩ (fun i zs σ' H' ⟨_, _, p1, p2, _⟩ => ⟨hP _ p1, p2⟩) (gName_mono 0) ?_ ?_
  · rintro i zs σ' H' x hx ⟨hi', ⟨o, rfl⟩, sm, hd, hts⟩
    have hi := (List.getElem?_eq_some_iff.mp hx).1
    show te (some x :: capSt src σ) H' _
    refine step i x H' zs hx sm hd _ fun y H'' s2 hy => ⟨s2 _ _ hd, by omega, by simp [hi'], ⟨_, rfl⟩, .upd_over hD (sm.trans s2) _, upd_same, fun j z hj => su _ _ _ _ _ ?_ (s2 _ _ hd)⟩
    rcases Nat.lt_trichotomy j zs.length with h1 | h1 | h1
    · rw [List.getElem?_append_left h1] at hj
      exact st _ _ _ _ (hts j z hj) s2
    · have hb : y = z := by subst h1; simpa using hj
      subst hb
      rw [h1, hi']
      exact hy
    · rw [List.getElem?_eq_none (by rw [List.length_append, List.length_singleton]; omega)] at hj; cases hj
  · rintro zs σ' H' ⟨hn, _, sm, hd, hts⟩
    exact fin zs H' sm hd hn hts
theorem tLC_relDT {K : PySem.W.Frag} {tl : TE} {xs : List V} {b : Addr} (Rl : Addr → Nat → V → Hp → Prop) (st : ∀ D i y H H', Rl D i y H → Same H H' → Rl D i y H') (su : ∀ D i y H zs zs', Rl D i y H → H D = some (.lst zs) → Rl D i y (upd H D (.lst zs')))
    (ha : ∀ R : V → Hp → Prop, R (.ref b) H → tl σ H R) (hS : SqT K H b xs) (hlen : xs.length ≤ 100000)
    (step : ∀ D (i : Nat) x H' zs, xs[i]? = some x → Same H H' → H' D = some (.lst zs) → ∀ R : VK, (∀ y H'', Same H' H'' → Rl D i y H'' → R y H'') → te (some x :: capSt src σ) H' R)
    (fin : ∀ D (ys : List V) H', H D = none → Same H H' → H' D = some (.lst ys) → ys.length = xs.length → (∀ (j : Nat) y, ys[j]? = some y → Rl D j y H') → Q (.ref D) H') : tLC (none :: src) (iTup K tl) (gName 0) tYes te σ H Q :=
  ha _ ⟨b, rfl, ⟨xs, hS⟩, fun D hD => lc_relD (itseq_tup.imp fun H' (e : Same H H') => e.tup hS) (Rl D) (st D) (su D) (fun _ e => e) hD hlen (fun i x H' zs hx sm hd R r => step D i x H' zs hx sm hd R r) fun ys H' sm => fin D ys H' hD sm⟩
end
end L2
namespace L2
open PySem
/-! values with the lists that stand in them, in their order -/
mutual
inductive VL (H : Hp) : V → PyData → List Addr → Prop
  | int (i : Int) : VL H (.int i) (.int i) []
  | str (x : Str) (h : PyData.strOk x = true) : VL H (.str x) (.str x) []
  | lst {a : Addr} {vs : List V} {ds : List PyData} {L : List Addr} : H a = some (.lst vs) → vs.length ≤ 10000 → VLs H vs ds L → VL H (.ref a) (.list ds) (a :: L)
  | tup {a : Addr} {vs : List V} {ds : List PyData} {L : List Addr} : H a = some (.tup vs) → vs.length ≤ 10000 → VLs H vs ds L → VL H (.ref a) (.tuple ds) L
inductive VLs (H : Hp) : List V → List PyData → List Addr → Prop
  | nil : VLs H [] [] []
  | cons {v : V} {d : PyData} {L : List Addr} {vs : List V} {ds : List PyData} {L' : List Addr} : VL H v d L → VLs H vs ds L' → VLs H (v :: vs) (d :: ds) (L ++ L')
end
/-- tuples stay -/
def Tps (H H' : Hp) : Prop := ∀ a vs, H a = some (.tup vs) → H' a = some (.tup vs)
theorem Tps.upd_lst {H : Hp} {p : Addr} {xs ys : List V} (h : H p = some (.lst xs)) : Tps H (upd H p (.lst ys)) := fun a vs ha => by
  rw [upd_ne (ne_of ha h (by intro z; cases z))]; exact ha
mutual
theorem VL.keepL {H H' : Hp} (t : Tps H H') : ∀ {v : V} {d : PyData} {L : List Addr}, VL H v d L → (∀ a ∈ L, ∀ vs, H a = some (.lst vs) → H' a = some (.lst vs)) → VL H' v d L
  | _, _, _, .int i, _ => .int i
  | _, _, _, .str x h, _ => .str x h
  | _, _, _, .lst h hn hs, e => .lst (e _ (.head _) _ h) hn (hs.keepL t fun a ha => e a (.tail _ ha))
  | _, _, _, .tup h hn hs, e => .tup (t _ _ h) hn (hs.keepL t e)
theorem VLs.keepL {H H' : Hp} (t : Tps H H') : ∀ {vs : List V} {ds : List PyData} {L : List Addr}, VLs H vs ds L → (∀ a ∈ L, ∀ vs, H a = some (.lst vs) → H' a = some (.lst vs)) → VLs H' vs ds L
  | _, _, _, .nil, _ => .nil
  | _, _, _, .cons h hs, e => .cons (h.keepL t fun a ha => e a (List.mem_append_left _ ha)) (hs.keepL t fun a ha => e a (List.mem_append_right _ ha))
end
mutual
theorem VL.mem {H : Hp} : ∀ {v : V} {d : PyData} {L : List Addr}, VL H v d L → ∀ a ∈ L, ∃ vs, H a = some (.lst vs) ∧ vs.length ≤ 10000
  | _, _, _, .lst (a := b) h hn hs, a, ha => by
    rcases List.mem_cons.mp ha with e | ha
    · subst e; exact ⟨_, h, hn⟩
    · exact hs.mem a ha
  | _, _, _, .tup h hn hs, a, ha => hs.mem a ha
theorem VLs.mem {H : Hp} : ∀ {vs : List V} {ds : List PyData} {L : List Addr}, VLs H vs ds L → ∀ a ∈ L, ∃ vs, H a = some (.lst vs) ∧ vs.length ≤ 10000
  | _, _, _, .cons h hs, a, ha => by
    rcases List.mem_append.mp ha with ha | ha
    · exact h.mem a ha
    · exact hs.mem a ha
end
mutual
theorem VL.den {K : PySem.W.Frag} {H : Hp} : ∀ {v : V} {d : PyData} {L : List Addr}, VL H v d L → Den K H v d
  | _, _, _, .int i => .int i
  | _, _, _, .str x h => .str x h
  | _, _, _, .lst h _ hs => .lst (SqL.of h) hs.den
  | _, _, _, .tup h _ hs => .tup (SqT.of h) hs.den
theorem VLs.den {K : PySem.W.Frag} {H : Hp} : ∀ {vs : List V} {ds : List PyData} {L : List Addr}, VLs H vs ds L → Dens K H vs ds
  | _, _, _, .nil => .nil
  | _, _, _, .cons h hs => .cons h.den hs.den
end
/-- its lists are all new, each but once -/
structure Own (H0 H : Hp) (v : V) (d : PyData) (L : List Addr) : Prop where
  vl : VL H v d L
  nd : L.Nodup
  new : ∀ a ∈ L, H0 a = none
structure Owns (H0 H : Hp) (vs : List V) (ds : List PyData) (L : List Addr) : Prop where
  vl : VLs H vs ds L
  nd : L.Nodup
  new : ∀ a ∈ L, H0 a = none
section
variable {src : List (Option Nat)} {te : TE} {σ : St} {H : Hp} {Q : VK}
/-- so many turns of range(0, n, c) -/
def UpTo (n c m : Nat) : Prop := (∀ i, i < m → i * c < n) ∧ n ≤ m * c
/-- what is left of a list by the places -/
def sel (p : Nat → Bool) (ds : List PyData) (n : Nat) : List PyData := ((List.range n).filter p).filterMap (ds[·]?)
end
end L2
namespace L2
open PySem PySem.Spec PyProof.Rows
section
variable {X : Cx} {pos : Pos}
def rStarts : V → List V → Hp → VK → Prop := fun x vs H Q => ∃ (z y : Str), x = .str z ∧ vs = [.str y] ∧ Q (.bl (Txt.startswith z y)) H
theorem mt_starts : MtR X "str.startswith" rStarts := by
  intro pins s σ H x vs v us Q I rx r h
  obtain ⟨z, y, rfl, rfl, q⟩ := h
  obtain ⟨t, rfl⟩ := rx
  obtain ⟨u, rfl, ru⟩ := vals1 r
  obtain ⟨t', rfl⟩ := ru
  exact call_gives F.slot_str_startswith (typeIs_str s z t) F.entry_str_startswith (F.args_str_startswith_2 _ _) (gives_str_startswith z y t t') ⟨.bl _, H, I, rfl, q⟩
theorem call_int_text : CallR X (.type "int") (fun xs H Q => ∃ x n, xs = [.str x] ∧ PySem.intText? x = some n ∧ x.length ≤ 640 ∧ Q (.int n) H) := by
  intro pins s σ H xs us Q I r h
  obtain ⟨x, n, rfl, hn, hl, q⟩ := h
  obtain ⟨u, rfl, t, rfl⟩ := vals1 r
  exact PySem.W.KIN.call_text hn hl ⟨.int n, H, I.tok _, ⟨_, rfl⟩, q⟩
end
/-- the signs of a number's text -/
def dg (i : Int) : List Nat := (Str.ofString (toString i)).cps.toList
theorem dg_str (i : Int) : Str.ofString (toString i) = S (dg i) := by unfold dg S; simp
theorem dg_nat (n : Nat) : dg (n : Int) = (Nat.toDigits 10 n).map Char.toNat := PySem.W.KIN.signs_num n
theorem dg_digits (n : Nat) : ∀ c ∈ dg (n : Int), 48 ≤ c ∧ c ≤ 57 := by
  intro c hc
  rw [dg_nat] at hc
  obtain ⟨ch, hch, e⟩ := List.mem_map.mp hc
  have r := PyProof.Rows.digit_range (Nat.isDigit_of_mem_toDigits (by decide) (by decide) hch)
  rw [← e]
  exact r
theorem dg_head {n : Nat} (h : 0 < n) : ∃ c r, dg (n : Int) = c :: r ∧ c ≠ 48 := by
  rw [dg_nat]
  induction n using Nat.strongRecOn with
  | _ m ih =>
    by_cases h1 : m < 10
    · rw [Nat.toDigits_of_lt_base h1]
      refine ⟨_, [], rfl, ?_⟩
      have : ∀ d : Nat, d < 10 → 0 < d → (Nat.digitChar d).toNat ≠ 48 := by decide
      exact this m h1 h
    · have hm : m % 10 < 10 := Nat.mod_lt m (by decide)
      have t : Nat.toDigits 10 (m / 10) ++ Nat.toDigits 10 (m % 10) = Nat.toDigits 10 (10 * (m / 10) + m % 10) := Nat.toDigits_append_toDigits (by decide) (by omega) hm
      rw [Nat.div_add_mod] at t
      obtain ⟨c, r, e, hc⟩ := ih (m / 10) (by omega) (by omega)
      rw [← t, List.map_append, e]
      exact ⟨c, _, rfl, hc⟩
theorem dg_ne (n : Nat) : dg (n : Int) ≠ [] := by
  by_cases h : n = 0
  · subst h; decide +kernel
  · obtain ⟨c, r, e, _⟩ := dg_head (n := n) (by omega)
    rw [e]; simp
theorem dg_neg {n : Nat} (h : 0 < n) : dg (-(n : Int)) = 45 :: dg (n : Int) := by
  obtain ⟨m, rfl⟩ : ∃ m, n = m + 1 := ⟨n - 1, by omega⟩
  rw [dg_nat]
  unfold dg
  rw [Str.ofString_eq_byList]
  show ((toString (Int.negSucc m)).toList.map Char.toNat) = _
  have e : toString (Int.negSucc m) = "-" ++ Nat.repr (m + 1) := rfl
  rw [e, String.toList_append, List.map_append, Nat.toList_repr]
  rfl
theorem dg_len {n k : Nat} (hk : 0 < k) (h : n < 10 ^ k) : (dg (n : Int)).length ≤ k := by
  rw [dg_nat, List.length_map]
  have := (Nat.length_repr_le_iff hk).mpr h
  rwa [← String.length_toList, Nat.toList_repr] at this
theorem dg_val {i : Int} (h : i.natAbs < 10 ^ 600) : PySem.intText? (S (dg i)) = some i := by
  have hl := dg_len (k := 600) (by decide) h
  rcases Int.natAbs_eq i with e | e
  · rw [e]
    have e1 : (S (dg (i.natAbs : Int))).cps.toList = dg (i.natAbs : Int) := S_list _
    have := PySem.intText_digits (x := S (dg (i.natAbs : Int))) (by rw [e1]; exact dg_digits _) (by rw [e1]; exact dg_ne _) (by rw [S_len]; omega)
    rw [this, e1, dg_nat, PySem.W.KIN.val_back]
  · by_cases h0 : i.natAbs = 0
    · have : i = 0 := by omega
      subst this
      decide +kernel
    · rw [e, dg_neg (by omega)]
      have e1 : (S (45 :: dg (i.natAbs : Int))).cps.toList = 45 :: dg (i.natAbs : Int) := S_list _
      have := PySem.intText_neg (x := S (45 :: dg (i.natAbs : Int))) e1 (dg_digits _) (dg_ne _) (by rw [S_len, List.length_cons]; omega)
      rw [this, dg_nat, PySem.W.KIN.val_back]
end L2
namespace L2
open PySem
section
variable {src : List (Option Nat)} {te : TE} {σ : St} {H : Hp} {Q : VK}
/-- a comprehension over range(n) with a promise of its own, that need not keep the heap -/
theorem tLC_rangeI {ta : TA} {n : Nat} (I : Addr → Nat → List V → Hp → Prop) (ha : ∀ R : List V → Hp → Prop, R [.int n] H → ta σ H R) (hlen : n ≤ 100000)
    (i0 : ∀ D, H D = none → I D 0 [] (upd H D (.lst []))) (dl : ∀ D i zs H', I D i zs H' → zs.length = i ∧ H' D = some (.lst zs))
    (step : ∀ D (i : Nat) zs H', H D = none → i < n → I D i zs H' → ∀ R : VK, (∀ y H'', H'' D = some (.lst zs) → I D (i + 1) (zs ++ [y]) (upd H'' D (.lst (zs ++ [y]))) → R y H'') → te (some (.int i) :: capSt src σ) H' R)
    (fin : ∀ D zs H', H D = none → I D n zs H' → Q (.ref D) H') : tLC (none :: src) (iRng1 ta) (gName 0) tYes te σ H Q := by
  refine ha _ ⟨n, rfl, by omega, by omega, fun D hD => ?_⟩
  have h6 : 100000 < sizeLine := by decide
  refine lc_on (itseq_range (lo := 0) (n := n) (P := fun _ => True)) (fun i zs σ' H' => (∃ o, σ' = o :: capSt src σ) ∧ i ≤ n ∧ I D i zs H') ⟨⟨none, rfl⟩, Nat.zero_le _, i0 D hD⟩ (fun i zs σ' H' q => ⟨trivial, (dl _ _ _ _ q.2.2).2⟩) (gName_mono 0) ?_ ?_
  · rintro i zs σ' H' x hx ⟨⟨o, rfl⟩, _, hI⟩
    have hi : i < n := by have := (List.getElem?_eq_some_iff.mp hx).1; simpa using this
    rw [List.getElem?_map, List.getElem?_range hi] at hx
    have e : V.int (0 + (i : Int)) = x := Option.some.inj hx
    rw [Int.zero_add] at e
    subst e
    have hl := (dl _ _ _ _ hI).1
    show te (some (.int i) :: capSt src σ) H' _
    exact step D i zs H' hD hi hI _ fun y H'' hd hI' => ⟨hd, by omega, ⟨_, rfl⟩, hi, hI'⟩
  · rintro zs σ' H' ⟨_, _, hI⟩
    exact fin D zs H' hD (by simpa using hI)
end
end L2
set_option maxHeartbeats 8000000
namespace KW
open PySem L2

def top (i : Nat) : Stmt := PySem.Challenge.pw_countgen_k50_terms_read.main.body.getD i (.Pass ⟨0, 0, 0, 0⟩)
abbrev s_is_figure : Stmt := top 9
abbrev s_is_small_letter : Stmt := top 10
abbrev s_is_letter_or_figure : Stmt := top 11
abbrev s_is_word_sign : Stmt := top 12
abbrev s_is_label : Stmt := top 13
abbrev s_refuse_crowded : Stmt := top 15
abbrev s_read_note : Stmt := top 16
abbrev s_is_number_word : Stmt := top 19
theorem sc_is_number_word : FnScope ["word", "figures"] ["word"] (defScope s_is_number_word) := ⟨rfl, rfl, rfl, by decide +kernel, rfl, by decide +kernel, by decide +kernel⟩
abbrev s_lone_word : Stmt := top 20
theorem sc_lone_word : FnScope ["note"] ["note"] (defScope s_lone_word) := ⟨rfl, rfl, rfl, by decide +kernel, rfl, by decide +kernel, by decide +kernel⟩
abbrev s_number_drafted : Stmt := top 21
theorem sc_number_drafted : FnScope ["note", "word"] ["note"] (defScope s_number_drafted) := ⟨rfl, rfl, rfl, by decide +kernel, rfl, by decide +kernel, by decide +kernel⟩
abbrev s_refuse_other_many : Stmt := top 26
theorem sc_refuse_other_many : FnScope ["notes", "many"] ["notes", "many"] (defScope s_refuse_other_many) := ⟨rfl, rfl, rfl, by decide +kernel, rfl, by decide +kernel, by decide +kernel⟩
abbrev s_place_of_note : Stmt := top 27
theorem sc_place_of_note : FnScope ["note", "place"] ["note"] (defScope s_place_of_note) := ⟨rfl, rfl, rfl, by decide +kernel, rfl, by decide +kernel, by decide +kernel⟩
abbrev s_part_of_notes : Stmt := top 28
theorem sc_part_of_notes : FnScope ["notes"] ["notes"] (defScope s_part_of_notes) := ⟨rfl, rfl, rfl, by decide +kernel, rfl, by decide +kernel, by decide +kernel⟩
abbrev s_one_of_notes : Stmt := top 29
theorem sc_one_of_notes : FnScope ["mark", "notes"] ["mark", "notes"] (defScope s_one_of_notes) := ⟨rfl, rfl, rfl, by decide +kernel, rfl, by decide +kernel, by decide +kernel⟩
abbrev s_several_of_notes : Stmt := top 30
theorem sc_several_of_notes : FnScope ["mark", "notes", "many"] ["mark", "notes", "many"] (defScope s_several_of_notes) := ⟨rfl, rfl, rfl, by decide +kernel, rfl, by decide +kernel, by decide +kernel⟩
abbrev s_term_of_word : Stmt := top 31
theorem sc_term_of_word : FnScope ["word"] ["word"] (defScope s_term_of_word) := ⟨rfl, rfl, rfl, by decide +kernel, rfl, by decide +kernel, by decide +kernel⟩
abbrev s_term_of_note : Stmt := top 32
theorem sc_term_of_note : FnScope ["note", "mark", "notes"] ["note"] (defScope s_term_of_note) := ⟨rfl, rfl, rfl, by decide +kernel, rfl, by decide +kernel, by decide +kernel⟩
abbrev s_read_term : Stmt := top 33
theorem sc_read_term : FnScope ["text"] ["text"] (defScope s_read_term) := ⟨rfl, rfl, rfl, by decide +kernel, rfl, by decide +kernel, by decide +kernel⟩
abbrev s_inner_terms : Stmt := top 34
theorem sc_inner_terms : FnScope ["term", "mark"] ["term"] (defScope s_inner_terms) := ⟨rfl, rfl, rfl, by decide +kernel, rfl, by decide +kernel, by decide +kernel⟩
abbrev s_show_term : Stmt := top 35
theorem sc_show_term : FnScope ["term", "mark", "shown"] ["term"] (defScope s_show_term) := ⟨rfl, rfl, rfl, by decide +kernel, rfl, by decide +kernel, by decide +kernel⟩
abbrev s_law_take : Stmt := top 37
theorem sc_law_take : FnScope ["_law_cells", "_law_many"] ["_law_cells", "_law_many"] (defScope s_law_take) := ⟨rfl, rfl, rfl, by decide +kernel, rfl, by decide +kernel, by decide +kernel⟩
abbrev s_law_term : Stmt := top 38
theorem sc_law_term : FnScope ["_law_cells", "_law_left", "_law_first", "_law_kind", "_law_mark"] ["_law_cells", "_law_left"] (defScope s_law_term) := ⟨rfl, rfl, rfl, by decide +kernel, rfl, by decide +kernel, by decide +kernel⟩
abbrev s_law_text : Stmt := top 39
theorem sc_law_text : FnScope ["_law_term_here", "_law_mark"] ["_law_term_here"] (defScope s_law_text) := ⟨rfl, rfl, rfl, by decide +kernel, rfl, by decide +kernel, by decide +kernel⟩
abbrev s_law_same : Stmt := top 40
theorem sc_law_same : FnScope ["_law_found", "_law_due"] ["_law_found", "_law_due"] (defScope s_law_same) := ⟨rfl, rfl, rfl, by decide +kernel, rfl, by decide +kernel, by decide +kernel⟩
abbrev s_law : Stmt := top 41
theorem sc_law : FnScope ["_law_script", "_law_term_here", "_law_text_here"] ["_law_script"] (defScope s_law) := ⟨rfl, rfl, rfl, by decide +kernel, rfl, by decide +kernel, by decide +kernel⟩
abbrev s_NoteReader___init__ : Stmt := inClass (top 14) 0
abbrev s_NoteReader_sign_here : Stmt := inClass (top 14) 1
abbrev s_NoteReader_takes : Stmt := inClass (top 14) 2
abbrev s_NoteReader_word_signs : Stmt := inClass (top 14) 3
abbrev s_NoteReader_labelled_note : Stmt := inClass (top 14) 4
abbrev s_NoteReader_bracketed_notes : Stmt := inClass (top 14) 5
abbrev s_NoteReader_at_end : Stmt := inClass (top 14) 6
variable {g : Gx}
local macro_rules | `(tactic| walk_at "sd") => `(tactic| simp (config := { failIfUnchanged := false, maxSteps := 10000000 }) only [l_num, l_here, l_count, l_sum, l_not, l_turned, l_plus, l_times, l_less, l_same, l_both, l_each, l_joined, l_part, l_when, ms_inj, in_cons, in_nil, Bool.or_false, Bool.false_or, Bool.or_self, Bool.true_or, Bool.or_true, reduceCtorEq, V.str.injEq, List.mem_cons, List.not_mem_nil, or_false, false_or, or_true, true_or, or_self, not_true_eq_false, not_false_eq_true, if_true, if_false, ite_true, ite_false, decide_true, decide_false, Bool.false_eq_true, and_true, true_and, and_false, false_and, false_implies, true_implies])
local macro_rules | `(tactic| walk_at "gn") => `(tactic| simp only [gName, List.set_cons_zero, List.set_cons_succ])
local macro_rules | `(tactic| walk_at "rd") => `(tactic| simp (config := { failIfUnchanged := false, maxSteps := 10000000 }) only [L2.start, cxOf_K, nox_K, List.map_cons, List.map_nil, List.length_cons, List.length_nil, List.cons_append, List.nil_append, List.replicate_succ, List.replicate_zero, Nat.zero_add, Nat.reduceAdd, Nat.reduceSub, Nat.sub_self, tSeq, tIfS, tTest, tOp, tC, tVar, rI0, rI, rU, tUn, tRet, tRetN, tDrop, tNext, tBreak, tCont, tAsg, gName, gNil, gCons, tCons, tNil, tCB, tCall, tTry, tTryAs, tRaise, sFld, tFld, tMake, tMeth, Ends.gone, caught_K, tB, tAnd, tOr, tNot, tAndV, tOrV, tNotV, tIf, tChain, tNoPart, tPart, tSl, tNever, tAug, rIxL, rIxT, rSlL, tLst, tTup, gTup, tRev, tLZ, tConT, tDict0, rBits, rFind, rIn, tBM, tBM0, rAppend, rReverse, rEq, rNe, scal_ii, scal_ss, rCat, rSetL, gSub, ipI, capSt, List.getD_cons_zero, List.getD_cons_succ, decide_true, not_true_eq_false, not_false_eq_true,
  exists_eq_left', exists_eq_left, exists_eq', exists_eq, exists_and_left, and_assoc, Option.some.injEq, V.int.injEq, V.bl.injEq, V.ref.injEq, V.str.injEq, List.getElem?_cons_zero, List.getElem?_cons_succ, List.set_cons_zero, List.set_cons_succ, List.cons.injEq, and_true, true_and, List.append_nil, decide_eq_true_eq, Bool.not_eq_true', decide_eq_false_iff_not, Bool.not_not, Bool.not_true, Bool.not_false, Bool.true_eq_false, Bool.false_eq_true, if_true, if_false, ite_true, ite_false])
theorem cm {i j : Int} {m n : Nat} (h1 : i.natAbs < 2 ^ m) (h2 : j.natAbs < 2 ^ n) (h : m + n ≤ 100000000 := by decide) : CMulB i j := ⟨m, n, h1, h2, h⟩
theorem cpow {i j : Int} (h : 0 ≤ j ∧ j ≤ 1000000 ∧ i.natAbs < 2 ^ 64 := by decide) : CPow i j := h
theorem few {n : Nat} (h : n ≤ 100000) : n ≤ sizeLine := Nat.le_trans h (by decide)
theorem mod_nat (x : Int) {j : Int} (h : 0 < j) : ∃ r : Nat, x % j = r ∧ (r : Int) < j := ⟨(x % j).toNat, by have := Int.emod_nonneg x (Int.ne_of_gt h); omega, by have := Int.emod_lt_of_pos x h; have := Int.emod_nonneg x (Int.ne_of_gt h); omega⟩
end KW
set_option maxHeartbeats 8000000
namespace KW
open PySem L2

variable {g : Gx}
variable {C : Addr}
local macro_rules | `(tactic| walk_at "sd") => `(tactic| simp (config := { failIfUnchanged := false, maxSteps := 10000000 }) only [l_num, l_here, l_count, l_sum, l_not, l_turned, l_plus, l_times, l_less, l_same, l_both, l_each, l_joined, l_part, l_when, ms_inj, in_cons, in_nil, Bool.or_false, Bool.false_or, Bool.or_self, Bool.true_or, Bool.or_true, reduceCtorEq, V.str.injEq, List.mem_cons, List.not_mem_nil, or_false, false_or, or_true, true_or, or_self, not_true_eq_false, not_false_eq_true, if_true, if_false, ite_true, ite_false, decide_true, decide_false, Bool.false_eq_true, and_true, true_and, and_false, false_and, false_implies, true_implies])

local macro_rules | `(tactic| walk_at "gn") => `(tactic| simp only [gName, List.set_cons_zero, List.set_cons_succ])

local macro_rules | `(tactic| walk_at "rd") => `(tactic| simp (config := { failIfUnchanged := false, maxSteps := 10000000 }) only [L2.start, cxOf_K, nox_K, List.map_cons, List.map_nil, List.length_cons, List.length_nil, List.cons_append, List.nil_append, List.replicate_succ, List.replicate_zero, Nat.zero_add, Nat.reduceAdd, Nat.reduceSub, Nat.sub_self, tSeq, tIfS, tTest, tOp, tC, tVar, rI0, rI, rU, tUn, tRet, tRetN, tDrop, tNext, tBreak, tCont, tAsg, gName, gNil, gCons, tCons, tNil, tCB, tCall, tTry, tTryAs, tRaise, sFld, tFld, tMake, tMeth, Ends.gone, caught_K, tB, tAnd, tOr, tNot, tAndV, tOrV, tNotV, tIf, tChain, tNoPart, tPart, tSl, tNever, tAug, rIxL, rIxT, rSlL, tLst, tTup, gTup, tRev, tLZ, tConT, tDict0, rBits, rFind, rIn, tBM, tBM0, rAppend, rReverse, rEq, rNe, scal_ii, scal_ss, rCat, rSetL, gSub, ipI, capSt, List.getD_cons_zero, List.getD_cons_succ, decide_true, not_true_eq_false, not_false_eq_true,
  exists_eq_left', exists_eq_left, exists_eq', exists_eq, exists_and_left, and_assoc, Option.some.injEq, V.int.injEq, V.bl.injEq, V.ref.injEq, V.str.injEq, List.getElem?_cons_zero, List.getElem?_cons_succ, List.set_cons_zero, List.set_cons_succ, List.cons.injEq, and_true, true_and, List.append_nil, decide_eq_true_eq, Bool.not_eq_true', decide_eq_false_iff_not, Bool.not_not, Bool.not_true, Bool.not_false, Bool.true_eq_false, Bool.false_eq_true, if_true, if_false, ite_true, ite_false])

namespace Rd
/-! notes, as trees of code lists -/
mutual
inductive Note where
  | leaf (l w : List Nat)
  | node (l w : List Nat) (ks : Notes)
inductive Notes where
  | nil
  | cons (n : Note) (r : Notes)
end
def Note.lab : Note → List Nat
  | .leaf l _ => l
  | .node l _ _ => l
def Note.word : Note → List Nat
  | .leaf _ w => w
  | .node _ w _ => w
def Notes.snoc : Notes → Note → Notes
  | .nil, n => .cons n .nil
  | .cons m r, n => .cons m (r.snoc n)
def Notes.len : Notes → Nat
  | .nil => 0
  | .cons _ r => r.len + 1
/-- label and word -/
def head (l w : List Nat) : List Nat := if l = [] then w else l ++ 58 :: w
mutual
def txt : Note → List Nat
  | .leaf l w => head l w
  | .node l w ks => head l w ++ 40 :: (txts ks ++ [41])
/-- parted by commas -/
def txts : Notes → List Nat
  | .nil => []
  | .cons n .nil => txt n
  | .cons n (.cons m r) => txt n ++ 44 :: txts (.cons m r)
end
def isFig (c : Nat) : Bool := decide (48 ≤ c) && decide (c ≤ 57)
def isSmall (c : Nat) : Bool := decide (97 ≤ c) && decide (c ≤ 122)
def isBig (c : Nat) : Bool := decide (65 ≤ c) && decide (c ≤ 90)
def isLF (c : Nat) : Bool := isSmall c || isBig c || isFig c
def isWS (c : Nat) : Bool := isLF c || c == 45
/-- good words and labels -/
def okL (l : List Nat) : Prop := l.length ≤ 8 ∧ ∀ c ∈ l, isSmall c = true
def okW (w : List Nat) : Prop := 1 ≤ w.length ∧ w.length ≤ 62 ∧ ∀ c ∈ w, isWS c = true
mutual
/-- good, and at most d brackets deep -/
def Ok : Nat → Note → Prop
  | _, .leaf l w => okL l ∧ okW w
  | 0, .node _ _ _ => False
  | d + 1, .node l w ks => okL l ∧ okW w ∧ Oks d ks
def Oks : Nat → Notes → Prop
  | _, .nil => True
  | d, .cons n r => Ok d n ∧ Oks d r
end
theorem len_snoc : ∀ (ks : Notes) (n : Note), (ks.snoc n).len = ks.len + 1
  | .nil, _ => rfl
  | .cons m r, n => congrArg (· + 1) (len_snoc r n)
theorem small_ws {c : Nat} (h : isSmall c = true) : isWS c = true := by simp [isWS, isLF, h]
/-! the brackets -/
def stepD (d : Int) (c : Nat) : Int := if c = 40 then d + 1 else if c = 41 then d - 1 else d
def endD (d : Int) (t : List Nat) : Int := t.foldl stepD d
def okD (d : Int) : List Nat → Prop
  | [] => True
  | c :: r => stepD d c ≤ 6 ∧ okD (stepD d c) r
theorem endD_append (d : Int) (a b : List Nat) : endD d (a ++ b) = endD (endD d a) b := by simp [endD]
theorem okD_append : ∀ (a b : List Nat) (d : Int), okD d a → okD (endD d a) b → okD d (a ++ b)
  | [], b, d, _, h => h
  | c :: a, b, d, h, h' => ⟨h.1, okD_append a b _ h.2 h'⟩
theorem ws_plain {c : Nat} (h : isWS c = true) : c ≠ 40 ∧ c ≠ 41 ∧ c ≠ 44 ∧ c ≠ 58 := by
  simp [isWS, isLF, isSmall, isBig, isFig] at h
  omega
theorem plain_d : ∀ (t : List Nat) (d : Int), (∀ c ∈ t, c ≠ 40 ∧ c ≠ 41) → d ≤ 6 → endD d t = d ∧ okD d t
  | [], d, _, _ => ⟨rfl, trivial⟩
  | c :: t, d, h, hd => by
    obtain ⟨h1, h2⟩ := h c (by simp)
    have e : stepD d c = d := by simp [stepD, h1, h2]
    obtain ⟨a, b⟩ := plain_d t d (fun x hx => h x (by simp [hx])) hd
    refine ⟨?_, ?_⟩
    · show endD (stepD d c) t = d
      rw [e]; exact a
    · show stepD d c ≤ 6 ∧ okD (stepD d c) t
      rw [e]; exact ⟨hd, b⟩
theorem head_plain {l w : List Nat} (hl : okL l) (hw : okW w) : ∀ c ∈ head l w, c ≠ 40 ∧ c ≠ 41 := by
  intro c hc
  unfold head at hc
  split at hc
  · obtain ⟨a, b, _⟩ := ws_plain (hw.2.2 c hc); exact ⟨a, b⟩
  · simp at hc
    rcases hc with h | h | h
    · obtain ⟨a, b, _⟩ := ws_plain (small_ws (hl.2 c h)); exact ⟨a, b⟩
    · subst h; decide
    · obtain ⟨a, b, _⟩ := ws_plain (hw.2.2 c h); exact ⟨a, b⟩
mutual
theorem txt_d : ∀ (k : Nat) (n : Note) (d : Int), Ok k n → d + k ≤ 6 → endD d (txt n) = d ∧ okD d (txt n)
  | k, .leaf l w, d, h, hd => plain_d _ d (head_plain h.1 h.2) (by omega)
  | 0, .node l w ks, d, h, hd => h.elim
  | k + 1, .node l w ks, d, h, hd => by
    obtain ⟨hl, hw, hk⟩ := h
    obtain ⟨a, b⟩ := plain_d (head l w) d (head_plain hl hw) (by omega)
    obtain ⟨a', b'⟩ := txts_d k ks (d + 1) hk (by omega)
    have e40 : stepD d 40 = d + 1 := by simp [stepD]
    have e41 : stepD (d + 1) 41 = d := by simp [stepD]
    refine ⟨?_, ?_⟩
    · show endD d (head l w ++ 40 :: (txts ks ++ [41])) = d
      rw [endD_append, a]
      show endD (stepD d 40) (txts ks ++ [41]) = d
      rw [e40, endD_append, a']
      exact e41
    · show okD d (head l w ++ 40 :: (txts ks ++ [41]))
      refine okD_append _ _ _ b ?_
      rw [a]
      refine ⟨by rw [e40]; omega, ?_⟩
      rw [e40]
      refine okD_append _ _ _ b' ?_
      rw [a']
      exact ⟨by rw [e41]; omega, trivial⟩
theorem txts_d : ∀ (k : Nat) (ks : Notes) (d : Int), Oks k ks → d + k ≤ 6 → endD d (txts ks) = d ∧ okD d (txts ks)
  | k, .nil, d, _, _ => ⟨rfl, trivial⟩
  | k, .cons n .nil, d, h, hd => txt_d k n d h.1 hd
  | k, .cons n (.cons m r), d, h, hd => by
    obtain ⟨a, b⟩ := txt_d k n d h.1 hd
    obtain ⟨a', b'⟩ := txts_d k (.cons m r) d h.2 hd
    have e44 : stepD d 44 = d := by simp [stepD]
    refine ⟨?_, ?_⟩
    · show endD d (txt n ++ 44 :: txts (.cons m r)) = d
      rw [endD_append, a]
      show endD (stepD d 44) _ = d
      rw [e44]; exact a'
    · show okD d (txt n ++ 44 :: txts (.cons m r))
      refine okD_append _ _ _ b ?_
      rw [a]
      refine ⟨by rw [e44]; omega, ?_⟩
      rw [e44]; exact b'
end
end Rd
end KW
set_option maxHeartbeats 8000000
namespace KW
open PySem L2

variable {g : Gx}
variable {C : Addr}
local macro_rules | `(tactic| walk_at "sd") => `(tactic| simp (config := { failIfUnchanged := false, maxSteps := 10000000 }) only [l_num, l_here, l_count, l_sum, l_not, l_turned, l_plus, l_times, l_less, l_same, l_both, l_each, l_joined, l_part, l_when, ms_inj, in_cons, in_nil, Bool.or_false, Bool.false_or, Bool.or_self, Bool.true_or, Bool.or_true, reduceCtorEq, V.str.injEq, List.mem_cons, List.not_mem_nil, or_false, false_or, or_true, true_or, or_self, not_true_eq_false, not_false_eq_true, if_true, if_false, ite_true, ite_false, decide_true, decide_false, Bool.false_eq_true, and_true, true_and, and_false, false_and, false_implies, true_implies])

local macro_rules | `(tactic| walk_at "gn") => `(tactic| simp only [gName, List.set_cons_zero, List.set_cons_succ])

local macro_rules | `(tactic| walk_at "rd") => `(tactic| simp (config := { failIfUnchanged := false, maxSteps := 10000000 }) only [L2.start, cxOf_K, nox_K, List.map_cons, List.map_nil, List.length_cons, List.length_nil, List.cons_append, List.nil_append, List.replicate_succ, List.replicate_zero, Nat.zero_add, Nat.reduceAdd, Nat.reduceSub, Nat.sub_self, tSeq, tIfS, tTest, tOp, tC, tVar, rI0, rI, rU, tUn, tRet, tRetN, tDrop, tNext, tBreak, tCont, tAsg, gName, gNil, gCons, tCons, tNil, tCB, tCall, tTry, tTryAs, tRaise, sFld, tFld, tMake, tMeth, Ends.gone, caught_K, tB, tAnd, tOr, tNot, tAndV, tOrV, tNotV, tIf, tChain, tNoPart, tPart, tSl, tNever, tAug, rIxL, rIxT, rSlL, tLst, tTup, gTup, tRev, tLZ, tConT, tDict0, rBits, rFind, rIn, tBM, tBM0, rAppend, rReverse, rEq, rNe, scal_ii, scal_ss, rCat, rSetL, gSub, ipI, capSt, List.getD_cons_zero, List.getD_cons_succ, decide_true, not_true_eq_false, not_false_eq_true,
  exists_eq_left', exists_eq_left, exists_eq', exists_eq, exists_and_left, and_assoc, Option.some.injEq, V.int.injEq, V.bl.injEq, V.ref.injEq, V.str.injEq, List.getElem?_cons_zero, List.getElem?_cons_succ, List.set_cons_zero, List.set_cons_succ, List.cons.injEq, and_true, true_and, List.append_nil, decide_eq_true_eq, Bool.not_eq_true', decide_eq_false_iff_not, Bool.not_not, Bool.not_true, Bool.not_false, Bool.true_eq_false, Bool.false_eq_true, if_true, if_false, ite_true, ite_false])

namespace Rd
abbrev sFig : Stmt := s_is_figure
abbrev sSmall : Stmt := s_is_small_letter
abbrev sLF : Stmt := s_is_letter_or_figure
abbrev sWS : Stmt := s_is_word_sign
abbrev sLabel : Stmt := s_is_label
abbrev sInit : Stmt := s_NoteReader___init__
abbrev sHere : Stmt := s_NoteReader_sign_here
abbrev sTakes : Stmt := s_NoteReader_takes
abbrev sWord : Stmt := s_NoteReader_word_signs
abbrev sLN : Stmt := s_NoteReader_labelled_note
abbrev sBN : Stmt := s_NoteReader_bracketed_notes
abbrev sEnd : Stmt := s_NoteReader_at_end
abbrev sCrowd : Stmt := s_refuse_crowded
abbrev sRead : Stmt := s_read_note
/-! signs: texts of at most one sign -/
def spSign (f : Nat → Bool) : Sp := fun vs H Q _ => ∃ l : List Nat, vs = [.str (S l)] ∧ l.length ≤ 1 ∧ Q (.bl (l.any f)) H
theorem sign_cases {l : List Nat} (h : l.length ≤ 1) : l = [] ∨ ∃ c, l = [c] := by
  match l, h with
  | [], _ => exact .inl rfl
  | [c], _ => exact .inr ⟨c, rfl⟩
theorem lt_one (a b : Nat) : decide (([a] : List Nat) < [b]) = decide (a < b) := by
  by_cases h : a < b
  · rw [decide_eq_true h, decide_eq_true]
    exact List.Lex.rel h
  · rw [decide_eq_false h, decide_eq_false]
    intro z
    cases z with
    | rel z => exact h z
    | cons z => cases z
theorem lt_nil (b : Nat) : decide (([] : List Nat) < [b]) = true := decide_eq_true List.Lex.nil
theorem scFig : FnScope ["sign"] ["sign"] (defScope sFig) := ⟨rfl, rfl, rfl, by decide +kernel, rfl, by decide +kernel, by decide +kernel⟩
theorem range_sign (a b : Nat) (sa sb : Str) (ea : sa = S [a]) (eb : sb = S [b]) (l : List Nat) (hl : l.length ≤ 1) :
    (if (!decide ((S l).cps.toList < sa.cps.toList)) = true then !decide (sb.cps.toList < (S l).cps.toList) else false) = l.any fun c => decide (a ≤ c) && decide (c ≤ b) := by
  subst ea eb
  rw [S_list, S_list, S_list]
  rcases sign_cases hl with rfl | ⟨c, rfl⟩
  · rw [lt_nil]; rfl
  · rw [lt_one, lt_one]
    simp only [List.any_cons, List.any_nil, Bool.or_false]
    by_cases h1 : a ≤ c <;> by_cases h2 : c ≤ b <;> simp [h1, h2, Nat.not_lt] <;> omega
theorem ok_fig (R : g.Raw "is_figure" "is_figure" sFig ["sign"]) : g.Fn 1 "is_figure" ["sign"] (spSign isFig) := by
  refine R.fn scFig (fun vs H Q E h => by obtain ⟨l, rfl, _⟩ := h; rfl) fun f cdv A outer s H vs Q E hr h => ?_
  obtain ⟨l, rfl, hl, q⟩ := h
  refine ⟨_, pss_one (ps_ret (pe_chain op_le_str op_le_str pe_str (pv 0) pe_str)), ?_⟩
  have e := range_sign 48 57 _ _ (show ("0" : Str) = S [48] by decide +kernel) (show ("9" : Str) = S [57] by decide +kernel) l hl
  refine ⟨_, rfl, _, _, rfl, rfl, _, rfl, ?_⟩
  refine ite2 (fun c => ?_) (fun c => ?_)
  · rw [if_pos c] at e
    exact ⟨_, _, rfl, rfl, by rw [e]; exact q⟩
  · rw [if_neg c] at e
    show Q (.bl false) H
    rw [e]; exact q
theorem scSmall : FnScope ["sign"] ["sign"] (defScope sSmall) := ⟨rfl, rfl, rfl, by decide +kernel, rfl, by decide +kernel, by decide +kernel⟩
theorem ok_small (R : g.Raw "is_small_letter" "is_small_letter" sSmall ["sign"]) : g.Fn 1 "is_small_letter" ["sign"] (spSign isSmall) := by
  refine R.fn scSmall (fun vs H Q E h => by obtain ⟨l, rfl, _⟩ := h; rfl) fun f cdv A outer s H vs Q E hr h => ?_
  obtain ⟨l, rfl, hl, q⟩ := h
  refine ⟨_, pss_one (ps_ret (pe_chain op_le_str op_le_str pe_str (pv 0) pe_str)), ?_⟩
  have e := range_sign 97 122 _ _ (show ("a" : Str) = S [97] by decide +kernel) (show ("z" : Str) = S [122] by decide +kernel) l hl
  refine ⟨_, rfl, _, _, rfl, rfl, _, rfl, ?_⟩
  refine ite2 (fun c => ?_) (fun c => ?_)
  · rw [if_pos c] at e
    exact ⟨_, _, rfl, rfl, by rw [e]; exact q⟩
  · rw [if_neg c] at e
    show Q (.bl false) H
    rw [e]; exact q
theorem any_or (l : List Nat) (p r : Nat → Bool) : (l.any fun c => p c || r c) = (l.any p || l.any r) := by
  induction l with
  | nil => rfl
  | cons a l ih => simp only [List.any_cons, ih]; cases p a <;> cases r a <;> simp
theorem scLF : FnScope ["sign"] ["sign"] (defScope sLF) := ⟨rfl, rfl, rfl, by decide +kernel, rfl, by decide +kernel, by decide +kernel⟩
theorem ok_lf (R : g.Raw "is_letter_or_figure" "is_letter_or_figure" sLF ["sign"]) (F1 : g.Fn 1 "is_small_letter" ["sign"] (spSign isSmall)) (F2 : g.Fn 1 "is_figure" ["sign"] (spSign isFig)) :
    g.Fn 2 "is_letter_or_figure" ["sign"] (spSign isLF) := by
  refine R.fn scLF (fun vs H Q E h => by obtain ⟨l, rfl, _⟩ := h; rfl) fun f cdv A outer s H vs Q E hr h => ?_
  obtain ⟨l, rfl, hl, q⟩ := h
  refine ⟨_, pss_one (ps_ret (pe_or (pe_fn F1 hr (pa_cons (pv 0) pa_nil)) (pe_or (pe_chain op_le_str op_le_str pe_str (pv 0) pe_str) (pe_one (pe_fn F2 hr (pa_cons (pv 0) pa_nil)))))), ?_⟩
  have e := range_sign 65 90 _ _ (show ("A" : Str) = S [65] by decide +kernel) (show ("Z" : Str) = S [90] by decide +kernel) l hl
  have ea : l.any isLF = (l.any isSmall || (l.any isBig || l.any isFig)) := by
    have : isLF = fun c => isSmall c || (isBig c || isFig c) := by funext c; simp [isLF, Bool.or_assoc]
    rw [this, any_or, any_or]
  refine ⟨_, rfl, l, rfl, hl, _, rfl, ?_⟩
  refine ite2 (fun c => ?_) (fun c => ?_)
  · rw [ea, c] at q; exact q
  · refine ⟨_, rfl, _, _, rfl, rfl, _, rfl, ?_⟩
    have c0 : l.any isSmall = false := Bool.eq_false_iff.mpr c
    refine ite2 (fun c1 => ?_) (fun c1 => ?_)
    · rw [if_pos c1] at e
      refine ⟨_, _, rfl, rfl, _, rfl, ?_⟩
      refine ite2 (fun c2 => ?_) (fun c2 => ?_)
      · have eb : l.any isBig = true := e.symm.trans c2
        rw [ea, eb] at q; simpa using q
      · have eb : l.any isBig = false := e.symm.trans (Bool.eq_false_iff.mpr c2)
        refine ⟨_, rfl, l, rfl, hl, ?_⟩
        rw [ea, eb, c0] at q; simpa using q
    · rw [if_neg c1] at e
      have eb : l.any isBig = false := e.symm
      refine ⟨_, rfl, iteF ?_⟩
      refine ⟨_, rfl, l, rfl, hl, ?_⟩
      rw [ea, eb, c0] at q; simpa using q
theorem scWS : FnScope ["sign"] ["sign"] (defScope sWS) := ⟨rfl, rfl, rfl, by decide +kernel, rfl, by decide +kernel, by decide +kernel⟩
theorem ok_ws (R : g.Raw "is_word_sign" "is_word_sign" sWS ["sign"]) (F1 : g.Fn 2 "is_letter_or_figure" ["sign"] (spSign isLF)) : g.Fn 3 "is_word_sign" ["sign"] (spSign isWS) := by
  refine R.fn scWS (fun vs H Q E h => by obtain ⟨l, rfl, _⟩ := h; rfl) fun f cdv A outer s H vs Q E hr h => ?_
  obtain ⟨l, rfl, hl, q⟩ := h
  refine ⟨_, pss_one (ps_ret (pe_or (pe_fn F1 hr (pa_cons (pv 0) pa_nil)) (pe_one (pe_cmpR op_eq (pv 0) pe_str (nomark _))))), ?_⟩
  have ea : l.any isWS = (l.any isLF || l.any (· == 45)) := by
    have : isWS = fun c => isLF c || (c == 45) := by funext c; rfl
    rw [this, any_or]
  refine ⟨_, rfl, l, rfl, hl, _, rfl, ?_⟩
  refine ite2 (fun c => ?_) (fun c => ?_)
  · rw [ea, c] at q; exact q
  · have c0 : l.any isLF = false := Bool.eq_false_iff.mpr c
    refine ⟨_, rfl, rfl, ?_⟩
    have ed : (("-" : Str)) = S [45] := by decide +kernel
    have e2 : decide (V.str (S l) = V.str "-") = l.any (· == 45) := by
      rw [ed]
      rcases sign_cases hl with rfl | ⟨b, rfl⟩
      · rw [decide_eq_false (by intro z; injection z with z; have := S_inj z; cases this)]; rfl
      · by_cases hc : b = 45
        · subst hc; simp
        · rw [decide_eq_false (by intro z; injection z with z; have := S_inj z; injection this with this; exact hc this)]
          simp [hc]
    rw [ea, c0] at q
    show Q (.bl (decide (V.str (S l) = V.str "-"))) H
    rw [e2]; simpa using q
/-! labels -/
def spLabel : Sp := fun vs H Q _ => ∃ l : List Nat, vs = [.str (S l)] ∧ l.length ≤ 100000 ∧ ∀ H', Same H H' → Q (.bl (decide (1 ≤ l.length) && decide (l.length ≤ 8) && l.all isSmall)) H'
theorem line5 {n : Nat} (h : n ≤ 1000000) : n ≤ sizeLine := Nat.le_trans h (by decide)
theorem scLabel : FnScope ["text"] ["text"] (defScope sLabel) := ⟨rfl, rfl, rfl, by decide +kernel, rfl, by decide +kernel, by decide +kernel⟩
theorem ok_label (R : g.Raw "is_label" "is_label" sLabel ["text"]) (F1 : g.Fn 1 "is_small_letter" ["sign"] (spSign isSmall)) (c1 : g.Con "LONGEST_LABEL" (.int 8)) (bl : g.mg "len" = none) (ba : g.mg "all" = none) :
    g.Fn 2 "is_label" ["text"] spLabel := by
  refine R.fn scLabel (fun vs H Q E h => by obtain ⟨l, rfl, _⟩ := h; rfl) fun f cdv A outer s H vs Q E hr h => ?_
  obtain ⟨l, rfl, hl, q⟩ := h
  refine ⟨_, pss_one (ps_ret (pe_and (pe_chain op_le op_le pe_int (pe_bf bl call_len_str (pa_cons (pv 0) pa_nil)) (pe_gc c1))
    (pe_one (pe_bf ba (call_all_bools rfl) (pa_cons (pe_lc (src := [none]) (N' := ["sign"]) (.own .nil) rfl (pi_str (pv 0))
      (fun cl C s₀ H₀ fp pn => pg_name (i := 0) (show List.Nodup (["sign"] : List Str) by decide +kernel) rfl (Or.inl rfl)) (fun cl C s₀ H₀ fp pn => pts_nil) (fun cl C s₀ H₀ fp pn => pe_fn F1 hr (pa_cons (pv 0) pa_nil)) (by intro x hx; simp at hx)) pa_nil))))), ?_⟩
  have hlen : (S l).length = l.length := S_len l
  refine ⟨_, rfl, _, rfl, by rw [hlen]; exact line5 (by omega), _, _, rfl, rfl, _, rfl, ?_⟩
  rw [hlen]
  refine ite2 (fun c => ?_) (fun c => ?_)
  · have c' : (1 : Int) ≤ l.length := of_decide_eq_true c
    refine ⟨_, _, rfl, rfl, _, rfl, ?_⟩
    refine ite2 (fun d => ?_) (fun d => ?_)
    · have d' : (l.length : Int) ≤ 8 := of_decide_eq_true d
      refine ⟨_, rfl, S l, rfl, fun D hD => ?_⟩
      refine lc_on (src := [none]) (itseq_str (S l) (fun _ => True)) (fun i ys σ' H' => ys = (l.take i).map (fun c => V.bl (isSmall c)) ∧ σ'.length = 1 ∧ Same H H' ∧ H' D = some (.lst ys)) ⟨by simp, rfl, .upd_new hD _, upd_same⟩ (fun i ys σ' H' p => ⟨trivial, p.2.2.2⟩) (gName_mono 0) ?_ ?_
      · rintro i ys σ' H' x hx ⟨rfl, hσ, sm, hd⟩
        rw [S_list, List.getElem?_map] at hx
        cases e : l[i]? with
        | none => rw [e] at hx; simp at hx
        | some c =>
          rw [e] at hx
          have hx' : V.str ⟨#[c]⟩ = x := by simpa using hx
          subst hx'
          match σ', hσ with
          | [o], _ =>
            refine ⟨_, rfl, [c], rfl, by simp, hd, ?_, ?_⟩
            · simp
              have := (List.getElem?_eq_some_iff.mp e).1
              have h6 : 1000 < sizeLine := by decide
              omega
            · refine ⟨?_, rfl, .upd_over hD sm _, upd_same⟩
              obtain ⟨hi, hc⟩ := List.getElem?_eq_some_iff.mp e
              rw [List.take_succ_eq_append_getElem hi, hc]
              simp
      · rintro ys σ' H' ⟨rfl, hσ, sm, hd⟩
        refine ⟨D, l.map isSmall, rfl, SqL.of ?_, ?_⟩
        · rw [hd, S_list]
          simp [List.map_map]
        · have e : ((l.map isSmall).all id) = l.all isSmall := by simp [List.all_map]
          rw [e]
          have := q H' sm
          rw [decide_eq_true (show 1 ≤ l.length by omega), decide_eq_true (show l.length ≤ 8 by omega)] at this
          simpa using this
    · have d' : ¬ (l.length : Int) ≤ 8 := of_decide_eq_false (Bool.eq_false_iff.mpr d)
      have := q H (.refl H)
      rw [decide_eq_false (show ¬ l.length ≤ 8 by omega)] at this
      simpa using this
  · have c' : ¬ (1 : Int) ≤ l.length := of_decide_eq_false (Bool.eq_false_iff.mpr c)
    refine ⟨_, rfl, iteF ?_⟩
    have := q H (.refl H)
    rw [decide_eq_false (show ¬ 1 ≤ l.length by omega)] at this
    simpa using this
end Rd
end KW
set_option maxHeartbeats 8000000
namespace KW
open PySem L2

variable {g : Gx}
variable {C : Addr}
local macro_rules | `(tactic| walk_at "sd") => `(tactic| simp (config := { failIfUnchanged := false, maxSteps := 10000000 }) only [l_num, l_here, l_count, l_sum, l_not, l_turned, l_plus, l_times, l_less, l_same, l_both, l_each, l_joined, l_part, l_when, ms_inj, in_cons, in_nil, Bool.or_false, Bool.false_or, Bool.or_self, Bool.true_or, Bool.or_true, reduceCtorEq, V.str.injEq, List.mem_cons, List.not_mem_nil, or_false, false_or, or_true, true_or, or_self, not_true_eq_false, not_false_eq_true, if_true, if_false, ite_true, ite_false, decide_true, decide_false, Bool.false_eq_true, and_true, true_and, and_false, false_and, false_implies, true_implies])

local macro_rules | `(tactic| walk_at "gn") => `(tactic| simp only [gName, List.set_cons_zero, List.set_cons_succ])

local macro_rules | `(tactic| walk_at "rd") => `(tactic| simp (config := { failIfUnchanged := false, maxSteps := 10000000 }) only [L2.start, cxOf_K, nox_K, List.map_cons, List.map_nil, List.length_cons, List.length_nil, List.cons_append, List.nil_append, List.replicate_succ, List.replicate_zero, Nat.zero_add, Nat.reduceAdd, Nat.reduceSub, Nat.sub_self, tSeq, tIfS, tTest, tOp, tC, tVar, rI0, rI, rU, tUn, tRet, tRetN, tDrop, tNext, tBreak, tCont, tAsg, gName, gNil, gCons, tCons, tNil, tCB, tCall, tTry, tTryAs, tRaise, sFld, tFld, tMake, tMeth, Ends.gone, caught_K, tB, tAnd, tOr, tNot, tAndV, tOrV, tNotV, tIf, tChain, tNoPart, tPart, tSl, tNever, tAug, rIxL, rIxT, rSlL, tLst, tTup, gTup, tRev, tLZ, tConT, tDict0, rBits, rFind, rIn, tBM, tBM0, rAppend, rReverse, rEq, rNe, scal_ii, scal_ss, rCat, rSetL, gSub, ipI, capSt, List.getD_cons_zero, List.getD_cons_succ, decide_true, not_true_eq_false, not_false_eq_true,
  exists_eq_left', exists_eq_left, exists_eq', exists_eq, exists_and_left, and_assoc, Option.some.injEq, V.int.injEq, V.bl.injEq, V.ref.injEq, V.str.injEq, List.getElem?_cons_zero, List.getElem?_cons_succ, List.set_cons_zero, List.set_cons_succ, List.cons.injEq, and_true, true_and, List.append_nil, decide_eq_true_eq, Bool.not_eq_true', decide_eq_false_iff_not, Bool.not_not, Bool.not_true, Bool.not_false, Bool.true_eq_false, Bool.false_eq_true, if_true, if_false, ite_true, ite_false])

namespace Rd
/-! the reader: its text and its place -/
def fl (t : List Nat) (i : Nat) : List (Str × V) := [("text", .str (S t)), ("place", .int i)]
theorem ntp : ¬ (("text" : Str) = "place") := by decide +kernel
theorem fl_text (t : List Nat) (i : Nat) : (fl t i).lookup ("text" : Str) = some (.str (S t)) := rfl
theorem fl_place (t : List Nat) (i : Nat) : (fl t i).lookup ("place" : Str) = some (.int i) := by
  show List.lookup ("place" : Str) [(("text" : Str), V.str (S t)), (("place" : Str), V.int i)] = _
  have h : (("place" : Str) == ("text" : Str)) = false := by decide +kernel
  rw [List.lookup_cons, h, List.lookup_cons]
  simp
theorem fl_no (t : List Nat) (i : Nat) {m : Str} (h1 : (m == ("text" : Str)) = false) (h2 : (m == ("place" : Str)) = false) : (fl t i).lookup m = none := by
  show List.lookup m [(("text" : Str), V.str (S t)), (("place" : Str), V.int i)] = _
  rw [List.lookup_cons, h1, List.lookup_cons, h2]
  rfl
theorem fl_put (t : List Nat) (i j : Nat) : putF "place" (.int j) (fl t i) = fl t j := by
  show (if ("text" : Str) = "place" then _ else (("text" : Str), V.str (S t)) :: (if ("place" : Str) = "place" then [(("place" : Str), V.int j)] else _)) = _
  rw [if_neg ntp, if_pos rfl]
  rfl
theorem fl_new (t : List Nat) : putF "place" (.int 0) (putF "text" (.str (S t)) []) = fl t 0 := by
  show (if ("text" : Str) = "place" then _ else (("text" : Str), V.str (S t)) :: putF "place" (V.int 0) []) = _
  rw [if_neg ntp]
  rfl
/-- the class's facts -/
structure Txt (g : Gx) (C : Addr) : Prop where
  cl : Cls g.K C
  nT : NoAttr g.K C "text"
  nP : NoAttr g.K C "place"
def At (C : Addr) (H : Hp) (p dx : Addr) (t : List Nat) (i : Nat) : Prop := H p = some (.ins C dx (fl t i))
abbrev mv (C : Addr) (H : Hp) (p dx : Addr) (t : List Nat) (i : Nat) : Hp := upd H p (.ins C dx (fl t i))
def spInit (C : Addr) : Sp := fun vs H Q _ => ∃ (p dx : Addr) (t : List Nat), vs = [.ref p, .str (S t)] ∧ H p = some (.ins C dx []) ∧ Q .non (mv C H p dx t 0)
def spHere (C : Addr) : Sp := fun vs H Q _ => ∃ (p dx : Addr) (t : List Nat) (i : Nat), vs = [.ref p] ∧ At C H p dx t i ∧ t.length ≤ 2000 ∧ Q (.str (S ((t.drop i).take 1))) H
def spTakes (C : Addr) : Sp := fun vs H Q _ => ∃ (p dx : Addr) (t : List Nat) (i c : Nat), vs = [.ref p, .str (S [c])] ∧ At C H p dx t i ∧ t.length ≤ 2000 ∧ ((t.drop i).head? = some c → Q (.bl true) (mv C H p dx t (i + 1))) ∧ ((t.drop i).head? ≠ some c → Q (.bl false) H)
def spWord (C : Addr) : Sp := fun vs H Q _ => ∃ (p dx : Addr) (t : List Nat) (i : Nat) (w r : List Nat), vs = [.ref p] ∧ At C H p dx t i ∧ t.length ≤ 2000 ∧ t.drop i = w ++ r ∧ (∀ c ∈ w, isWS c = true) ∧ (∀ c, r.head? = some c → isWS c = false) ∧ Q (.str (S w)) (mv C H p dx t (i + w.length))
def spEnd (C : Addr) : Sp := fun vs H Q _ => ∃ (p dx : Addr) (t : List Nat) (i : Nat), vs = [.ref p] ∧ At C H p dx t i ∧ t.length ≤ 2000 ∧ Q (.bl (decide (i = t.length))) H
variable {C : Addr}
theorem small2 {n : Nat} (h : n ≤ 2000) : n ≤ sizeLine := line5 (by omega)
theorem scInit : FnScope ["self", "text"] ["self", "text"] (defScope sInit) := ⟨rfl, rfl, rfl, by decide +kernel, rfl, by decide +kernel, by decide +kernel⟩
theorem ok_init (T : Txt g C) (R : g.RawI "NoteReader" C "NoteReader.__init__" sInit ["self", "text"]) : g.Ma 1 "NoteReader" C ["self", "text"] (spInit C) := by
  refine R.ma scInit (fun vs H Q E h => by obtain ⟨p, dx, t, rfl, _⟩ := h; rfl) fun f cdv A outer s H vs Q E hr h => ?_
  obtain ⟨p, dx, t, rfl, hp, q⟩ := h
  refine ⟨_, pss_cons (ps_fld (pv 0) (pv 1) rfl) (pss_one (ps_fld (pv 0) pe_int rfl)), ?_⟩
  refine ⟨_, rfl, _, rfl, p, C, dx, [], rfl, hp, T.cl, T.nT, (by show 0 < 1000; decide), _, rfl, p, C, dx, _, rfl, upd_same, T.cl, T.nP, (by show 1 < 1000; decide), ?_⟩
  show Q .non (upd (upd H p _) p _)
  rw [upd_upd, fl_new]
  exact q
theorem scHere : FnScope ["self"] ["self"] (defScope sHere) := ⟨rfl, rfl, rfl, by decide +kernel, rfl, by decide +kernel, by decide +kernel⟩
theorem ok_here (T : Txt g C) (R : g.RawM C "sign_here" "NoteReader.sign_here" sHere ["self"]) : g.Me 1 C "sign_here" ["self"] (spHere C) := by
  refine R.me scHere (fun vs H Q E h => by obtain ⟨p, dx, t, i, rfl, _⟩ := h; rfl) fun f cdv A outer s H vs Q E hr h => ?_
  obtain ⟨p, dx, t, i, rfl, hp, ht, q⟩ := h
  refine ⟨_, pss_one (ps_ret (pe_slice sl_str (pe_fld (pv 0) rfl) (po_some (pe_fld (pv 0) rfl)) (po_some (pe_op op_add (pe_fld (pv 0) rfl) pe_int)))), ?_⟩
  refine ⟨_, rfl, p, C, dx, _, _, rfl, hp, T.cl, T.nT, fl_text t i, _, rfl, p, C, dx, _, _, rfl, hp, T.cl, T.nP, fl_place t i, _, rfl, _, rfl, p, C, dx, _, _, rfl, hp, T.cl, T.nP, fl_place t i, _, _, rfl, rfl, _, rfl, _, rfl, by rw [S_len]; exact small2 ht, ?_⟩
  have e := cutS_nat t i (i + 1)
  rw [Nat.add_sub_cancel_left] at e
  show Q (.str (cutS (S t) (some (i : Int)) (some ((i : Int) + 1)))) H
  rw [show ((i : Int) + 1) = ((i + 1 : Nat) : Int) by omega, e]
  exact q
theorem head_take (l : List Nat) (c : Nat) : (l.take 1 = [c]) ↔ l.head? = some c := by
  cases l with
  | nil => simp
  | cons a l => simp
theorem scTakes : FnScope ["self", "sign"] ["self", "sign"] (defScope sTakes) := ⟨rfl, rfl, rfl, by decide +kernel, rfl, by decide +kernel, by decide +kernel⟩
theorem ok_takes (T : Txt g C) (R : g.RawM C "takes" "NoteReader.takes" sTakes ["self", "sign"]) (F1 : g.Me 1 C "sign_here" ["self"] (spHere C)) : g.Me 2 C "takes" ["self", "sign"] (spTakes C) := by
  refine R.me scTakes (fun vs H Q E h => by obtain ⟨p, dx, t, i, c, rfl, _⟩ := h; rfl) fun f cdv A outer s H vs Q E hr h => ?_
  obtain ⟨p, dx, t, i, c, rfl, hp, ht, q1, q2⟩ := h
  refine ⟨_, pss_cons (ps_if (pt_cmpR op_ne (pe_me0 F1 T.cl hr (pv 0)) (pv 1) (nomark _)) (pss_one (ps_ret pe_bl)) pss_nil) (pss_cons (ps_fldaug (pv 0) pe_int in_add) (pss_one (ps_ret pe_bl))), ?_⟩
  refine ⟨_, rfl, p, dx, _, rfl, hp, fl_no t i (by decide +kernel) (by decide +kernel), p, dx, t, i, rfl, hp, ht, _, rfl, rfl, _, rfl, ?_⟩
  by_cases hc : (t.drop i).head? = some c
  · have e : (t.drop i).take 1 = [c] := (head_take _ _).mpr hc
    rw [e]
    refine iteNS rfl ?_
    refine ⟨_, rfl, p, C, dx, _, _, rfl, hp, T.cl, T.nP, fl_place t i, _, _, rfl, rfl, dx, _, hp, (by show 2 < 1000; decide), ?_⟩
    show Q (.bl true) (upd H p (.ins C dx (putF "place" (.int ((i : Int) + 1)) (fl t i))))
    rw [show ((i : Int) + 1) = ((i + 1 : Nat) : Int) by omega, fl_put]
    exact q1 hc
  · have e : ¬ V.str (S ((t.drop i).take 1)) = V.str (S [c]) := fun z => by
      injection z with z
      exact hc ((head_take _ _).mp (S_inj z))
    rw [decide_eq_false e]
    exact q2 hc
theorem drop_more {t w r : List Nat} {i : Nat} (h : t.drop i = w ++ r) : t.drop (i + w.length) = r := by
  rw [← List.drop_drop, h]
  simp
theorem drop_len {t w r : List Nat} {i : Nat} (h : t.drop i = w ++ r) (hw : w ≠ [] ∨ i ≤ t.length) : i + w.length + r.length = t.length := by
  have := congrArg List.length h
  rw [List.length_drop, List.length_append] at this
  rcases hw with hw | hw
  · have : 0 < w.length := List.length_pos_iff.mpr hw
    omega
  · omega
theorem scWord : FnScope ["self", "begin"] ["self"] (defScope sWord) := ⟨rfl, rfl, rfl, by decide +kernel, rfl, by decide +kernel, by decide +kernel⟩
theorem ok_word (T : Txt g C) (R : g.RawM C "word_signs" "NoteReader.word_signs" sWord ["self"]) (F1 : g.Me 1 C "sign_here" ["self"] (spHere C)) (F2 : g.Fn 3 "is_word_sign" ["sign"] (spSign isWS)) : g.Me 4 C "word_signs" ["self"] (spWord C) := by
  refine R.me scWord (fun vs H Q E h => by obtain ⟨p, dx, t, i, w, r, rfl, _⟩ := h; rfl) fun f cdv A outer s H vs Q E hr h => ?_
  obtain ⟨p, dx, t, i, w, r, rfl, hp, ht, hd, hw, hr', q⟩ := h
  refine ⟨_, pss_cons (ps_set (i := 1) scWord.nd rfl (Or.inl rfl) (pe_fld (pv 0) rfl)) (pss_cons (ps_while PassesOwn.never (pt_val (pe_fn F2 hr (pa_cons (pe_me0 F1 T.cl hr (pv 0)) pa_nil))) (pss_one (ps_fldaug (pv 0) pe_int in_add)))
    (pss_one (ps_ret (pe_slice sl_str (pe_fld (pv 0) rfl) (po_some (pv 1)) (po_some (pe_fld (pv 0) rfl)))))), ?_⟩
  refine ⟨_, rfl, p, C, dx, _, _, rfl, hp, T.cl, T.nP, fl_place t i, ?_⟩
  -- the loop: k signs of w are behind
  refine ⟨fun m σ H' => ∃ k, k + m = w.length ∧ σ = [some (.ref p), some (.int i)] ∧ H' = mv C H p dx t (i + k), ⟨w.length, 0, by omega, rfl, ?_⟩, ?_⟩
  · exact (upd_id hp).symm
  rintro m σ H' ⟨k, hk, rfl, rfl⟩
  have hdk : t.drop (i + k) = w.drop k ++ r := by
    rw [← List.drop_drop, hd, List.drop_append_of_le_length (by omega)]
  refine ⟨_, rfl, p, dx, _, rfl, upd_same, fl_no t (i + k) (by decide +kernel) (by decide +kernel), p, dx, t, i + k, rfl, upd_same, ht, _, rfl, by rw [List.length_take]; omega, _, rfl, ?_⟩
  by_cases hm : m = 0
  · -- the end
    have hkw : w.drop k = [] := List.drop_eq_nil_of_le (by omega)
    have e : ((t.drop (i + k)).take 1).any isWS = false := by
      rw [hdk, hkw, List.nil_append]
      cases r with
      | nil => rfl
      | cons a r => simp [hr' a rfl]
    rw [e]
    refine iteF ?_
    have hk' : k = w.length := by omega
    subst hk'
    refine ⟨_, rfl, p, C, dx, _, _, rfl, upd_same, T.cl, T.nT, fl_text t _, _, rfl, _, rfl, _, rfl, p, C, dx, _, _, rfl, upd_same, T.cl, T.nP, fl_place t _, _, rfl, _, rfl, by rw [S_len]; exact small2 ht, ?_⟩
    have e2 := cutS_nat t i (i + w.length)
    rw [Nat.add_sub_cancel_left, hd, List.take_left] at e2
    rw [e2]
    exact q
  · have hlt : k < w.length := by omega
    have e0 : w.drop k = w[k] :: w.drop (k + 1) := List.drop_eq_getElem_cons hlt
    have e : ((t.drop (i + k)).take 1).any isWS = true := by
      rw [hdk, e0]
      show (isWS w[k] || false) = true
      rw [hw w[k] (List.getElem_mem hlt)]
      rfl
    rw [e]
    refine iteT ?_
    refine ⟨fun σ' H' => σ' = [some (.ref p), some (.int i)] ∧ H' = mv C H p dx t (i + (k + 1)), fun σ' H' ⟨e1, e2⟩ => ⟨m - 1, by omega, k + 1, by omega, e1, e2⟩, ?_⟩
    refine ⟨_, rfl, p, C, dx, _, _, rfl, upd_same, T.cl, T.nP, fl_place t _, _, _, rfl, rfl, dx, _, upd_same, (by show 2 < 1000; decide), rfl, ?_⟩
    show upd (upd H p _) p (.ins C dx (putF "place" (.int (((i + k : Nat) : Int) + 1)) (fl t (i + k)))) = _
    rw [upd_upd, show (((i + k : Nat) : Int) + 1) = ((i + (k + 1) : Nat) : Int) by omega, fl_put]
theorem scEnd : FnScope ["self"] ["self"] (defScope sEnd) := ⟨rfl, rfl, rfl, by decide +kernel, rfl, by decide +kernel, by decide +kernel⟩
theorem ok_end (T : Txt g C) (R : g.RawM C "at_end" "NoteReader.at_end" sEnd ["self"]) (bl : g.mg "len" = none) : g.Me 1 C "at_end" ["self"] (spEnd C) := by
  refine R.me scEnd (fun vs H Q E h => by obtain ⟨p, dx, t, i, rfl, _⟩ := h; rfl) fun f cdv A outer s H vs Q E hr h => ?_
  obtain ⟨p, dx, t, i, rfl, hp, ht, q⟩ := h
  refine ⟨_, pss_one (ps_ret (pe_cmpR op_eq (pe_fld (pv 0) rfl) (pe_bf bl call_len_str (pa_cons (pe_fld (pv 0) rfl) pa_nil)) (nomark _))), ?_⟩
  refine ⟨_, rfl, p, C, dx, _, _, rfl, hp, T.cl, T.nP, fl_place t i, _, rfl, p, C, dx, _, _, rfl, hp, T.cl, T.nT, fl_text t i, _, rfl, by rw [S_len]; exact small2 ht, rfl, ?_⟩
  have e : decide (V.int (i : Int) = V.int ((S t).length : Nat)) = decide (i = t.length) := by
    rw [S_len]
    by_cases h : i = t.length
    · subst h; simp
    · rw [decide_eq_false h, decide_eq_false]
      intro z; injection z with z; omega
  show Q (.bl (decide (V.int (i : Int) = V.int ((S t).length : Nat)))) H
  rw [e]
  exact q
end Rd
end KW
set_option maxHeartbeats 8000000
namespace KW
open PySem L2

variable {g : Gx}
variable {C : Addr}
local macro_rules | `(tactic| walk_at "sd") => `(tactic| simp (config := { failIfUnchanged := false, maxSteps := 10000000 }) only [l_num, l_here, l_count, l_sum, l_not, l_turned, l_plus, l_times, l_less, l_same, l_both, l_each, l_joined, l_part, l_when, ms_inj, in_cons, in_nil, Bool.or_false, Bool.false_or, Bool.or_self, Bool.true_or, Bool.or_true, reduceCtorEq, V.str.injEq, List.mem_cons, List.not_mem_nil, or_false, false_or, or_true, true_or, or_self, not_true_eq_false, not_false_eq_true, if_true, if_false, ite_true, ite_false, decide_true, decide_false, Bool.false_eq_true, and_true, true_and, and_false, false_and, false_implies, true_implies])

local macro_rules | `(tactic| walk_at "gn") => `(tactic| simp only [gName, List.set_cons_zero, List.set_cons_succ])

local macro_rules | `(tactic| walk_at "rd") => `(tactic| simp (config := { failIfUnchanged := false, maxSteps := 10000000 }) only [L2.start, cxOf_K, nox_K, List.map_cons, List.map_nil, List.length_cons, List.length_nil, List.cons_append, List.nil_append, List.replicate_succ, List.replicate_zero, Nat.zero_add, Nat.reduceAdd, Nat.reduceSub, Nat.sub_self, tSeq, tIfS, tTest, tOp, tC, tVar, rI0, rI, rU, tUn, tRet, tRetN, tDrop, tNext, tBreak, tCont, tAsg, gName, gNil, gCons, tCons, tNil, tCB, tCall, tTry, tTryAs, tRaise, sFld, tFld, tMake, tMeth, Ends.gone, caught_K, tB, tAnd, tOr, tNot, tAndV, tOrV, tNotV, tIf, tChain, tNoPart, tPart, tSl, tNever, tAug, rIxL, rIxT, rSlL, tLst, tTup, gTup, tRev, tLZ, tConT, tDict0, rBits, rFind, rIn, tBM, tBM0, rAppend, rReverse, rEq, rNe, scal_ii, scal_ss, rCat, rSetL, gSub, ipI, capSt, List.getD_cons_zero, List.getD_cons_succ, decide_true, not_true_eq_false, not_false_eq_true,
  exists_eq_left', exists_eq_left, exists_eq', exists_eq, exists_and_left, and_assoc, Option.some.injEq, V.int.injEq, V.bl.injEq, V.ref.injEq, V.str.injEq, List.getElem?_cons_zero, List.getElem?_cons_succ, List.set_cons_zero, List.set_cons_succ, List.cons.injEq, and_true, true_and, List.append_nil, decide_eq_true_eq, Bool.not_eq_true', decide_eq_false_iff_not, Bool.not_not, Bool.not_true, Bool.not_false, Bool.true_eq_false, Bool.false_eq_true, if_true, if_false, ite_true, ite_false])

namespace Rd
/-! a note as it lies in the heap -/
mutual
def NoteAt (H : Hp) : Note → V → Prop
  | .leaf l w, v => ∃ a, v = .ref a ∧ H a = some (.tup [.str (S l), .str (S w), .non])
  | .node l w ks, v => ∃ a b vs, v = .ref a ∧ H a = some (.tup [.str (S l), .str (S w), .ref b]) ∧ H b = some (.tup vs) ∧ NotesAt H ks vs
def NotesAt (H : Hp) : Notes → List V → Prop
  | .nil, vs => vs = []
  | .cons n r, vs => ∃ v us, vs = v :: us ∧ NoteAt H n v ∧ NotesAt H r us
end
/-- tuples stay -/
def Tups (H H' : Hp) : Prop := ∀ b xs, H b = some (.tup xs) → H' b = some (.tup xs)
mutual
theorem NoteAt.keep {H H' : Hp} (h : Tups H H') : ∀ {n : Note} {v : V}, NoteAt H n v → NoteAt H' n v
  | .leaf l w, v, ⟨a, e, q⟩ => ⟨a, e, h a _ q⟩
  | .node l w ks, v, ⟨a, b, vs, e, q, q', r⟩ => ⟨a, b, vs, e, h a _ q, h b _ q', NotesAt.keep h r⟩
theorem NotesAt.keep {H H' : Hp} (h : Tups H H') : ∀ {ns : Notes} {vs : List V}, NotesAt H ns vs → NotesAt H' ns vs
  | .nil, vs, e => e
  | .cons n r, vs, ⟨v, us, e, q, q'⟩ => ⟨v, us, e, NoteAt.keep h q, NotesAt.keep h q'⟩
end
theorem NotesAt.snoc {H : Hp} : ∀ {ns : Notes} {vs : List V} {n : Note} {v : V}, NotesAt H ns vs → NoteAt H n v → NotesAt H (ns.snoc n) (vs ++ [v])
  | .nil, vs, n, v, e, h => by subst e; exact ⟨v, [], rfl, h, rfl⟩
  | .cons m r, vs, n, v, ⟨u, us, e, q, q'⟩, h => by subst e; exact ⟨u, us ++ [v], rfl, q, q'.snoc h⟩
theorem NotesAt.length {H : Hp} : ∀ {ns : Notes} {vs : List V}, NotesAt H ns vs → vs.length = ns.len
  | .nil, vs, e => by subst e; rfl
  | .cons m r, vs, ⟨u, us, e, q, q'⟩ => by subst e; exact congrArg (· + 1) q'.length
theorem NotesAt.unsnoc {H : Hp} : ∀ {ns : Notes} {us : List V} {n : Note} {v : V}, NotesAt H (ns.snoc n) (us ++ [v]) → NotesAt H ns us ∧ NoteAt H n v
  | .nil, us, n, v, ⟨x, xs, e, q, q'⟩ => by
    have q'' : xs = [] := q'
    subst q''
    cases us with
    | nil => simp at e; subst e; exact ⟨rfl, q⟩
    | cons a us => simp at e
  | .cons m r, us, n, v, ⟨x, xs, e, q, q'⟩ => by
    cases us with
    | nil =>
      have hl := NotesAt.length (ns := r.snoc n) q'
      rw [len_snoc] at hl
      simp at e
      rw [e.2] at hl
      simp at hl
    | cons a us =>
      have e' : a = x ∧ us ++ [v] = xs := by simpa using e
      obtain ⟨rfl, rfl⟩ := e'
      obtain ⟨h1, h2⟩ := NotesAt.unsnoc (ns := r) q'
      exact ⟨⟨a, us, rfl, q, h1⟩, h2⟩
theorem mvk {C : Addr} {H : Hp} {p dx : Addr} {t : List Nat} {i : Nat} {b : Addr} {o : HO} (h : b ≠ p) (e : H b = some o) : mv C H p dx t i b = some o := by
  show upd H p _ b = some o
  rw [upd_ne h]; exact e
/-- all but the reader stays -/
def But (p : Addr) (H H' : Hp) : Prop := ∀ b o, b ≠ p → H b = some o → H' b = some o
theorem But.refl (p : Addr) (H : Hp) : But p H H := fun _ _ _ e => e
theorem But.trans {p : Addr} {H H1 H2 : Hp} (a : But p H H1) (b : But p H1 H2) : But p H H2 := fun c o n e => b c o n (a c o n e)
theorem But.mv {p : Addr} {H H1 : Hp} (a : But p H H1) (o : HO) : But p H (upd H1 p o) := fun c u n e => by rw [upd_ne n]; exact a c u n e
theorem But.new {p q : Addr} {H H1 : Hp} (a : But p H H1) (o : HO) (h : H1 q = none) : But p H (upd H1 q o) := fun c u n e => by
  have e1 := a c u n e
  rw [upd_ne (ne_of_none e1 h)]
  exact e1
theorem But.free {p : Addr} {H H' : Hp} {q : Addr} (a : But p H H') (n : q ≠ p) (h : H' q = none) : H q = none := by
  cases e : H q with
  | none => rfl
  | some o => rw [a q o n e] at h; cases h
/-- where a note ends -/
def Stop (r : List Nat) : Prop := ∀ c, r.head? = some c → c = 41 ∨ c = 44
def tail (n : Note) : List Nat := match n with
  | .leaf _ _ => []
  | .node _ _ ks => 40 :: (txts ks ++ [41])
theorem txt_eq (n : Note) : txt n = head n.lab n.word ++ tail n := by
  cases n with
  | leaf l w => simp [txt, tail, Note.lab, Note.word]
  | node l w ks => rfl
def spLN (C : Addr) (d : Nat) : Sp := fun vs H Q _ => ∃ (p dx : Addr) (t : List Nat) (i : Nat) (n : Note) (r : List Nat), vs = [.ref p] ∧ At C H p dx t i ∧ t.length ≤ 2000 ∧ t.drop i = txt n ++ r ∧ Ok d n ∧ Stop r ∧
  ∀ v H', NoteAt H' n v → At C H' p dx t (i + (txt n).length) → But p H H' → Q v H'
def spBN (C : Addr) (d : Nat) : Sp := fun vs H Q _ => ∃ (p dx : Addr) (t : List Nat) (i : Nat) (r : List Nat), vs = [.ref p] ∧ At C H p dx t i ∧ t.length ≤ 2000 ∧ Stop r ∧
  ((t.drop i = r ∧ Q .non H) ∨ ∃ ks : Notes, t.drop i = 40 :: (txts ks ++ 41 :: r) ∧ 0 < d ∧ Oks (d - 1) ks ∧
    ∀ b vs H', H' b = some (.tup vs) → NotesAt H' ks vs → At C H' p dx t (i + (txts ks).length + 2) → But p H H' → Q (.ref b) H')
variable {C : Addr}
theorem scLN : FnScope ["self", "label", "word"] ["self"] (defScope sLN) := ⟨rfl, rfl, rfl, by decide +kernel, rfl, by decide +kernel, by decide +kernel⟩
theorem noat (m : Str) (t : List Nat) (i : Nat) (h1 : (m == ("text" : Str)) = false := by decide +kernel) (h2 : (m == ("place" : Str)) = false := by decide +kernel) : (fl t i).lookup m = none := fl_no t i h1 h2
theorem okOf {d : Nat} {n : Note} (h : Ok d n) : okL n.lab ∧ okW n.word := by
  match d, n, h with
  | _, .leaf l w, h => exact h
  | d + 1, .node l w ks, h => exact ⟨h.1, h.2.1⟩
theorem ok_ln {d k : Nat} (hk : 5 ≤ k) (T : Txt g C) (R : g.RawM C "labelled_note" "NoteReader.labelled_note" sLN ["self"]) (F1 : g.Me 4 C "word_signs" ["self"] (spWord C)) (F2 : g.Me 2 C "takes" ["self", "sign"] (spTakes C)) (F3 : g.Fn 2 "is_label" ["text"] spLabel)
    (F4 : g.Me k C "bracketed_notes" ["self"] (spBN C d)) (c1 : g.Con "LONGEST_WORD" (.int 62)) (bl : g.mg "len" = none) : g.Me (k + 1) C "labelled_note" ["self"] (spLN C d) := by
  refine R.me scLN (fun vs H Q E h => by obtain ⟨p, dx, t, i, n, r, rfl, _⟩ := h; rfl) fun f cdv A outer s H vs Q E hr h => ?_
  obtain ⟨p, dx, t, i, n, r, rfl, hp, ht, hd, hn, hs, q⟩ := h
  refine ⟨_, pss_cons (ps_set (i := 1) scLN.nd rfl (Or.inl rfl) pe_str) (pss_cons (ps_set (i := 2) scLN.nd rfl (Or.inl rfl) (pe_me0 F1 T.cl hr (pv 0)))
    (pss_cons (ps_if (pt_val (pe_me F2 T.cl hr (pv 0) (pa_cons pe_str pa_nil)))
      (pss_cons (ps_set (i := 1) scLN.nd rfl (Or.inl rfl) (pv 2)) (pss_cons (ps_if (pt_not (pt_val (pe_fn F3 hr (pa_cons (pv 1) pa_nil)))) pss_never pss_nil) (pss_one (ps_set (i := 2) scLN.nd rfl (Or.inl rfl) (pe_me0 F1 T.cl hr (pv 0)))))) pss_nil)
    (pss_cons (ps_if (pt_not (pt_chain op_le op_le pe_int (pe_bf bl call_len_str (pa_cons (pv 2) pa_nil)) (pe_gc c1))) pss_never pss_nil)
    (pss_one (ps_ret (pe_tup (pa_cons (pv 1) (pa_cons (pv 2) (pa_cons (pe_me0 F4 T.cl hr (pv 0)) pa_nil))))))))), ?_⟩
  obtain ⟨hl, hw⟩ := okOf hn
  have hsT : ∀ c, (tail n ++ r).head? = some c → isWS c = false ∧ c ≠ 58 := fun c e => by
    cases n with
    | leaf l w =>
      have e' : r.head? = some c := by simpa [tail] using e
      rcases hs c e' with rfl | rfl <;> decide
    | node l w ks =>
      have e' : 40 = c := by simpa [tail] using e
      subst e'; decide
  have hd1 : t.drop i = head n.lab n.word ++ (tail n ++ r) := by rw [hd, txt_eq]; simp
  -- behind label and word: the same end
  have last : ∀ (H1 : Hp) (σ2 : List (Option V)), σ2 = [some (.ref p), some (.str (S n.lab)), some (.str (S n.word))] → At C H1 p dx t (i + (head n.lab n.word).length) → But p H H1 →
      tSeq (tIfS (tNot (tTest (tChain (rI0 fun i j => .bl (decide (i ≤ j))) (rI0 fun i j => .bl (decide (i ≤ j))) (tC (.int 1)) (tCB (fun xs H Q => ∃ z, xs = [.str z] ∧ z.length ≤ sizeLine ∧ Q (.int z.length) H) (tCons (tVar 2) tNil)) (tC (.int 62))))) tNever tNext)
        (tRet (tTup (tCons (tVar 1) (tCons (tVar 2) (tCons (tMeth C "bracketed_notes" (spBN C d) [] E0 (tVar 0) tNil) tNil))))) { nx := fun _ H' => Q .non H', rt := Q } σ2 H1 := by
    rintro H1 σ2 rfl h1p bt
    refine ⟨_, rfl, _, rfl, by rw [S_len]; exact small2 (by have := hw.2.1; omega), _, _, rfl, rfl, _, rfl, ?_⟩
    rw [S_len]
    have h1 : decide ((1 : Int) ≤ (n.word.length : Nat)) = true := decide_eq_true (by have := hw.1; omega)
    have h2 : decide (((n.word.length : Nat) : Int) ≤ 62) = true := decide_eq_true (by have := hw.2.1; omega)
    rw [h1]
    refine iteT ⟨_, _, rfl, rfl, _, rfl, ?_⟩
    rw [h2]
    refine iteF ?_
    refine ⟨_, rfl, _, rfl, _, rfl, p, dx, _, rfl, h1p, noat _ _ _, p, dx, t, i + (head n.lab n.word).length, r, rfl, h1p, ht, hs, ?_⟩
    have hd2 := drop_more hd1
    cases n with
    | leaf l w =>
      refine .inl ⟨by simpa [tail] using hd2, by show 3 ≤ sizeLine; decide, fun a ha => ?_⟩
      have npa : p ≠ a := ne_of_none h1p ha
      refine q (.ref a) _ ⟨a, rfl, upd_same⟩ ?_ (bt.new _ ha)
      show upd _ a _ p = _
      rw [upd_ne npa, txt_eq]
      simp only [tail, List.append_nil]
      exact h1p
    | node l w ks =>
      match d, hn with
      | d + 1, hn =>
        refine .inr ⟨ks, by rw [hd2]; simp [tail], Nat.succ_pos d, hn.2.2, fun b vs H' hb hv hat hbut => ⟨by show 3 ≤ sizeLine; decide, fun a ha => ?_⟩⟩
        have npa : p ≠ a := ne_of_none hat ha
        have tp : Tups H' (upd H' a (.tup [.str (S l), .str (S w), .ref b])) := fun c xs e => by rw [upd_ne (ne_of_none e ha)]; exact e
        refine q (.ref a) _ ⟨a, b, vs, rfl, upd_same, tp _ _ hb, hv.keep tp⟩ ?_ ((bt.trans hbut).new _ ha)
        show upd _ a _ p = _
        rw [upd_ne npa, txt_eq]
        have e : i + (head l w ++ tail (.node l w ks)).length = i + (head l w).length + (txts ks).length + 2 := by simp [tail]; omega
        show H' p = some (.ins C dx (fl t (i + (head l w ++ tail (.node l w ks)).length)))
        rw [e]
        exact hat
  by_cases hlab : n.lab = []
  · -- no label
    have hh : head n.lab n.word = n.word := by unfold head; rw [if_pos hlab]
    rw [hh] at hd1
    refine ⟨_, rfl, p, dx, _, rfl, hp, noat _ _ _, p, dx, t, i, n.word, tail n ++ r, rfl, hp, ht, hd1, hw.2.2, fun c e => (hsT c e).1, ?_⟩
    refine ⟨_, rfl, p, dx, _, rfl, upd_same, noat _ _ _, p, dx, t, i + n.word.length, 58, rfl, upd_same, ht, fun e => ?_, fun _ => ?_⟩
    · rw [drop_more hd1] at e
      exact absurd rfl (hsT _ e).2
    · refine ⟨false, rfl, iteF ?_⟩
      refine last _ _ ?_ (by rw [hh]; exact upd_same) ((But.refl p H).mv _)
      rw [hlab]
      rfl
  · have hh : head n.lab n.word = n.lab ++ 58 :: n.word := by unfold head; rw [if_neg hlab]
    have hd1' : t.drop i = n.lab ++ (58 :: (n.word ++ (tail n ++ r))) := by rw [hd1, hh]; simp
    refine ⟨_, rfl, p, dx, _, rfl, hp, noat _ _ _, p, dx, t, i, n.lab, 58 :: (n.word ++ (tail n ++ r)), rfl, hp, ht, hd1', fun c hc => small_ws (hl.2 c hc), fun c e => ?_, ?_⟩
    · have e' : 58 = c := by simpa using e
      subst e'; decide
    refine ⟨_, rfl, p, dx, _, rfl, upd_same, noat _ _ _, p, dx, t, i + n.lab.length, 58, rfl, upd_same, ht, fun _ => ?_, fun e => ?_⟩
    · refine ⟨true, rfl, iteT ?_⟩
      refine ⟨_, rfl, _, rfl, n.lab, rfl, by have := hl.1; omega, fun H3 s3 => ⟨_, rfl, ?_⟩⟩
      have e3 : (decide (1 ≤ n.lab.length) && decide (n.lab.length ≤ 8) && n.lab.all isSmall) = true := by
        have : 0 < n.lab.length := List.length_pos_iff.mpr hlab
        rw [decide_eq_true (show 1 ≤ n.lab.length by omega), decide_eq_true hl.1]
        simpa using hl.2
      rw [e3]
      refine iteF ?_
      have h3 : At C H3 p dx t (i + n.lab.length + 1) := s3 _ _ upd_same
      have hd2 : t.drop (i + n.lab.length + 1) = n.word ++ (tail n ++ r) := by
        have := drop_more (w := n.lab ++ [58]) (r := n.word ++ (tail n ++ r)) (i := i) (t := t) (by rw [hd1']; simp)
        rw [← this]; congr 1; simp; omega
      refine ⟨_, rfl, p, dx, _, rfl, h3, noat _ _ _, p, dx, t, _, n.word, tail n ++ r, rfl, h3, ht, hd2, hw.2.2, fun c e => (hsT c e).1, ?_⟩
      have b3 : But p H H3 := (((But.refl p H).mv _).mv _).trans fun b o _ e => s3 b o e
      refine last _ _ rfl ?_ (b3.mv _)
      have el : i + n.lab.length + 1 + n.word.length = i + (head n.lab n.word).length := by rw [hh]; simp; omega
      rw [el]
      exact upd_same
    · rw [drop_more hd1'] at e
      simp at e
theorem txt_head (d : Nat) (n : Note) (h : Ok d n) (r : List Nat) : ∃ c, (txt n ++ r).head? = some c ∧ isWS c = true := by
  obtain ⟨hl, hw⟩ := okOf h
  rw [txt_eq]
  unfold head
  split
  · match e : n.word, hw with
    | c :: w, hw => exact ⟨c, by simp, hw.2.2 c (by simp)⟩
    | [], hw => exact absurd hw.1 (by simp)
  · rename_i hne
    match e : n.lab, hl, hne with
    | c :: l, hl, _ => exact ⟨c, by simp, small_ws (hl.2 c (by simp))⟩
    | [], _, hne => exact absurd rfl hne
theorem scBN : FnScope ["self", "notes"] ["self"] (defScope sBN) := ⟨rfl, rfl, rfl, by decide +kernel, rfl, by decide +kernel, by decide +kernel⟩
/-- behind a note within brackets -/
def more (rs : Notes) (r : List Nat) : List Nat := match rs with
  | .nil => 41 :: r
  | .cons n q => 44 :: (txts (.cons n q) ++ 41 :: r)
theorem txts_more (n : Note) (rs : Notes) (r : List Nat) : txts (.cons n rs) ++ 41 :: r = txt n ++ more rs r := by
  cases rs with
  | nil => rfl
  | cons m q => simp [txts, more]
theorem more_stop (rs : Notes) (r : List Nat) : Stop (more rs r) := fun c e => by
  cases rs with
  | nil => left; simpa [more] using e.symm
  | cons m q => right; simpa [more] using e.symm
/-- no brackets are left -/
theorem ok_bn0 (T : Txt g C) (R : g.RawM C "bracketed_notes" "NoteReader.bracketed_notes" sBN ["self"]) (F2 : g.Me 2 C "takes" ["self", "sign"] (spTakes C)) : g.Me 5 C "bracketed_notes" ["self"] (spBN C 0) := by
  have : g.Me 3 C "bracketed_notes" ["self"] (spBN C 0) := by
    refine R.me scBN (fun vs H Q E h => by obtain ⟨p, dx, t, i, r, rfl, _⟩ := h; rfl) fun f cdv A outer s H vs Q E hr h => ?_
    obtain ⟨p, dx, t, i, r, rfl, hp, ht, hs, h⟩ := h
    rcases h with ⟨hd, q⟩ | ⟨ks, hd, h0, _⟩
    · refine ⟨_, pss_cons (ps_if (pt_not (pt_val (pe_me F2 T.cl hr (pv 0) (pa_cons pe_str pa_nil)))) (pss_one (ps_ret pe_non)) pss_nil) pss_never, ?_⟩
      refine ⟨_, rfl, p, dx, _, rfl, hp, noat _ _ _, p, dx, t, i, 40, rfl, hp, ht, fun e => ?_, fun _ => ⟨false, rfl, iteT q⟩⟩
      rw [hd] at e
      rcases hs _ e with z | z <;> exact absurd z (by decide)
    · exact absurd h0 (by decide)
  exact this.mono (by decide)
theorem tups_new {H : Hp} {a : Addr} (h : H a = none) (o : HO) : Tups H (upd H a o) := fun c xs e => by rw [upd_ne (ne_of_none e h)]; exact e
theorem tups_lst {H : Hp} {a : Addr} {ys : List V} (h : H a = some (.lst ys)) (o : HO) : Tups H (upd H a o) := fun c xs e => by rw [upd_ne (ne_of e h (by intro z; cases z))]; exact e
theorem ok_bn {d k : Nat} (hk : 3 ≤ k) (T : Txt g C) (R : g.RawM C "bracketed_notes" "NoteReader.bracketed_notes" sBN ["self"]) (F2 : g.Me 2 C "takes" ["self", "sign"] (spTakes C)) (F4 : g.Me k C "labelled_note" ["self"] (spLN C d)) (bt : g.mg "tuple" = none) :
    g.Me (k + 1) C "bracketed_notes" ["self"] (spBN C (d + 1)) := by
  refine R.me scBN (fun vs H Q E h => by obtain ⟨p, dx, t, i, r, rfl, _⟩ := h; rfl) fun f cdv A outer s H vs Q E hr h => ?_
  obtain ⟨p, dx, t, i, r, rfl, hp, ht, hs, h⟩ := h
  refine ⟨_, pss_cons (ps_if (pt_not (pt_val (pe_me F2 T.cl hr (pv 0) (pa_cons pe_str pa_nil)))) (pss_one (ps_ret pe_non)) pss_nil)
    (pss_cons (ps_if (pt_val (pe_me F2 T.cl hr (pv 0) (pa_cons pe_str pa_nil))) (pss_one (ps_ret (pe_tup pa_nil))) pss_nil)
    (pss_cons (ps_set (i := 1) scBN.nd rfl (Or.inl rfl) (pe_lst (pa_cons (pe_me0 F4 T.cl hr (pv 0)) pa_nil)))
    (pss_cons (ps_while PassesOwn.never (pt_val (pe_me F2 T.cl hr (pv 0) (pa_cons pe_str pa_nil))) (pss_one (ps_expr (pe_bm PySem.F.plainAttrs_list PySem.F.slot_list_append PySem.F.type_list_append mt_append (pv 1) (pa_cons (pe_me0 F4 T.cl hr (pv 0)) pa_nil)))))
    (pss_cons (ps_if (pt_not (pt_val (pe_me F2 T.cl hr (pv 0) (pa_cons pe_str pa_nil)))) pss_never pss_nil)
    (pss_one (ps_ret (pe_bt bt call_tuple_of (pa_cons (pv 1) pa_nil)))))))), ?_⟩
  rcases h with ⟨hd, q⟩ | ⟨ks, hd, h0, hks, q⟩
  · refine ⟨_, rfl, p, dx, _, rfl, hp, noat _ _ _, p, dx, t, i, 40, rfl, hp, ht, fun e => ?_, fun _ => ⟨false, rfl, iteT q⟩⟩
    rw [hd] at e
    rcases hs _ e with z | z <;> exact absurd z (by decide)
  · refine ⟨_, rfl, p, dx, _, rfl, hp, noat _ _ _, p, dx, t, i, 40, rfl, hp, ht, fun _ => ⟨true, rfl, iteF ?_⟩, fun e => absurd (by rw [hd]; rfl) e⟩
    have hd1 : t.drop (i + 1) = txts ks ++ 41 :: r := by
      have := drop_more (w := [40]) (r := txts ks ++ 41 :: r) (i := i) (t := t) hd
      exact this
    have hb1 : But p H (mv C H p dx t (i + 1)) := (But.refl p H).mv _
    refine ⟨_, rfl, p, dx, _, rfl, upd_same, noat _ _ _, p, dx, t, i + 1, 41, rfl, upd_same, ht, fun e => ?_, fun e => ?_⟩
    · -- ()
      have hnil : ks = .nil := by
        cases ks with
        | nil => rfl
        | cons n rs =>
          rw [hd1, txts_more] at e
          obtain ⟨c, e2, hc⟩ := txt_head d n hks.1 (more rs r)
          rw [e2] at e
          cases e
          exact absurd hc (by decide)
      subst hnil
      refine ⟨true, rfl, iteT ⟨by show 0 ≤ sizeLine; decide, fun a ha => ?_⟩⟩
      have npa : p ≠ a := ne_of_none upd_same ha
      refine q a [] _ upd_same rfl ?_ ((hb1.mv _).new _ ha)
      show upd _ a _ p = _
      rw [upd_ne npa]
      exact upd_same
    · refine ⟨false, rfl, iteF ?_⟩
      cases ks with
      | nil => rw [hd1] at e; exact absurd rfl e
      | cons n rs =>
        rw [txts_more] at hd1
        refine ⟨_, rfl, p, dx, _, rfl, upd_same, noat _ _ _, p, dx, t, i + 1, n, more rs r, rfl, upd_same, ht, hd1, hks.1, more_stop rs r, fun v1 H1 hv1 hat1 hbut1 => ⟨by show 1 ≤ sizeLine; decide, fun L hL => ?_⟩⟩
        have nLp : L ≠ p := fun z => by subst z; rw [hat1] at hL; cases hL
        have nL0 : H L = none := (hb1.trans hbut1).free nLp hL
        have tp1 : Tups H1 (upd H1 L (.lst [v1])) := tups_new hL _
        -- the loop: done are taken, rest is left
        refine ⟨fun m σ H' => ∃ (dn rest : Notes) (us : List V) (j : Nat), m = rest.len ∧ σ = [some (.ref p), some (.ref L)] ∧ H' L = some (.lst us) ∧ NotesAt H' dn us ∧ At C H' p dx t j ∧ t.drop j = more rest r ∧ Oks d rest ∧ (∀ b o, b ≠ p → H b = some o → H' b = some o) ∧
            (∀ us' : List V, ∀ H'' : Hp, NotesAt H'' dn us → NotesAt H'' rest us' → NotesAt H'' (.cons n rs) (us ++ us')) ∧ j + (more rest r).length = t.length ∧ us.length ≤ j,
          ⟨rs.len, .cons n .nil, rs, [v1], _, rfl, rfl, upd_same, ⟨v1, [], rfl, hv1.keep tp1, rfl⟩, ?_, drop_more hd1, hks.2, fun b o hb e => ?_, fun us' H'' a b => ?_, ?_, ?_⟩, ?_⟩
        · show upd H1 L _ p = _
          rw [upd_ne (Ne.symm nLp)]; exact hat1
        · have e1 := (hb1.trans hbut1) b o hb e
          rw [upd_ne (ne_of_none e1 hL)]; exact e1
        · obtain ⟨v, us, e1, e2, e3⟩ := a
          injection e1 with e4 e5
          subst e4
          exact ⟨v1, us', rfl, e2, b⟩
        · have := drop_len hd1 (.inl (by
            obtain ⟨c, e2, _⟩ := txt_head d n hks.1 []
            intro z; rw [z] at e2; simp at e2))
          omega
        · show 1 ≤ _; omega
        rintro m σ H' ⟨dn, rest, us, j, rfl, rfl, hL', hdn, hat, hdj, hrest, keep, glue, hj, hcount⟩
        have hcnt : us.length ≤ 2000 := by omega
        cases rest with
        | nil =>
          refine ⟨_, rfl, p, dx, _, rfl, hat, noat _ _ _, p, dx, t, j, 44, rfl, hat, ht, fun e => ?_, fun _ => ⟨false, rfl, iteF ?_⟩⟩
          · rw [hdj] at e; simp [more] at e
          refine ⟨_, rfl, p, dx, _, rfl, hat, noat _ _ _, p, dx, t, j, 41, rfl, hat, ht, fun _ => ⟨true, rfl, iteF ?_⟩, fun e => absurd (by rw [hdj]; rfl) e⟩
          have nLp' : L ≠ p := nLp
          refine ⟨_, rfl, L, us, rfl, .inl ⟨SqL.of (mvk nLp' hL'), fun a ha => ?_⟩⟩
          have npa : p ≠ a := ne_of_none upd_same ha
          have tp2 : Tups H' (upd (mv C H' p dx t (j + 1)) a (.tup us)) := fun c xs e => by
            have n1 : c ≠ p := ne_of e hat (by intro z; cases z)
            have e1 : mv C H' p dx t (j + 1) c = some (.tup xs) := mvk n1 e
            rw [upd_ne (ne_of_none e1 ha)]; exact e1
          have hall := glue [] _ (hdn.keep tp2) rfl
          rw [List.append_nil] at hall
          refine q a us _ upd_same hall ?_ fun b o hb e => ?_
          · show upd _ a _ p = _
            rw [upd_ne npa]
            have ej : j + 1 = i + (txts (.cons n rs)).length + 2 := by
              have h1 := drop_len (w := [40]) (r := txts (.cons n rs) ++ 41 :: r) (i := i) (t := t) hd (.inl (by simp))
              simp [more] at hj h1 ⊢
              omega
            rw [← ej]
            exact upd_same
          · have e1 := keep b o hb e
            have e2 : mv C H' p dx t (j + 1) b = some o := mvk hb e1
            rw [upd_ne (ne_of_none e2 ha)]; exact e2
        | cons n2 rs2 =>
          refine ⟨_, rfl, p, dx, _, rfl, hat, noat _ _ _, p, dx, t, j, 44, rfl, hat, ht, fun _ => ⟨true, rfl, iteT ?_⟩, fun e => absurd (by rw [hdj]; rfl) e⟩
          have hdj1 : t.drop (j + 1) = txt n2 ++ more rs2 r := by
            have := drop_more (w := [44]) (r := txts (.cons n2 rs2) ++ 41 :: r) (i := j) (t := t) (by rw [hdj]; rfl)
            rw [← txts_more]; exact this
          refine ⟨fun σ' H2 => σ' = [some (.ref p), some (.ref L)] ∧ ∃ v2, H2 L = some (.lst (us ++ [v2])) ∧ NotesAt H2 (dn.snoc n2) (us ++ [v2]) ∧ At C H2 p dx t (j + 1 + (txt n2).length) ∧ (∀ b o, b ≠ p → H b = some o → H2 b = some o) ∧ NoteAt H2 n2 v2,
            fun σ' H2 ⟨e1, v2, e2, e3, e4, e5, e6⟩ => ⟨rs2.len, Nat.lt_succ_self _, dn.snoc n2, rs2, us ++ [v2], _, rfl, e1, e2, e3, e4, drop_more hdj1, hrest.2, e5, fun us' H'' a b => ?_, ?_, ?_⟩, ?_⟩
          · obtain ⟨a1, a2⟩ := a.unsnoc
            have := glue (v2 :: us') H'' a1 ⟨v2, us', rfl, a2, b⟩
            simpa using this
          · have := drop_len hdj1 (.inl (by
              obtain ⟨c, e2, _⟩ := txt_head d n2 hrest.1 []
              intro z; rw [z] at e2; simp at e2))
            omega
          · rw [List.length_append, List.length_singleton]; omega
          refine ⟨_, rfl, .inl ⟨rfl, _, SqL.of (mvk nLp hL')⟩, _, rfl, p, dx, _, rfl, upd_same, noat _ _ _, p, dx, t, j + 1, n2, more rs2 r, rfl, upd_same, ht, hdj1, hrest.1, more_stop rs2 r, fun v2 H2 hv2 hat2 hbut2 => ?_⟩
          have hL2 : H2 L = some (.lst us) := hbut2 L _ nLp (mvk nLp hL')
          refine ⟨L, us, v2, rfl, rfl, hL2, Nat.lt_of_le_of_lt hcnt (by decide), rfl, v2, upd_same, ?_, ?_, fun b o hb e => ?_, hv2.keep (tups_lst hL2 _)⟩
          · have tp3 : Tups H' (upd H2 L (.lst (us ++ [v2]))) := fun c xs e => by
              have n1 : c ≠ p := ne_of e hat (by intro z; cases z)
              have e1 : H2 c = some (.tup xs) := hbut2 c _ n1 (mvk n1 e)
              exact tups_lst hL2 _ c xs e1
            exact (hdn.keep tp3).snoc (hv2.keep (tups_lst hL2 _))
          · show upd H2 L _ p = _
            rw [upd_ne (Ne.symm nLp)]; exact hat2
          · have e1 := hbut2 b o hb (mvk hb (keep b o hb e))
            rw [upd_ne (ne_of_none e nL0)]; exact e1
end Rd
end KW
set_option maxHeartbeats 8000000
namespace KW
open PySem L2

variable {g : Gx}
variable {C : Addr}
local macro_rules | `(tactic| walk_at "sd") => `(tactic| simp (config := { failIfUnchanged := false, maxSteps := 10000000 }) only [l_num, l_here, l_count, l_sum, l_not, l_turned, l_plus, l_times, l_less, l_same, l_both, l_each, l_joined, l_part, l_when, ms_inj, in_cons, in_nil, Bool.or_false, Bool.false_or, Bool.or_self, Bool.true_or, Bool.or_true, reduceCtorEq, V.str.injEq, List.mem_cons, List.not_mem_nil, or_false, false_or, or_true, true_or, or_self, not_true_eq_false, not_false_eq_true, if_true, if_false, ite_true, ite_false, decide_true, decide_false, Bool.false_eq_true, and_true, true_and, and_false, false_and, false_implies, true_implies])

local macro_rules | `(tactic| walk_at "gn") => `(tactic| simp only [gName, List.set_cons_zero, List.set_cons_succ])

local macro_rules | `(tactic| walk_at "rd") => `(tactic| simp (config := { failIfUnchanged := false, maxSteps := 10000000 }) only [L2.start, cxOf_K, nox_K, List.map_cons, List.map_nil, List.length_cons, List.length_nil, List.cons_append, List.nil_append, List.replicate_succ, List.replicate_zero, Nat.zero_add, Nat.reduceAdd, Nat.reduceSub, Nat.sub_self, tSeq, tIfS, tTest, tOp, tC, tVar, rI0, rI, rU, tUn, tRet, tRetN, tDrop, tNext, tBreak, tCont, tAsg, gName, gNil, gCons, tCons, tNil, tCB, tCall, tTry, tTryAs, tRaise, sFld, tFld, tMake, tMeth, Ends.gone, caught_K, tB, tAnd, tOr, tNot, tAndV, tOrV, tNotV, tIf, tChain, tNoPart, tPart, tSl, tNever, tAug, rIxL, rIxT, rSlL, tLst, tTup, gTup, tRev, tLZ, tConT, tDict0, rBits, rFind, rIn, tBM, tBM0, rAppend, rReverse, rEq, rNe, scal_ii, scal_ss, rCat, rSetL, gSub, ipI, capSt, List.getD_cons_zero, List.getD_cons_succ, decide_true, not_true_eq_false, not_false_eq_true,
  exists_eq_left', exists_eq_left, exists_eq', exists_eq, exists_and_left, and_assoc, Option.some.injEq, V.int.injEq, V.bl.injEq, V.ref.injEq, V.str.injEq, List.getElem?_cons_zero, List.getElem?_cons_succ, List.set_cons_zero, List.set_cons_succ, List.cons.injEq, and_true, true_and, List.append_nil, decide_eq_true_eq, Bool.not_eq_true', decide_eq_false_iff_not, Bool.not_not, Bool.not_true, Bool.not_false, Bool.true_eq_false, Bool.false_eq_true, if_true, if_false, ite_true, ite_false])

namespace Rd
variable {C : Addr}
/-! crowded -/
def spCrowd : Sp := fun vs H Q _ => ∃ t : List Nat, vs = [.str (S t)] ∧ t.length ≤ 2000 ∧ okD 0 t ∧ Q .non H
theorem scCrowd : FnScope ["text", "depth", "sign"] ["text"] (defScope sCrowd) := ⟨rfl, rfl, rfl, by decide +kernel, rfl, by decide +kernel, by decide +kernel⟩
theorem str1 (c d : Nat) (s : Str) (e : s = S [d]) : decide (V.str ⟨#[c]⟩ = V.str s) = decide (c = d) := by
  subst e
  by_cases h : c = d
  · subst h; rw [decide_eq_true rfl]; exact decide_eq_true rfl
  · rw [decide_eq_false h, decide_eq_false]
    intro z; injection z with z
    have := S_inj (a := [c]) (b := [d]) z
    injection this with this
    exact h this
theorem ok_crowd (R : g.Raw "refuse_crowded" "refuse_crowded" sCrowd ["text"]) (c1 : g.Con "MOST_SIGNS" (.int 2000)) (c2 : g.Con "MOST_BRACKETS" (.int 6)) (bl : g.mg "len" = none) : g.Fn 1 "refuse_crowded" ["text"] spCrowd := by
  refine R.fn scCrowd (fun vs H Q E h => by obtain ⟨t, rfl, _⟩ := h; rfl) fun f cdv A outer s H vs Q E hr h => ?_
  obtain ⟨t, rfl, ht, hok, q⟩ := h
  refine ⟨_, pss_cons (ps_if (pt_cmpR op_gt (pe_bf bl call_len_str (pa_cons (pv 0) pa_nil)) (pe_gc c1) (nomark _)) pss_never pss_nil)
    (pss_cons (ps_set (i := 1) scCrowd.nd rfl (Or.inl rfl) pe_int)
    (pss_one (ps_for PassesOwn.never rfl (pi_str (pv 0)) (pg_name (i := 2) scCrowd.nd rfl (Or.inl rfl))
      (pss_cons (ps_if (pt_cmpR op_eq (pv 2) pe_str (nomark _)) (pss_one (ps_aug (i := 1) scCrowd.nd rfl (Or.inl rfl) pe_int ip_add)) (pss_one (ps_if (pt_cmpR op_eq (pv 2) pe_str (nomark _)) (pss_one (ps_aug (i := 1) scCrowd.nd rfl (Or.inl rfl) pe_int ip_sub)) pss_nil)))
      (pss_one (ps_if (pt_cmpR op_gt (pv 1) (pe_gc c2) (nomark _)) pss_never pss_nil)))))), ?_⟩
  refine ⟨_, rfl, _, rfl, by rw [S_len]; exact small2 ht, _, _, rfl, rfl, _, rfl, ?_⟩
  rw [S_len, decide_eq_false (show ¬ ((2000 : Int) < ((t.length : Nat) : Int)) by omega)]
  refine iteF ?_
  refine ⟨_, rfl, S t, rfl, for_str (fun i σ H' => H' = H ∧ ∃ o, σ = [some (.str (S t)), some (.int (endD 0 (t.take i))), o] ∧ okD (endD 0 (t.take i)) (t.drop i)) ⟨rfl, none, rfl, hok⟩ ?_ ?_⟩
  · rintro i c σ H' hc ⟨rfl, o, rfl, hk⟩
    rw [S_list] at hc
    obtain ⟨hi, hc⟩ := List.getElem?_eq_some_iff.mp hc
    have e1 : t.drop i = c :: t.drop (i + 1) := by rw [List.drop_eq_getElem_cons hi, hc]
    rw [e1] at hk
    obtain ⟨h6, hk'⟩ := hk
    have e2 : endD 0 (t.take (i + 1)) = stepD (endD 0 (t.take i)) c := by
      rw [List.take_succ_eq_append_getElem hi, hc, endD_append]; rfl
    rw [← e2] at h6 hk'
    refine ⟨_, rfl, rfl, _, rfl, ?_⟩
    have d1 := str1 c 40 "(" (by decide +kernel)
    have d2 := str1 c 41 ")" (by decide +kernel)
    have last : ∀ (D : Ends) (o1 : Option V), o1 = some (V.int (endD 0 (t.take (i + 1)))) → D.nx = (fun σ H'' => H'' = H' ∧ ∃ o, σ = [some (.str (S t)), some (.int (endD 0 (t.take (i + 1)))), o] ∧ okD (endD 0 (t.take (i + 1))) (t.drop (i + 1))) →
        tIfS (tTest (tOp (rI0 fun i j => .bl (decide (j < i))) (tVar 1) (tC (.int 6)))) tNever tNext D [some (.str (S t)), o1, some (.str ⟨#[c]⟩)] H' := by
      rintro D o1 rfl hD
      refine ⟨_, rfl, _, _, rfl, rfl, _, rfl, ?_⟩
      rw [decide_eq_false (show ¬ (6 < endD 0 (t.take (i + 1))) by omega)]
      refine iteF ?_
      show D.nx _ _
      rw [hD]
      exact ⟨rfl, _, rfl, hk'⟩
    show (if decide (V.str ⟨#[c]⟩ = V.str "(") = true then _ else _)
    rw [d1]
    by_cases h40 : c = 40
    · rw [decide_eq_true h40]
      refine iteT ⟨_, rfl, _, _, rfl, rfl, last _ _ ?_ rfl⟩
      rw [e2]; unfold stepD; rw [if_pos h40]
    · rw [decide_eq_false h40]
      refine iteF ⟨_, rfl, rfl, _, rfl, ?_⟩
      show (if decide (V.str ⟨#[c]⟩ = V.str ")") = true then _ else _)
      rw [d2]
      by_cases h41 : c = 41
      · rw [decide_eq_true h41]
        refine iteT ⟨_, rfl, _, _, rfl, rfl, last _ _ ?_ rfl⟩
        rw [e2]; unfold stepD; rw [if_neg h40, if_pos h41]
      · rw [decide_eq_false h41]
        refine iteF (last _ _ ?_ rfl)
        rw [e2]; unfold stepD; rw [if_neg h40, if_neg h41]
  · rintro σ H' ⟨rfl, _⟩
    exact q
/-! read_note -/
def spRead : Sp := fun vs H Q _ => ∃ n : Note, vs = [.str (S (txt n))] ∧ (txt n).length ≤ 2000 ∧ Ok 6 n ∧ ∀ v H', NoteAt H' n v → Same H H' → Q v H'
theorem scRead : FnScope ["text", "reader", "note"] ["text"] (defScope sRead) := ⟨rfl, rfl, rfl, by decide +kernel, rfl, by decide +kernel, by decide +kernel⟩
theorem ok_read {k : Nat} (hk : 2 ≤ k) (T : Txt g C) (R : g.Raw "read_note" "read_note" sRead ["text"]) (F1 : g.Fn 1 "refuse_crowded" ["text"] spCrowd) (F2 : g.Ma 1 "NoteReader" C ["self", "text"] (spInit C)) (F3 : g.Me k C "labelled_note" ["self"] (spLN C 6)) (F4 : g.Me 1 C "at_end" ["self"] (spEnd C))
    (bi : g.mg "isinstance" = none) (bs : g.mg "str" = none) : g.Fn (k + 1) "read_note" ["text"] spRead := by
  refine R.fn scRead (fun vs H Q E h => by obtain ⟨n, rfl, _⟩ := h; rfl) fun f cdv A outer s H vs Q E hr h => ?_
  obtain ⟨n, rfl, hl, hn, q⟩ := h
  refine ⟨_, pss_cons (ps_if (pt_not (pt_val (pe_bf bi call_isinst (pa_cons (pv 0) (pa_cons (pe_bn (T := "str") bs) pa_nil))))) pss_never pss_nil)
    (pss_cons (ps_expr (pe_fn F1 hr (pa_cons (pv 0) pa_nil)))
    (pss_cons (ps_set (i := 1) scRead.nd rfl (Or.inl rfl) (pe_ma F2 hr (pa_cons (pv 0) pa_nil)))
    (pss_cons (ps_set (i := 2) scRead.nd rfl (Or.inl rfl) (pe_me0 F3 T.cl hr (pv 1)))
    (pss_cons (ps_if (pt_not (pt_val (pe_me0 F4 T.cl hr (pv 1)))) pss_never pss_nil)
    (pss_one (ps_ret (pv 2))))))), ?_⟩
  refine ⟨_, rfl, _, _, _, _, true, rfl, rfl, .str _, rfl, _, rfl, iteF ?_⟩
  refine ⟨_, rfl, txt n, rfl, hl, (txt_d 6 n 0 hn (by decide)).2, ?_⟩
  refine ⟨_, rfl, fun p dx np ndx nxp => ⟨p, dx, txt n, rfl, upd_same, rfl, ?_⟩⟩
  have e0 : (txt n).drop 0 = txt n ++ [] := by simp
  refine ⟨_, rfl, p, dx, _, rfl, upd_same, noat _ _ _, p, dx, txt n, 0, n, [], rfl, upd_same, hl, e0, hn, fun c e => by simp at e, fun v H' hv hat hbut => ?_⟩
  refine ⟨_, rfl, p, dx, _, rfl, hat, noat _ _ _, p, dx, txt n, _, rfl, hat, hl, ?_⟩
  have ed : decide (0 + (txt n).length = (txt n).length) = true := decide_eq_true (by omega)
  rw [ed]
  refine ⟨_, rfl, iteF ⟨_, rfl, q v H' hv fun b o e => ?_⟩⟩
  refine hbut b o (ne_of_none e np) ?_
  show upd (upd (upd H dx _) p _) p _ b = _
  rw [upd_ne (ne_of_none e np), upd_ne (ne_of_none e np), upd_ne (ne_of_none e ndx)]
  exact e
/-- the reading of a note, all its defs taken together -/
theorem read_all (T : Txt g C) (r1 : g.Raw "is_figure" "is_figure" sFig ["sign"]) (r2 : g.Raw "is_small_letter" "is_small_letter" sSmall ["sign"]) (r3 : g.Raw "is_letter_or_figure" "is_letter_or_figure" sLF ["sign"]) (r4 : g.Raw "is_word_sign" "is_word_sign" sWS ["sign"]) (r5 : g.Raw "is_label" "is_label" sLabel ["text"])
    (r6 : g.RawI "NoteReader" C "NoteReader.__init__" sInit ["self", "text"]) (r7 : g.RawM C "sign_here" "NoteReader.sign_here" sHere ["self"]) (r8 : g.RawM C "takes" "NoteReader.takes" sTakes ["self", "sign"]) (r9 : g.RawM C "word_signs" "NoteReader.word_signs" sWord ["self"]) (r10 : g.RawM C "labelled_note" "NoteReader.labelled_note" sLN ["self"]) (r11 : g.RawM C "bracketed_notes" "NoteReader.bracketed_notes" sBN ["self"]) (r12 : g.RawM C "at_end" "NoteReader.at_end" sEnd ["self"])
    (r13 : g.Raw "refuse_crowded" "refuse_crowded" sCrowd ["text"]) (r14 : g.Raw "read_note" "read_note" sRead ["text"]) (c1 : g.Con "MOST_SIGNS" (.int 2000)) (c2 : g.Con "MOST_BRACKETS" (.int 6)) (c3 : g.Con "LONGEST_WORD" (.int 62)) (c4 : g.Con "LONGEST_LABEL" (.int 8))
    (b1 : g.mg "len" = none) (b2 : g.mg "all" = none) (b3 : g.mg "isinstance" = none) (b4 : g.mg "str" = none) (b5 : g.mg "tuple" = none) : g.Fn 19 "read_note" ["text"] spRead := by
  have fFig := ok_fig r1
  have fSmall := ok_small r2
  have fLF := ok_lf r3 fSmall fFig
  have fWS := ok_ws r4 fLF
  have fLabel := ok_label r5 fSmall c4 b1 b2
  have fInit := ok_init T r6
  have fHere := ok_here T r7
  have fTakes := ok_takes T r8 fHere
  have fWord := ok_word T r9 fHere fWS
  have fEnd := ok_end T r12 b1
  have both : ∀ d : Nat, g.Me (5 + 2 * d) C "bracketed_notes" ["self"] (spBN C d) ∧ g.Me (6 + 2 * d) C "labelled_note" ["self"] (spLN C d) := by
    intro d
    induction d with
    | zero =>
      have b0 := ok_bn0 T r11 fTakes
      exact ⟨b0, ok_ln (by decide) T r10 fWord fTakes fLabel b0 c3 b1⟩
    | succ d ih =>
      have b1' := ok_bn (by omega) T r11 fTakes ih.2 b5
      have e : 6 + 2 * d + 1 = 5 + 2 * (d + 1) := by omega
      rw [e] at b1'
      have l1 := ok_ln (by omega) T r10 fWord fTakes fLabel b1' c3 b1
      have e2 : 5 + 2 * (d + 1) + 1 = 6 + 2 * (d + 1) := by omega
      rw [e2] at l1
      exact ⟨b1', l1⟩
  have fCrowd := ok_crowd r13 c1 c2 b1
  exact ok_read (by decide) T r14 fCrowd fInit (both 6).2 fEnd b3 b4
end Rd
end KW
set_option maxHeartbeats 8000000
namespace KW
open PySem L2

variable {g : Gx}
variable {C : Addr}
local macro_rules | `(tactic| walk_at "sd") => `(tactic| simp (config := { failIfUnchanged := false, maxSteps := 10000000 }) only [l_num, l_here, l_count, l_sum, l_not, l_turned, l_plus, l_times, l_less, l_same, l_both, l_each, l_joined, l_part, l_when, ms_inj, in_cons, in_nil, Bool.or_false, Bool.false_or, Bool.or_self, Bool.true_or, Bool.or_true, reduceCtorEq, V.str.injEq, List.mem_cons, List.not_mem_nil, or_false, false_or, or_true, true_or, or_self, not_true_eq_false, not_false_eq_true, if_true, if_false, ite_true, ite_false, decide_true, decide_false, Bool.false_eq_true, and_true, true_and, and_false, false_and, false_implies, true_implies])

local macro_rules | `(tactic| walk_at "gn") => `(tactic| simp only [gName, List.set_cons_zero, List.set_cons_succ])

local macro_rules | `(tactic| walk_at "rd") => `(tactic| simp (config := { failIfUnchanged := false, maxSteps := 10000000 }) only [L2.start, cxOf_K, nox_K, List.map_cons, List.map_nil, List.length_cons, List.length_nil, List.cons_append, List.nil_append, List.replicate_succ, List.replicate_zero, Nat.zero_add, Nat.reduceAdd, Nat.reduceSub, Nat.sub_self, tSeq, tIfS, tTest, tOp, tC, tVar, rI0, rI, rU, tUn, tRet, tRetN, tDrop, tNext, tBreak, tCont, tAsg, gName, gNil, gCons, tCons, tNil, tCB, tCall, tTry, tTryAs, tRaise, sFld, tFld, tMake, tMeth, Ends.gone, caught_K, tB, tAnd, tOr, tNot, tAndV, tOrV, tNotV, tIf, tChain, tNoPart, tPart, tSl, tNever, tAug, rIxL, rIxT, rSlL, tLst, tTup, gTup, tRev, tLZ, tConT, tDict0, rBits, rFind, rIn, tBM, tBM0, rAppend, rReverse, rEq, rNe, scal_ii, scal_ss, rCat, rSetL, gSub, ipI, capSt, List.getD_cons_zero, List.getD_cons_succ, decide_true, not_true_eq_false, not_false_eq_true,
  exists_eq_left', exists_eq_left, exists_eq', exists_eq, exists_and_left, and_assoc, Option.some.injEq, V.int.injEq, V.bl.injEq, V.ref.injEq, V.str.injEq, List.getElem?_cons_zero, List.getElem?_cons_succ, List.set_cons_zero, List.set_cons_succ, List.cons.injEq, and_true, true_and, List.append_nil, decide_eq_true_eq, Bool.not_eq_true', decide_eq_false_iff_not, Bool.not_not, Bool.not_true, Bool.not_false, Bool.true_eq_false, Bool.false_eq_true, if_true, if_false, ite_true, ite_false])

theorem join1 (z a : Str) : Txt.join z [a] = a := by simp [Txt.join, Builtin.Str.glued]
theorem join2 (z a b : Str) : Txt.join z [a, b] = a ++ (z ++ b) := by simp [Txt.join, Builtin.Str.glued]; rfl
theorem join3 (z a b c : Str) : Txt.join z [a, b, c] = a ++ (z ++ (b ++ (z ++ c))) := by simp [Txt.join, Builtin.Str.glued]; rfl
/-- the marks of terms -/
inductive Mk
  | num | here | count | sum | not | turned | plus | times | less | same | both | each | joined | part | when
  deriving DecidableEq
def Mk.s : Mk → String
  | .num => "num" | .here => "here" | .count => "count" | .sum => "sum" | .not => "not" | .turned => "turned" | .plus => "plus" | .times => "times" | .less => "less" | .same => "same" | .both => "both" | .each => "each" | .joined => "joined" | .part => "part" | .when => "when"
def ms (m : Mk) : Str := Str.ofString m.s
theorem ms_inj (m m' : Mk) : (ms m = ms m') = (m = m') := by
  cases m <;> cases m' <;> simp only [eq_iff_iff, reduceCtorEq, iff_false, iff_true] <;> decide +kernel
theorem l_num : Str.ofString "num" = ms .num := rfl
theorem l_here : Str.ofString "here" = ms .here := rfl
theorem l_count : Str.ofString "count" = ms .count := rfl
theorem l_sum : Str.ofString "sum" = ms .sum := rfl
theorem l_not : Str.ofString "not" = ms .not := rfl
theorem l_turned : Str.ofString "turned" = ms .turned := rfl
theorem l_plus : Str.ofString "plus" = ms .plus := rfl
theorem l_times : Str.ofString "times" = ms .times := rfl
theorem l_less : Str.ofString "less" = ms .less := rfl
theorem l_same : Str.ofString "same" = ms .same := rfl
theorem l_both : Str.ofString "both" = ms .both := rfl
theorem l_each : Str.ofString "each" = ms .each := rfl
theorem l_joined : Str.ofString "joined" = ms .joined := rfl
theorem l_part : Str.ofString "part" = ms .part := rfl
theorem l_when : Str.ofString "when" = ms .when := rfl
theorem in_nil (x : V) : inV x [] = false := rfl
theorem in_cons (a b : Mk) (l : List V) : inV (.str (ms a)) (.str (ms b) :: l) = (decide (b = a) || inV (.str (ms a)) l) := by
  have : eqV (.str (ms b)) (.str (ms a)) = decide (b = a) := by
    have h := ms_inj b a
    simp only [eqV]
    by_cases e : b = a
    · subst e; simp
    · have e' : ms b ≠ ms a := fun z => e (h ▸ z)
      simp [e, e']
  rw [inV, List.any_cons, this]
  rfl
theorem ms_len (m : Mk) : (ms m).length ≤ 6 := by cases m <;> decide +kernel
/-- a kind: none, a number's, a truth's -/
def kv : Option Bool → V
  | none => .non
  | some false => .str (Str.ofString "number")
  | some true => .str (Str.ofString "truth")
def kd : Option Bool → PyData
  | none => .none
  | some false => .str (Str.ofString "number")
  | some true => .str (Str.ofString "truth")
/-- the kind by the kinds within -/
def kb : Mk → List (Option Bool) → Option Bool
  | .num, _ => some false
  | .here, _ => some false
  | .plus, ks => if ks = [some false, some false] then some false else none
  | .times, ks => if ks = [some false, some false] then some false else none
  | .less, ks => if ks = [some false, some false] then some true else none
  | .same, ks => if ks = [some false, some false] then some true else none
  | .not, ks => if ks = [some true] then some true else none
  | .both, ks => if ks = [some true, some true] then some true else none
  | .when, [a, b, c] => if a = some true ∧ b = c then b else none
  | _, _ => none
/-- the text by the texts within -/
def tx : Mk → List Str → Str → Str
  | .num, _, ex => ex
  | .here, _, _ => ms .here
  | .part, xs, ex => ms .part ++ Str.ofString "(" ++ Txt.join (Str.ofString ",") (xs ++ [ex]) ++ Str.ofString ")"
  | m, xs, _ => ms m ++ Str.ofString "(" ++ Txt.join (Str.ofString ",") xs ++ Str.ofString ")"
/-- what a term holds behind its mark -/
def Arg (H : Hp) : Mk → V → List V → Str → Prop
  | .num, r, vs, ex => ∃ i : Int, r = .int i ∧ i.natAbs < 10 ^ 60 ∧ vs = [] ∧ ex = Str.ofString (toString i)
  | .here, _, vs, _ => vs = []
  | .part, r, vs, ex => ∃ (p : Addr) (v : V) (i : Nat), r = .ref p ∧ H p = some (.tup [v, .int (i : Nat)]) ∧ i < 10 ^ 15 ∧ vs = [v] ∧ ex = Str.ofString (toString (i : Int))
  | .count, r, vs, _ => vs = [r]
  | .sum, r, vs, _ => vs = [r]
  | .not, r, vs, _ => vs = [r]
  | .turned, r, vs, _ => vs = [r]
  | .when, r, vs, _ => ∃ (p : Addr) (a b c : V), r = .ref p ∧ H p = some (.tup [a, b, c]) ∧ vs = [a, b, c]
  | _, r, vs, _ => ∃ (p : Addr) (a b : V), r = .ref p ∧ H p = some (.tup [a, b]) ∧ vs = [a, b]
def TmAt (H : Hp) : Nat → V → Option Bool → Str → Prop
  | 0, _, _, _ => False
  | n + 1, v, k, x => ∃ (m : Mk) (a : Addr) (r : V) (vs : List V) (ks : List (Option Bool)) (xs : List Str) (ex : Str), v = .ref a ∧ H a = some (.tup [.str (ms m), r]) ∧ Arg H m r vs ex ∧ ks.length = vs.length ∧ xs.length = vs.length ∧ (∀ (i : Nat) v k x, vs[i]? = some v → ks[i]? = some k → xs[i]? = some x → TmAt H n v k x) ∧ k = kb m ks ∧ x = tx m xs ex
/-- tuples stay -/
def Tk (H H' : Hp) : Prop := ∀ (a : Addr) (ys : List V), H a = some (.tup ys) → H' a = some (.tup ys)
theorem Tk.of {H H' : Hp} (s : Same H H') : Tk H H' := fun _ _ h => s _ _ h
theorem Arg.keep {H H' : Hp} (t : Tk H H') : ∀ {m : Mk} {r : V} {vs : List V} {ex : Str}, Arg H m r vs ex → Arg H' m r vs ex := by
  intro m r vs ex h
  cases m <;> simp only [Arg] at h ⊢ <;> first
    | exact h
    | (obtain ⟨p, v, i, h1, h2, h3⟩ := h; exact ⟨p, v, i, h1, t _ _ h2, h3⟩)
    | (obtain ⟨p, a, b, c, h1, h2, h3⟩ := h; exact ⟨p, a, b, c, h1, t _ _ h2, h3⟩)
theorem TmAt.keep {H H' : Hp} (t : Tk H H') : ∀ {n : Nat} {v : V} {k : Option Bool} {x : Str}, TmAt H n v k x → TmAt H' n v k x
  | 0, _, _, _, h => h
  | n + 1, v, k, x, h => by
    obtain ⟨m, a, r, vs, ks, xs, ex, h1, h2, h3, h4, h5, h6, h7⟩ := h
    exact ⟨m, a, r, vs, ks, xs, ex, h1, t _ _ h2, h3.keep t, h4, h5, fun i v k x a b c => (h6 i v k x a b c).keep t, h7⟩
/-- how many are within -/
theorem Arg.few {H : Hp} {m : Mk} {r : V} {vs : List V} {ex : Str} (h : Arg H m r vs ex) : vs.length ≤ 3 := by
  cases m <;> simp only [Arg] at h <;> first
    | (obtain ⟨_, _, _, rfl, _⟩ := h; exact Nat.zero_le _)
    | (subst h; simp)
    | (obtain ⟨_, _, _, _, _, _, rfl, _⟩ := h; simp)
    | (obtain ⟨_, _, _, _, _, _, rfl⟩ := h; simp)
    | (obtain ⟨_, _, _, _, _, rfl⟩ := h; simp)
end KW
set_option maxHeartbeats 8000000
namespace KW
open PySem L2

variable {g : Gx}
variable {C : Addr}
local macro_rules | `(tactic| walk_at "sd") => `(tactic| simp (config := { failIfUnchanged := false, maxSteps := 10000000 }) only [l_num, l_here, l_count, l_sum, l_not, l_turned, l_plus, l_times, l_less, l_same, l_both, l_each, l_joined, l_part, l_when, ms_inj, in_cons, in_nil, Bool.or_false, Bool.false_or, Bool.or_self, Bool.true_or, Bool.or_true, reduceCtorEq, V.str.injEq, List.mem_cons, List.not_mem_nil, or_false, false_or, or_true, true_or, or_self, not_true_eq_false, not_false_eq_true, if_true, if_false, ite_true, ite_false, decide_true, decide_false, Bool.false_eq_true, and_true, true_and, and_false, false_and, false_implies, true_implies])

local macro_rules | `(tactic| walk_at "gn") => `(tactic| simp only [gName, List.set_cons_zero, List.set_cons_succ])

local macro_rules | `(tactic| walk_at "rd") => `(tactic| simp (config := { failIfUnchanged := false, maxSteps := 10000000 }) only [L2.start, cxOf_K, nox_K, List.map_cons, List.map_nil, List.length_cons, List.length_nil, List.cons_append, List.nil_append, List.replicate_succ, List.replicate_zero, Nat.zero_add, Nat.reduceAdd, Nat.reduceSub, Nat.sub_self, tSeq, tIfS, tTest, tOp, tC, tVar, rI0, rI, rU, tUn, tRet, tRetN, tDrop, tNext, tBreak, tCont, tAsg, gName, gNil, gCons, tCons, tNil, tCB, tCall, tTry, tTryAs, tRaise, sFld, tFld, tMake, tMeth, Ends.gone, caught_K, tB, tAnd, tOr, tNot, tAndV, tOrV, tNotV, tIf, tChain, tNoPart, tPart, tSl, tNever, tAug, rIxL, rIxT, rSlL, tLst, tTup, gTup, tRev, tLZ, tConT, tDict0, rBits, rFind, rIn, tBM, tBM0, rAppend, rReverse, rEq, rNe, scal_ii, scal_ss, rCat, rSetL, gSub, ipI, capSt, List.getD_cons_zero, List.getD_cons_succ, decide_true, not_true_eq_false, not_false_eq_true,
  exists_eq_left', exists_eq_left, exists_eq', exists_eq, exists_and_left, and_assoc, Option.some.injEq, V.int.injEq, V.bl.injEq, V.ref.injEq, V.str.injEq, List.getElem?_cons_zero, List.getElem?_cons_succ, List.set_cons_zero, List.set_cons_succ, List.cons.injEq, and_true, true_and, List.append_nil, decide_eq_true_eq, Bool.not_eq_true', decide_eq_false_iff_not, Bool.not_not, Bool.not_true, Bool.not_false, Bool.true_eq_false, Bool.false_eq_true, if_true, if_false, ite_true, ite_false])

def sp_inner_terms (K : PySem.W.Frag) : Sp := fun vs H Q _ => ∃ (a : Addr) (m : Mk) (r : V) (us : List V) (ex : Str), vs = [.ref a] ∧ H a = some (.tup [.str (ms m), r]) ∧ Arg H m r us ex ∧ ∀ (L : Addr) H', Same H H' → H' L = some (.lst us) → Q (.ref L) H'
theorem ok_inner_terms {C_NoteReader : Addr} (R : g.Raw "inner_terms" "inner_terms" s_inner_terms ["term"]) (b_list : g.mg "list" = none) (c_OF_ONE_TERM : g.ConT "OF_ONE_TERM" ([.str "count", .str "sum", .str "not", .str "turned"])) (c_OF_TWO_TERMS : g.ConT "OF_TWO_TERMS" ([.str "plus", .str "times", .str "less", .str "same", .str "both", .str "each", .str "joined"])) : g.Fn (1) "inner_terms" ["term"] (sp_inner_terms g.K) := by
  refine R.fn sc_inner_terms (fun vs H Q E h => by obtain ⟨a, m, r, us, ex, rfl, ha, hg, q⟩ := h; rfl) fun f_ cdv A outer s H vs Q E hr h => ?_
  obtain ⟨a, m, r, us, ex, rfl, ha, hg, q⟩ := h
  refine ⟨_, (@pss_cons _ _ _ _ _ (@ps_set _ _ (1) _ _ _ _ sc_inner_terms.nd rfl (Or.inl rfl) (@pe_ix _ _ _ _ _ _ _ ix_tup (@pv _ 0 _ _ (by rfl) (by first | exact Or.inl rfl | exact Or.inr (Or.inl rfl) | exact Or.inr (Or.inr rfl)) (by decide) (by decide)) pe_int (fun _ _ => rfl)) (by rfl) (by first | exact .inl rfl | exact .inr rfl | assumption)) (@pss_cons _ _ _ _ _ (@ps_if _ _ _ _ _ _ _ _ (@pt_cmpR _ _ _ _ _ _ _ _ op_in_seq (@pv _ 1 _ _ (by rfl) (by first | exact Or.inl rfl | exact Or.inr (Or.inl rfl) | exact Or.inr (Or.inr rfl)) (by decide) (by decide)) (@pe_gt _ _ _ _ _ c_OF_ONE_TERM (by rfl) (by rfl) (by decide)) rfl) (@pss_one _ _ _ (@ps_ret _ _ _ _ (@pe_lst _ _ _ _ (@pa_cons _ _ _ _ _ (@pe_ix _ _ _ _ _ _ _ ix_tup (@pv _ 0 _ _ (by rfl) (by first | exact Or.inl rfl | exact Or.inr (Or.inl rfl) | exact Or.inr (Or.inr rfl)) (by decide) (by decide)) pe_int (fun _ _ => rfl)) pa_nil (by rfl))))) pss_nil) (@pss_cons _ _ _ _ _ (@ps_if _ _ _ _ _ _ _ _ (@pt_cmpR _ _ _ _ _ _ _ _ op_eq (@pv _ 1 _ _ (by rfl) (by first | exact Or.inl rfl | exact Or.inr (Or.inl rfl) | exact Or.inr (Or.inr rfl)) (by decide) (by decide)) pe_str (nomark _)) (@pss_one _ _ _ (@ps_ret _ _ _ _ (@pe_lst _ _ _ _ (@pa_cons _ _ _ _ _ (@pe_ix _ _ _ _ _ _ _ ix_tup (@pe_ix _ _ _ _ _ _ _ ix_tup (@pv _ 0 _ _ (by rfl) (by first | exact Or.inl rfl | exact Or.inr (Or.inl rfl) | exact Or.inr (Or.inr rfl)) (by decide) (by decide)) pe_int (fun _ _ => rfl)) pe_int (fun _ _ => rfl)) pa_nil (by rfl))))) pss_nil) (@pss_cons _ _ _ _ _ (@ps_if _ _ _ _ _ _ _ _ (@pw_or _ _ _ _ _ _ _ (@pt_cmpR _ _ _ _ _ _ _ _ op_eq (@pv _ 1 _ _ (by rfl) (by first | exact Or.inl rfl | exact Or.inr (Or.inl rfl) | exact Or.inr (Or.inr rfl)) (by decide) (by decide)) pe_str (nomark _)) (@pw_or1 _ _ _ _ (@pt_cmpR _ _ _ _ _ _ _ _ op_in_seq (@pv _ 1 _ _ (by rfl) (by first | exact Or.inl rfl | exact Or.inr (Or.inl rfl) | exact Or.inr (Or.inr rfl)) (by decide) (by decide)) (@pe_gt _ _ _ _ _ c_OF_TWO_TERMS (by rfl) (by rfl) (by decide)) rfl))).pt (@pss_one _ _ _ (@ps_ret _ _ _ _ (@pe_bt _ _ _ _ _ _ _ _ _ _ b_list call_list_of (@pa_cons _ _ _ _ _ (@pe_ix _ _ _ _ _ _ _ ix_tup (@pv _ 0 _ _ (by rfl) (by first | exact Or.inl rfl | exact Or.inr (Or.inl rfl) | exact Or.inr (Or.inr rfl)) (by decide) (by decide)) pe_int (fun _ _ => rfl)) pa_nil (by rfl)) (by decide +kernel) (by rfl) (by rfl) (by decide) (by decide) (by rfl) (by rfl)))) pss_nil) (@pss_one _ _ _ (@ps_ret _ _ _ _ (@pe_lst _ _ _ _ pa_nil))))))), ?_⟩
  walk_at "rd"
  refine ⟨_, SqT.of ha, _, rfl, ?_⟩
  walk_at "rd"
  cases m <;> simp only [Arg] at hg <;> walk_at "sd"
  all_goals try (intro c1 hc1; refine ⟨_, .inr hc1, rfl, rfl, ?_⟩; walk_at "sd")
  all_goals try (intro c2 hc2; refine ⟨_, .inr hc2, rfl, rfl, ?_⟩; walk_at "sd")
  case num => obtain ⟨i, rfl, _, rfl, _⟩ := hg; exact ⟨few (by decide), fun p hp => q p _ (.upd_new hp _) upd_same⟩
  case here => subst hg; exact ⟨few (by decide), fun p hp => q p _ (.upd_new hp _) upd_same⟩
  case part =>
    obtain ⟨b, v, i, rfl, hb, _, rfl, _⟩ := hg
    exact ⟨_, SqT.of ha, _, rfl, b, rfl, _, SqT.of hb, _, rfl, few (by decide), fun p hp => q p _ (.upd_new hp _) upd_same⟩
  case when =>
    obtain ⟨b, v1, v2, v3, rfl, hb, rfl⟩ := hg
    exact ⟨_, SqT.of ha, _, rfl, b, rfl, _, .inr (SqT.of hb), fun p hp => q p _ (.upd_new hp _) upd_same⟩
  all_goals first
    | (subst hg; exact ⟨_, SqT.of ha, _, rfl, few (by decide), fun p hp => q p _ (.upd_new hp _) upd_same⟩)
    | (obtain ⟨b, v1, v2, rfl, hb, rfl⟩ := hg; exact ⟨_, SqT.of ha, _, rfl, b, rfl, _, .inr (SqT.of hb), fun p hp => q p _ (.upd_new hp _) upd_same⟩)
end KW
set_option maxHeartbeats 8000000
namespace KW
open PySem L2

variable {g : Gx}
variable {C : Addr}
local macro_rules | `(tactic| walk_at "sd") => `(tactic| simp (config := { failIfUnchanged := false, maxSteps := 10000000 }) only [l_num, l_here, l_count, l_sum, l_not, l_turned, l_plus, l_times, l_less, l_same, l_both, l_each, l_joined, l_part, l_when, ms_inj, in_cons, in_nil, Bool.or_false, Bool.false_or, Bool.or_self, Bool.true_or, Bool.or_true, reduceCtorEq, V.str.injEq, List.mem_cons, List.not_mem_nil, or_false, false_or, or_true, true_or, or_self, not_true_eq_false, not_false_eq_true, if_true, if_false, ite_true, ite_false, decide_true, decide_false, Bool.false_eq_true, and_true, true_and, and_false, false_and, false_implies, true_implies])

local macro_rules | `(tactic| walk_at "gn") => `(tactic| simp only [gName, List.set_cons_zero, List.set_cons_succ])

local macro_rules | `(tactic| walk_at "rd") => `(tactic| simp (config := { failIfUnchanged := false, maxSteps := 10000000 }) only [L2.start, cxOf_K, nox_K, List.map_cons, List.map_nil, List.length_cons, List.length_nil, List.cons_append, List.nil_append, List.replicate_succ, List.replicate_zero, Nat.zero_add, Nat.reduceAdd, Nat.reduceSub, Nat.sub_self, tSeq, tIfS, tTest, tOp, tC, tVar, rI0, rI, rU, tUn, tRet, tRetN, tDrop, tNext, tBreak, tCont, tAsg, gName, gNil, gCons, tCons, tNil, tCB, tCall, tTry, tTryAs, tRaise, sFld, tFld, tMake, tMeth, Ends.gone, caught_K, tB, tAnd, tOr, tNot, tAndV, tOrV, tNotV, tIf, tChain, tNoPart, tPart, tSl, tNever, tAug, rIxL, rIxT, rSlL, tLst, tTup, gTup, tRev, tLZ, tConT, tDict0, rBits, rFind, rIn, tBM, tBM0, rAppend, rReverse, rEq, rNe, scal_ii, scal_ss, rCat, rSetL, gSub, ipI, capSt, List.getD_cons_zero, List.getD_cons_succ, decide_true, not_true_eq_false, not_false_eq_true,
  exists_eq_left', exists_eq_left, exists_eq', exists_eq, exists_and_left, and_assoc, Option.some.injEq, V.int.injEq, V.bl.injEq, V.ref.injEq, V.str.injEq, List.getElem?_cons_zero, List.getElem?_cons_succ, List.set_cons_zero, List.set_cons_succ, List.cons.injEq, and_true, true_and, List.append_nil, decide_eq_true_eq, Bool.not_eq_true', decide_eq_false_iff_not, Bool.not_not, Bool.not_true, Bool.not_false, Bool.true_eq_false, Bool.false_eq_true, if_true, if_false, ite_true, ite_false])

theorem join_len {z : Str} : ∀ {ys : List Str}, ys ≠ [] → ys.length ≤ 3 → (Txt.join z ys).length + z.length = (ys.map (·.length)).sum + ys.length * z.length
  | [], h, _ => (h rfl).elim
  | [a], _, _ => by rw [join1]; simp
  | [a, b], _, _ => by rw [join2]; simp [Str.length_append]; omega
  | [a, b, c], _, _ => by rw [join3]; simp [Str.length_append]; omega
  | _ :: _ :: _ :: _ :: _, _, h => by simp at h
theorem len_mem : ∀ {ys : List Str} {y : Str}, y ∈ ys → y.length ≤ (ys.map (·.length)).sum
  | a :: ys, y, h => by
    rw [List.map_cons, List.sum_cons]
    rcases List.mem_cons.mp h with rfl | h
    · omega
    · have := len_mem h; omega
/-- what is shown between the brackets -/
def shn : Mk → List Str → Str → List Str
  | .part, xs, ex => xs ++ [ex]
  | _, xs, _ => xs
theorem tx_eq {m : Mk} {xs : List Str} {ex : Str} (h1 : m ≠ .num) (h2 : m ≠ .here) : tx m xs ex = ms m ++ Str.ofString "(" ++ Txt.join (Str.ofString ",") (shn m xs ex) ++ Str.ofString ")" := by
  cases m <;> first | exact (h1 rfl).elim | exact (h2 rfl).elim | rfl
theorem Arg.shn {H : Hp} {m : Mk} {r : V} {vs : List V} {ex : Str} {xs : List Str} (h : Arg H m r vs ex) (h1 : m ≠ .num) (h2 : m ≠ .here) (hx : xs.length = vs.length) : shn m xs ex ≠ [] ∧ (shn m xs ex).length ≤ 3 := by
  cases m <;> simp only [Arg] at h <;> first | exact (h1 rfl).elim | exact (h2 rfl).elim | skip
  case part =>
    obtain ⟨_, _, _, _, _, _, rfl, _⟩ := h
    simp only [KW.shn]
    refine ⟨by simp, by rw [List.length_append, hx]; simp⟩
  all_goals (simp only [KW.shn]; first
    | (subst h; exact ⟨fun e => by rw [e] at hx; simp at hx, by rw [hx]; simp⟩)
    | (obtain ⟨_, _, _, _, _, _, rfl⟩ := h; exact ⟨fun e => by rw [e] at hx; simp at hx, by rw [hx]; simp⟩)
    | (obtain ⟨_, _, _, _, _, rfl⟩ := h; exact ⟨fun e => by rw [e] at hx; simp at hx, by rw [hx]; simp⟩))
theorem tx_len {m : Mk} {xs : List Str} {ex : Str} (h1 : m ≠ .num) (h2 : m ≠ .here) (h3 : shn m xs ex ≠ []) (h4 : (shn m xs ex).length ≤ 3) : (tx m xs ex).length = (ms m).length + 1 + ((shn m xs ex).map (·.length)).sum + (shn m xs ex).length := by
  have e1 : (Str.ofString "(").length = 1 := by decide +kernel
  have e2 : (Str.ofString ")").length = 1 := by decide +kernel
  have e3 : (Str.ofString ",").length = 1 := by decide +kernel
  have := join_len (z := Str.ofString ",") h3 h4
  rw [tx_eq h1 h2, Str.length_append, Str.length_append, Str.length_append, e1, e2]
  rw [e3] at this
  omega
theorem mem_shn {m : Mk} {xs : List Str} {ex x : Str} (h : x ∈ xs) : x ∈ shn m xs ex := by
  cases m <;> simp only [shn] <;> first | exact h | exact List.mem_append_left _ h
def sp_show_term (K : PySem.W.Frag) (m : Nat) : Sp := fun vs H Q _ => ∃ (v : V) (k : Option Bool) (x : Str), vs = [v] ∧ TmAt H m v k x ∧ x.length ≤ 1000000 ∧ ∀ H', Same H H' → Q (.str x) H'
theorem no_show {K : PySem.W.Frag} {vs : List V} {H : Hp} {Q : VK} {E : XK} (h : sp_show_term K 0 vs H Q E) : False := by
  obtain ⟨v, k, x, _, h, _⟩ := h
  exact h
theorem big_log {i : Int} (h : i.natAbs < 10 ^ 60) : i.natAbs.log2 < 1920 := by
  rcases Nat.eq_zero_or_pos i.natAbs with h0 | h0
  · rw [h0]; decide
  · rw [Nat.log2_lt (by omega)]
    exact Nat.lt_trans h (by decide +kernel)
theorem small_log {i : Nat} (h : i < 10 ^ 15) : (i : Int).natAbs.log2 < 1920 := by
  rw [Int.natAbs_natCast]
  rcases Nat.eq_zero_or_pos i with rfl | h0
  · decide
  · rw [Nat.log2_lt (by omega)]
    exact Nat.lt_of_lt_of_le h (Nat.le_trans (by decide : 10 ^ 15 ≤ 2 ^ 50) (Nat.pow_le_pow_right (by decide) (by decide)))
end KW
set_option maxHeartbeats 8000000
namespace KW
open PySem L2

variable {g : Gx}
variable {C : Addr}
local macro_rules | `(tactic| walk_at "sd") => `(tactic| simp (config := { failIfUnchanged := false, maxSteps := 10000000 }) only [l_num, l_here, l_count, l_sum, l_not, l_turned, l_plus, l_times, l_less, l_same, l_both, l_each, l_joined, l_part, l_when, ms_inj, in_cons, in_nil, Bool.or_false, Bool.false_or, Bool.or_self, Bool.true_or, Bool.or_true, reduceCtorEq, V.str.injEq, List.mem_cons, List.not_mem_nil, or_false, false_or, or_true, true_or, or_self, not_true_eq_false, not_false_eq_true, if_true, if_false, ite_true, ite_false, decide_true, decide_false, Bool.false_eq_true, and_true, true_and, and_false, false_and, false_implies, true_implies])

local macro_rules | `(tactic| walk_at "gn") => `(tactic| simp only [gName, List.set_cons_zero, List.set_cons_succ])

local macro_rules | `(tactic| walk_at "rd") => `(tactic| simp (config := { failIfUnchanged := false, maxSteps := 10000000 }) only [L2.start, cxOf_K, nox_K, List.map_cons, List.map_nil, List.length_cons, List.length_nil, List.cons_append, List.nil_append, List.replicate_succ, List.replicate_zero, Nat.zero_add, Nat.reduceAdd, Nat.reduceSub, Nat.sub_self, tSeq, tIfS, tTest, tOp, tC, tVar, rI0, rI, rU, tUn, tRet, tRetN, tDrop, tNext, tBreak, tCont, tAsg, gName, gNil, gCons, tCons, tNil, tCB, tCall, tTry, tTryAs, tRaise, sFld, tFld, tMake, tMeth, Ends.gone, caught_K, tB, tAnd, tOr, tNot, tAndV, tOrV, tNotV, tIf, tChain, tNoPart, tPart, tSl, tNever, tAug, rIxL, rIxT, rSlL, tLst, tTup, gTup, tRev, tLZ, tConT, tDict0, rBits, rFind, rIn, tBM, tBM0, rAppend, rReverse, rEq, rNe, scal_ii, scal_ss, rCat, rSetL, gSub, ipI, capSt, List.getD_cons_zero, List.getD_cons_succ, decide_true, not_true_eq_false, not_false_eq_true,
  exists_eq_left', exists_eq_left, exists_eq', exists_eq, exists_and_left, and_assoc, Option.some.injEq, V.int.injEq, V.bl.injEq, V.ref.injEq, V.str.injEq, List.getElem?_cons_zero, List.getElem?_cons_succ, List.set_cons_zero, List.set_cons_succ, List.cons.injEq, and_true, true_and, List.append_nil, decide_eq_true_eq, Bool.not_eq_true', decide_eq_false_iff_not, Bool.not_not, Bool.not_true, Bool.not_false, Bool.true_eq_false, Bool.false_eq_true, if_true, if_false, ite_true, ite_false])

theorem ok_show_term {k : Nat} {C_NoteReader : Addr} (R : g.Raw "show_term" "show_term" s_show_term ["term"]) (F_inner_terms : g.Fn k "inner_terms" ["term"] (sp_inner_terms g.K)) (F_show_term : g.Fn k "show_term" ["term"] (sp_show_term g.K m)) (b_str : g.mg "str" = none) : g.Fn (k + 1) "show_term" ["term"] (sp_show_term g.K (m + 1)) := by
  refine R.fn sc_show_term (fun vs H Q E h => by obtain ⟨v, k, x, rfl, hT, hxl, q⟩ := h; rfl) fun f_ cdv A outer s H vs Q E hr h => ?_
  obtain ⟨v, k, x, rfl, hT, hxl, q⟩ := h
  refine ⟨_, (@pss_cons _ _ _ _ _ (@ps_set _ _ (1) _ _ _ _ sc_show_term.nd rfl (Or.inl rfl) (@pe_ix _ _ _ _ _ _ _ ix_tup (@pv _ 0 _ _ (by rfl) (by first | exact Or.inl rfl | exact Or.inr (Or.inl rfl) | exact Or.inr (Or.inr rfl)) (by decide) (by decide)) pe_int (fun _ _ => rfl)) (by rfl) (by first | exact .inl rfl | exact .inr rfl | assumption)) (@pss_cons _ _ _ _ _ (@ps_if _ _ _ _ _ _ _ _ (@pt_cmpR _ _ _ _ _ _ _ _ op_eq (@pv _ 1 _ _ (by rfl) (by first | exact Or.inl rfl | exact Or.inr (Or.inl rfl) | exact Or.inr (Or.inr rfl)) (by decide) (by decide)) pe_str (nomark _)) (@pss_one _ _ _ (@ps_ret _ _ _ _ (@pe_bt _ _ _ _ _ _ _ _ _ _ b_str call_str_int (@pa_cons _ _ _ _ _ (@pe_ix _ _ _ _ _ _ _ ix_tup (@pv _ 0 _ _ (by rfl) (by first | exact Or.inl rfl | exact Or.inr (Or.inl rfl) | exact Or.inr (Or.inr rfl)) (by decide) (by decide)) pe_int (fun _ _ => rfl)) pa_nil (by rfl)) (by decide +kernel) (by rfl) (by rfl) (by decide) (by decide) (by rfl) (by rfl)))) pss_nil) (@pss_cons _ _ _ _ _ (@ps_if _ _ _ _ _ _ _ _ (@pt_cmpR _ _ _ _ _ _ _ _ op_eq (@pv _ 1 _ _ (by rfl) (by first | exact Or.inl rfl | exact Or.inr (Or.inl rfl) | exact Or.inr (Or.inr rfl)) (by decide) (by decide)) pe_str (nomark _)) (@pss_one _ _ _ (@ps_ret _ _ _ _ (@pv _ 1 _ _ (by rfl) (by first | exact Or.inl rfl | exact Or.inr (Or.inl rfl) | exact Or.inr (Or.inr rfl)) (by decide) (by decide)))) pss_nil) (@pss_cons _ _ _ _ _ (@ps_setC _ (2) _ _ _ _ _ _ _ _ _ ([none]) ((["inner"] : List Str)) _ (gName 0) _ _ sc_show_term.nd rfl (Or.inl rfl) (.own .nil) rfl (@pi_list _ _ _ _ (@pe_fn _ _ _ _ _ _ _ _ _ _ _ _ F_inner_terms hr (@pa_cons _ _ _ _ _ (@pv _ 0 _ _ (by rfl) (by first | exact Or.inl rfl | exact Or.inr (Or.inl rfl) | exact Or.inr (Or.inr rfl)) (by decide) (by decide)) pa_nil (by rfl)) (by omega) (by rfl) (by rfl) (by decide) (by rfl) (by rfl))) (fun cl C s₀ H₀ fp pn => (@pg_name _ _ (0) _ (show List.Nodup (["inner"] : List Str) by decide +kernel) rfl (Or.inl rfl) (Or.inr rfl))) (fun cl C s₀ H₀ fp pn => pts_nil) (fun cl C s₀ H₀ fp pn => (@pe_fn _ _ _ _ _ _ _ _ _ _ _ _ F_show_term hr (@pa_cons _ _ _ _ _ (@pv _ 0 _ _ (by rfl) (by first | exact Or.inl rfl | exact Or.inr (Or.inl rfl) | exact Or.inr (Or.inr rfl)) (by decide) (by decide)) pa_nil (by rfl)) (by omega) (by rfl) (by rfl) (by decide) (by rfl) (by rfl))) (by intro x hx; simp at hx) (by rfl) (by decide) (by decide +kernel) (by intro _; rfl) (by rfl) (by first | exact .inl rfl | exact .inr rfl | assumption)) (@pss_cons _ _ _ _ _ (@ps_if _ _ _ _ _ _ _ _ (@pt_cmpR _ _ _ _ _ _ _ _ op_eq (@pv _ 1 _ _ (by rfl) (by first | exact Or.inl rfl | exact Or.inr (Or.inl rfl) | exact Or.inr (Or.inr rfl)) (by decide) (by decide)) pe_str (nomark _)) (@pss_one _ _ _ (@ps_expr _ _ _ _ (@pe_bm _ _ _ _ _ _ _ _ _ _ _ _ PySem.F.plainAttrs_list PySem.F.slot_list_append PySem.F.type_list_append mt_append (@pv _ 2 _ _ (by rfl) (by first | exact Or.inl rfl | exact Or.inr (Or.inl rfl) | exact Or.inr (Or.inr rfl)) (by decide) (by decide)) (@pa_cons _ _ _ _ _ (@pe_bt _ _ _ _ _ _ _ _ _ _ b_str call_str_int (@pa_cons _ _ _ _ _ (@pe_ix _ _ _ _ _ _ _ ix_tup (@pe_ix _ _ _ _ _ _ _ ix_tup (@pv _ 0 _ _ (by rfl) (by first | exact Or.inl rfl | exact Or.inr (Or.inl rfl) | exact Or.inr (Or.inr rfl)) (by decide) (by decide)) pe_int (fun _ _ => rfl)) pe_int (fun _ _ => rfl)) pa_nil (by rfl)) (by decide +kernel) (by rfl) (by rfl) (by decide) (by decide) (by rfl) (by rfl)) pa_nil (by rfl)) (by rfl) (by rfl) (by rfl) (by rfl) (by rfl)) (by rfl))) pss_nil) (@pss_one _ _ _ (@ps_ret _ _ _ _ (@pe_op _ _ _ _ _ _ _ _ op_add_str (@pe_op _ _ _ _ _ _ _ _ op_add_str (@pe_op _ _ _ _ _ _ _ _ op_add_str (@pv _ 1 _ _ (by rfl) (by first | exact Or.inl rfl | exact Or.inr (Or.inl rfl) | exact Or.inr (Or.inr rfl)) (by decide) (by decide)) pe_str) (@pe_bm _ _ _ _ _ _ _ _ _ _ _ _ PySem.F.plainAttrs_str PySem.F.slot_str_join PySem.F.type_str_join mt_join pe_str (@pa_cons _ _ _ _ _ (@pv _ 2 _ _ (by rfl) (by first | exact Or.inl rfl | exact Or.inr (Or.inl rfl) | exact Or.inr (Or.inr rfl)) (by decide) (by decide)) pa_nil (by rfl)) (by rfl) (by rfl) (by rfl) (by rfl) (by rfl))) pe_str)))))))), ?_⟩
  obtain ⟨mk, a, r, us, ks, xs, ex, rfl, ha, hg, hk, hx, hin, rfl, rfl⟩ := hT
  have h3 := hg.few
  walk_at "rd"
  refine ⟨_, SqT.of ha, _, rfl, ?_⟩
  walk_at "rd"
  walk_at "sd"
  refine ite2 (fun c => ⟨_, SqT.of ha, _, rfl, ?_⟩) fun h1 => ite2 (fun c => ?_) fun h2 => ?_
  · subst c
    obtain ⟨i, rfl, hi, rfl, rfl⟩ := hg
    exact ⟨_, rfl, big_log hi, q H (.refl H)⟩
  · subst c
    exact q H (.refl H)
  · obtain ⟨n1, n2⟩ := hg.shn h1 h2 hx
    have htl := tx_len h1 h2 n1 n2
    refine tLC_listN (K := g.K) (xs := us) (xs.map V.str) (fun R rr => by walk_at "rd"; exact ⟨a, mk, r, us, ex, rfl, ha, hg, fun L H' s' hL => rr L H' s' (SqL.of hL)⟩) (by rw [List.length_map, hx]) (by omega) ?_ ?_
    · intro i v y H' hv hy sm' R rr
      rw [List.getElem?_map] at hy
      obtain ⟨x, hxi, rfl⟩ := Option.map_eq_some_iff.mp hy
      have hil := (List.getElem?_eq_some_iff.mp hxi).1
      have hki : ks[i]? = some (ks[i]'(by omega)) := List.getElem?_eq_getElem _
      have := len_mem (mem_shn (m := mk) (ex := ex) (List.mem_of_getElem? hxi))
      walk_at "rd"
      exact ⟨v, _, x, rfl, (hin i v _ x hv hki hxi).keep (.of sm'), by omega, fun H'' s'' => rr H'' s''⟩
    · intro D H1 hD s1 hd
      have e1 : (Str.ofString "(").length = 1 := by decide +kernel
      have e2 : (Str.ofString ")").length = 1 := by decide +kernel
      have e3 : (Str.ofString ",").length = 1 := by decide +kernel
      have big : 2000000 ≤ sizeLine := by decide
      have hml := ms_len mk
      have hjl := join_len (z := Str.ofString ",") n1 n2
      rw [e3] at hjl
      have tail : ∀ H2, Same H H2 → H2 D = some (.lst ((shn mk xs ex).map V.str)) → (ms mk).length + (Str.ofString "(").length ≤ sizeLine ∧ tyV g.K "str" (V.str (Str.ofString ",")) H2 ∧ rJoin g.K (V.str (Str.ofString ",")) [V.ref D] H2 fun y H2 => ∃ x, y = V.str x ∧ (ms mk ++ Str.ofString "(").length + x.length ≤ sizeLine ∧ (ms mk ++ Str.ofString "(" ++ x).length + (Str.ofString ")").length ≤ sizeLine ∧ Q (V.str (ms mk ++ Str.ofString "(" ++ x ++ Str.ofString ")")) H2 := by
        intro H2 s2 h2'
        refine ⟨by rw [e1]; omega, rfl, _, D, shn mk xs ex, rfl, rfl, SqL.of h2', by rw [e3]; omega, _, rfl, ?_, ?_, ?_⟩
        · rw [Str.length_append, e1]; omega
        · rw [Str.length_append, Str.length_append, e1, e2]; omega
        · rw [← tx_eq h1 h2]
          exact q H2 s2
      refine ite2 (fun c => ?_) fun c => ?_
      · subst c
        obtain ⟨p, v, i, rfl, hp, hi, rfl, rfl⟩ := hg
        refine ⟨.inl ⟨rfl, _, SqL.of hd⟩, _, SqT.of (s1 _ _ ha), _, rfl, p, rfl, _, SqT.of (s1 _ _ hp), _, rfl, _, rfl, small_log hi, D, rfl, _, hd, by rw [List.length_map, hx]; show 1 < sizeLine; decide, ?_⟩
        refine tail _ (.upd_over hD s1 _) (upd_same.trans ?_)
        simp only [shn, List.map_append, List.map_cons, List.map_nil]
      · refine tail H1 s1 (hd.trans ?_)
        rw [show shn mk xs ex = xs by cases mk <;> first | rfl | exact (c rfl).elim]
end KW
set_option maxHeartbeats 8000000
namespace KW
open PySem L2

variable {g : Gx}
variable {C : Addr}
local macro_rules | `(tactic| walk_at "sd") => `(tactic| simp (config := { failIfUnchanged := false, maxSteps := 10000000 }) only [l_num, l_here, l_count, l_sum, l_not, l_turned, l_plus, l_times, l_less, l_same, l_both, l_each, l_joined, l_part, l_when, ms_inj, in_cons, in_nil, Bool.or_false, Bool.false_or, Bool.or_self, Bool.true_or, Bool.or_true, reduceCtorEq, V.str.injEq, List.mem_cons, List.not_mem_nil, or_false, false_or, or_true, true_or, or_self, not_true_eq_false, not_false_eq_true, if_true, if_false, ite_true, ite_false, decide_true, decide_false, Bool.false_eq_true, and_true, true_and, and_false, false_and, false_implies, true_implies])

local macro_rules | `(tactic| walk_at "gn") => `(tactic| simp only [gName, List.set_cons_zero, List.set_cons_succ])

local macro_rules | `(tactic| walk_at "rd") => `(tactic| simp (config := { failIfUnchanged := false, maxSteps := 10000000 }) only [L2.start, cxOf_K, nox_K, List.map_cons, List.map_nil, List.length_cons, List.length_nil, List.cons_append, List.nil_append, List.replicate_succ, List.replicate_zero, Nat.zero_add, Nat.reduceAdd, Nat.reduceSub, Nat.sub_self, tSeq, tIfS, tTest, tOp, tC, tVar, rI0, rI, rU, tUn, tRet, tRetN, tDrop, tNext, tBreak, tCont, tAsg, gName, gNil, gCons, tCons, tNil, tCB, tCall, tTry, tTryAs, tRaise, sFld, tFld, tMake, tMeth, Ends.gone, caught_K, tB, tAnd, tOr, tNot, tAndV, tOrV, tNotV, tIf, tChain, tNoPart, tPart, tSl, tNever, tAug, rIxL, rIxT, rSlL, tLst, tTup, gTup, tRev, tLZ, tConT, tDict0, rBits, rFind, rIn, tBM, tBM0, rAppend, rReverse, rEq, rNe, scal_ii, scal_ss, rCat, rSetL, gSub, ipI, capSt, List.getD_cons_zero, List.getD_cons_succ, decide_true, not_true_eq_false, not_false_eq_true,
  exists_eq_left', exists_eq_left, exists_eq', exists_eq, exists_and_left, and_assoc, Option.some.injEq, V.int.injEq, V.bl.injEq, V.ref.injEq, V.str.injEq, List.getElem?_cons_zero, List.getElem?_cons_succ, List.set_cons_zero, List.set_cons_succ, List.cons.injEq, and_true, true_and, List.append_nil, decide_eq_true_eq, Bool.not_eq_true', decide_eq_false_iff_not, Bool.not_not, Bool.not_true, Bool.not_false, Bool.true_eq_false, Bool.false_eq_true, if_true, if_false, ite_true, ite_false])

theorem in4 (m a b c d : Mk) : inV (.str (ms m)) [.str (ms a), .str (ms b), .str (ms c), .str (ms d)] = decide (m = a ∨ m = b ∨ m = c ∨ m = d) := by
  rw [in_cons, in_cons, in_cons, in_cons, in_nil, Bool.or_false]
  by_cases h1 : m = a
  · simp [h1]
  by_cases h2 : m = b
  · simp [h2]
  by_cases h3 : m = c
  · simp [h3]
  by_cases h4 : m = d
  · simp [h4]
  have g1 : ¬ a = m := fun e => h1 e.symm
  have g2 : ¬ b = m := fun e => h2 e.symm
  have g3 : ¬ c = m := fun e => h3 e.symm
  have g4 : ¬ d = m := fun e => h4 e.symm
  simp [h1, h2, h3, h4, g1, g2, g3, g4]
theorem Arg.row {H : Hp} {m : Mk} {r : V} {vs : List V} {ex : Str} (h : Arg H m r vs ex) (h1 : m ≠ .num) (h2 : m ≠ .here) (h3 : m ≠ .part) (h4 : ¬ (m = .count ∨ m = .sum ∨ m = .not ∨ m = .turned)) : ∃ p : Addr, r = .ref p ∧ H p = some (.tup vs) := by
  cases m <;> simp only [Arg] at h <;> first
    | exact (h1 rfl).elim
    | exact (h2 rfl).elim
    | exact (h3 rfl).elim
    | (simp at h4; done)
    | (obtain ⟨p, _, _, _, h5, h6, rfl⟩ := h; exact ⟨p, h5, h6⟩)
    | (obtain ⟨p, _, _, h5, h6, rfl⟩ := h; exact ⟨p, h5, h6⟩)
theorem Arg.one {H : Hp} {m : Mk} {r : V} {vs : List V} {ex : Str} (h : Arg H m r vs ex) (h4 : m = .count ∨ m = .sum ∨ m = .not ∨ m = .turned) : vs = [r] := by
  rcases h4 with rfl | rfl | rfl | rfl <;> exact h
theorem shn_np {m : Mk} {xs : List Str} {ex : Str} (h : m ≠ .part) : shn m xs ex = xs := by cases m <;> first | rfl | exact (h rfl).elim
theorem part_text (x d : Str) : Str.ofString "part(" ++ x ++ Str.ofString "," ++ d ++ Str.ofString ")" = ms .part ++ Str.ofString "(" ++ Txt.join (Str.ofString ",") [x, d] ++ Str.ofString ")" := by
  have : ms .part ++ Str.ofString "(" = Str.ofString "part(" := by decide +kernel
  rw [this, join2]
  simp only [Str.append_assoc]
def sp_law_text (K : PySem.W.Frag) (m : Nat) : Sp := fun vs H Q _ => ∃ (v : V) (k : Option Bool) (x : Str), vs = [v] ∧ TmAt H m v k x ∧ x.length ≤ 1000000 ∧ ∀ H', Same H H' → Q (.str x) H'
theorem no_text {K : PySem.W.Frag} {vs : List V} {H : Hp} {Q : VK} {E : XK} (h : sp_law_text K 0 vs H Q E) : False := by
  obtain ⟨v, k, x, _, h, _⟩ := h
  exact h
theorem ok_law_text {k : Nat} {C_NoteReader : Addr} (R : g.Raw "_law_text" "_law_text" s_law_text ["_law_term_here"]) (F_law_text : g.Fn k "_law_text" ["_law_term_here"] (sp_law_text g.K m)) (b_str : g.mg "str" = none) : g.Fn (k + 1) "_law_text" ["_law_term_here"] (sp_law_text g.K (m + 1)) := by
  refine R.fn sc_law_text (fun vs H Q E h => by obtain ⟨v, k, x, rfl, hT, hxl, q⟩ := h; rfl) fun f_ cdv A outer s H vs Q E hr h => ?_
  obtain ⟨v, k, x, rfl, hT, hxl, q⟩ := h
  refine ⟨_, (@pss_cons _ _ _ _ _ (@ps_set _ _ (1) _ _ _ _ sc_law_text.nd rfl (Or.inl rfl) (@pe_ix _ _ _ _ _ _ _ ix_tup (@pv _ 0 _ _ (by rfl) (by first | exact Or.inl rfl | exact Or.inr (Or.inl rfl) | exact Or.inr (Or.inr rfl)) (by decide) (by decide)) pe_int (fun _ _ => rfl)) (by rfl) (by first | exact .inl rfl | exact .inr rfl | assumption)) (@pss_cons _ _ _ _ _ (@ps_if _ _ _ _ _ _ _ _ (@pt_cmpR _ _ _ _ _ _ _ _ op_eq (@pv _ 1 _ _ (by rfl) (by first | exact Or.inl rfl | exact Or.inr (Or.inl rfl) | exact Or.inr (Or.inr rfl)) (by decide) (by decide)) pe_str (nomark _)) (@pss_one _ _ _ (@ps_ret _ _ _ _ (@pv _ 1 _ _ (by rfl) (by first | exact Or.inl rfl | exact Or.inr (Or.inl rfl) | exact Or.inr (Or.inr rfl)) (by decide) (by decide)))) pss_nil) (@pss_cons _ _ _ _ _ (@ps_if _ _ _ _ _ _ _ _ (@pt_cmpR _ _ _ _ _ _ _ _ op_eq (@pv _ 1 _ _ (by rfl) (by first | exact Or.inl rfl | exact Or.inr (Or.inl rfl) | exact Or.inr (Or.inr rfl)) (by decide) (by decide)) pe_str (nomark _)) (@pss_one _ _ _ (@ps_ret _ _ _ _ (@pe_bt _ _ _ _ _ _ _ _ _ _ b_str call_str_int (@pa_cons _ _ _ _ _ (@pe_ix _ _ _ _ _ _ _ ix_tup (@pv _ 0 _ _ (by rfl) (by first | exact Or.inl rfl | exact Or.inr (Or.inl rfl) | exact Or.inr (Or.inr rfl)) (by decide) (by decide)) pe_int (fun _ _ => rfl)) pa_nil (by rfl)) (by decide +kernel) (by rfl) (by rfl) (by decide) (by decide) (by rfl) (by rfl)))) pss_nil) (@pss_cons _ _ _ _ _ (@ps_if _ _ _ _ _ _ _ _ (@pt_cmpR _ _ _ _ _ _ _ _ op_eq (@pv _ 1 _ _ (by rfl) (by first | exact Or.inl rfl | exact Or.inr (Or.inl rfl) | exact Or.inr (Or.inr rfl)) (by decide) (by decide)) pe_str (nomark _)) (@pss_one _ _ _ (@ps_ret _ _ _ _ (@pe_op _ _ _ _ _ _ _ _ op_add_str (@pe_op _ _ _ _ _ _ _ _ op_add_str (@pe_op _ _ _ _ _ _ _ _ op_add_str (@pe_op _ _ _ _ _ _ _ _ op_add_str pe_str (@pe_fn _ _ _ _ _ _ _ _ _ _ _ _ F_law_text hr (@pa_cons _ _ _ _ _ (@pe_ix _ _ _ _ _ _ _ ix_tup (@pe_ix _ _ _ _ _ _ _ ix_tup (@pv _ 0 _ _ (by rfl) (by first | exact Or.inl rfl | exact Or.inr (Or.inl rfl) | exact Or.inr (Or.inr rfl)) (by decide) (by decide)) pe_int (fun _ _ => rfl)) pe_int (fun _ _ => rfl)) pa_nil (by rfl)) (by omega) (by rfl) (by rfl) (by decide) (by rfl) (by rfl))) pe_str) (@pe_bt _ _ _ _ _ _ _ _ _ _ b_str call_str_int (@pa_cons _ _ _ _ _ (@pe_ix _ _ _ _ _ _ _ ix_tup (@pe_ix _ _ _ _ _ _ _ ix_tup (@pv _ 0 _ _ (by rfl) (by first | exact Or.inl rfl | exact Or.inr (Or.inl rfl) | exact Or.inr (Or.inr rfl)) (by decide) (by decide)) pe_int (fun _ _ => rfl)) pe_int (fun _ _ => rfl)) pa_nil (by rfl)) (by decide +kernel) (by rfl) (by rfl) (by decide) (by decide) (by rfl) (by rfl))) pe_str))) pss_nil) (@pss_cons _ _ _ _ _ (@ps_if _ _ _ _ _ _ _ _ (@pt_cmpR _ _ _ _ _ _ _ _ op_in_seq (@pv _ 1 _ _ (by rfl) (by first | exact Or.inl rfl | exact Or.inr (Or.inl rfl) | exact Or.inr (Or.inr rfl)) (by decide) (by decide)) (@pe_tup _ _ _ _ _ (@pa_cons _ _ _ _ _ pe_str (@pa_cons _ _ _ _ _ pe_str (@pa_cons _ _ _ _ _ pe_str (@pa_cons _ _ _ _ _ pe_str pa_nil (by rfl)) (by rfl)) (by rfl)) (by rfl))) rfl) (@pss_one _ _ _ (@ps_ret _ _ _ _ (@pe_op _ _ _ _ _ _ _ _ op_add_str (@pe_op _ _ _ _ _ _ _ _ op_add_str (@pe_op _ _ _ _ _ _ _ _ op_add_str (@pv _ 1 _ _ (by rfl) (by first | exact Or.inl rfl | exact Or.inr (Or.inl rfl) | exact Or.inr (Or.inr rfl)) (by decide) (by decide)) pe_str) (@pe_fn _ _ _ _ _ _ _ _ _ _ _ _ F_law_text hr (@pa_cons _ _ _ _ _ (@pe_ix _ _ _ _ _ _ _ ix_tup (@pv _ 0 _ _ (by rfl) (by first | exact Or.inl rfl | exact Or.inr (Or.inl rfl) | exact Or.inr (Or.inr rfl)) (by decide) (by decide)) pe_int (fun _ _ => rfl)) pa_nil (by rfl)) (by omega) (by rfl) (by rfl) (by decide) (by rfl) (by rfl))) pe_str))) pss_nil) (@pss_one _ _ _ (@ps_ret _ _ _ _ (@pe_op _ _ _ _ _ _ _ _ op_add_str (@pe_op _ _ _ _ _ _ _ _ op_add_str (@pe_op _ _ _ _ _ _ _ _ op_add_str (@pv _ 1 _ _ (by rfl) (by first | exact Or.inl rfl | exact Or.inr (Or.inl rfl) | exact Or.inr (Or.inr rfl)) (by decide) (by decide)) pe_str) (@pe_bm _ _ _ _ _ _ _ _ _ _ _ _ PySem.F.plainAttrs_str PySem.F.slot_str_join PySem.F.type_str_join mt_join pe_str (@pa_cons _ _ _ _ _ (@pe_lc _ _ _ _ _ _ _ ([none]) ((["_law_inner"] : List Str)) _ (gName 0) _ _ (.own .nil) rfl (@pi_tup _ _ _ _ (@pe_ix _ _ _ _ _ _ _ ix_tup (@pv _ 0 _ _ (by rfl) (by first | exact Or.inl rfl | exact Or.inr (Or.inl rfl) | exact Or.inr (Or.inr rfl)) (by decide) (by decide)) pe_int (fun _ _ => rfl))) (fun cl C s₀ H₀ fp pn => (@pg_name _ _ (0) _ (show List.Nodup (["_law_inner"] : List Str) by decide +kernel) rfl (Or.inl rfl) (Or.inr rfl))) (fun cl C s₀ H₀ fp pn => pts_nil) (fun cl C s₀ H₀ fp pn => (@pe_fn _ _ _ _ _ _ _ _ _ _ _ _ F_law_text hr (@pa_cons _ _ _ _ _ (@pv _ 0 _ _ (by rfl) (by first | exact Or.inl rfl | exact Or.inr (Or.inl rfl) | exact Or.inr (Or.inr rfl)) (by decide) (by decide)) pa_nil (by rfl)) (by omega) (by rfl) (by rfl) (by decide) (by rfl) (by rfl))) (by intro x hx; simp at hx) (by rfl) (by decide) (by decide +kernel) (by intro _; rfl)) pa_nil (by rfl)) (by rfl) (by rfl) (by rfl) (by rfl) (by rfl))) pe_str)))))))), ?_⟩
  obtain ⟨mk, a, r, us, ks, xs, ex, rfl, ha, hg, hk, hx, hin, rfl, rfl⟩ := hT
  have h3 := hg.few
  have e1 : (Str.ofString "(").length = 1 := by decide +kernel
  have e2 : (Str.ofString ")").length = 1 := by decide +kernel
  have e3 : (Str.ofString ",").length = 1 := by decide +kernel
  have big : 2000000 ≤ sizeLine := by decide
  have hml := ms_len mk
  walk_at "rd"
  refine ⟨_, SqT.of ha, _, rfl, ?_⟩
  walk_at "rd"
  walk_at "sd"
  refine ite2 (fun c => ?_) fun h2 => ite2 (fun c => ⟨_, SqT.of ha, _, rfl, ?_⟩) fun h1 => ?_
  · subst c
    exact q H (.refl H)
  · subst c
    obtain ⟨i, rfl, hi, rfl, rfl⟩ := hg
    exact ⟨_, rfl, big_log hi, q H (.refl H)⟩
  obtain ⟨n1, n2⟩ := hg.shn h1 h2 hx
  have htl := tx_len h1 h2 n1 n2
  have hjl := join_len (z := Str.ofString ",") n1 n2
  rw [e3] at hjl
  refine ite2 (fun c => ?_) fun h5 => ⟨few (by decide), fun p hp => ⟨_, .inr (SqT.of upd_same), rfl, rfl, ?_⟩⟩
  · subst c
    obtain ⟨p, v, i, rfl, hp, hi, rfl, rfl⟩ := hg
    obtain ⟨x, rfl⟩ : ∃ x, xs = [x] := by
      match xs, hx with
      | [x], _ => exact ⟨x, rfl⟩
    obtain ⟨k, rfl⟩ : ∃ k, ks = [k] := by
      match ks, hk with
      | [k], _ => exact ⟨k, rfl⟩
    simp only [shn, List.cons_append, List.nil_append, List.map_cons, List.map_nil, List.sum_cons, List.sum_nil, List.length_cons, List.length_nil] at htl
    have e5 : (Str.ofString "part(").length = 5 := by decide +kernel
    have hin0 := hin 0 v k x rfl rfl rfl
    refine ⟨_, SqT.of ha, _, rfl, p, rfl, _, SqT.of hp, _, rfl, v, k, x, rfl, hin0, by omega, fun H1 s1 => ⟨_, rfl, by rw [e5]; omega, by rw [Str.length_append, e5, e3]; omega, _, SqT.of (s1 _ _ ha), _, rfl, p, rfl, _, SqT.of (s1 _ _ hp), _, rfl, _, rfl, small_log hi, ?_, ?_, ?_⟩⟩
    · rw [Str.length_append, Str.length_append, e5, e3]; omega
    · rw [Str.length_append, Str.length_append, Str.length_append, e5, e3, e2]; omega
    · rw [part_text]
      exact q H1 s1
  · have s0 := Same.upd_new hp (HO.tup [V.str (ms Mk.count), V.str (ms Mk.sum), V.str (ms Mk.not), V.str (ms Mk.turned)])
    have hte := tx_eq (xs := xs) (ex := ex) h1 h2
    rw [shn_np h5] at htl hte hjl
    rw [in4]
    refine ite2 (fun c => ?_) fun c => ?_
    · obtain rfl := hg.one (of_decide_eq_true c)
      obtain ⟨x, rfl⟩ : ∃ x, xs = [x] := by
        match xs, hx with
        | [x], _ => exact ⟨x, rfl⟩
      obtain ⟨k, rfl⟩ : ∃ k, ks = [k] := by
        match ks, hk with
        | [k], _ => exact ⟨k, rfl⟩
      simp only [List.map_cons, List.map_nil, List.sum_cons, List.sum_nil, List.length_cons, List.length_nil] at htl
      have hin0 := hin 0 r k x rfl rfl rfl
      rw [join1] at hte
      refine ⟨by rw [e1]; omega, _, SqT.of (s0 _ _ ha), _, rfl, r, k, x, rfl, hin0.keep (.of s0), by omega, fun H1 s1 => ⟨_, rfl, ?_, ?_, ?_⟩⟩
      · rw [Str.length_append, e1]; omega
      · rw [Str.length_append, Str.length_append, e1, e2]; omega
      · rw [← hte]
        exact q H1 (s0.trans s1)
    · obtain ⟨b, rfl, hb⟩ := hg.row h1 h2 h5 (by simpa using c)
      refine ⟨by rw [e1]; omega, rfl, ?_⟩
      refine tLC_tupN (K := g.K) (xs := us) (xs.map V.str) (fun R rr => by walk_at "rd"; exact ⟨_, SqT.of (s0 _ _ ha), _, rfl, rr b _ (.refl _) (SqT.of (s0 _ _ hb))⟩) (by rw [List.length_map, hx]) (by omega) ?_ ?_
      · intro i v y H' hv hy sm' R rr
        rw [List.getElem?_map] at hy
        obtain ⟨x, hxi, rfl⟩ := Option.map_eq_some_iff.mp hy
        have hil := (List.getElem?_eq_some_iff.mp hxi).1
        have hki : ks[i]? = some (ks[i]'(by omega)) := List.getElem?_eq_getElem _
        have := len_mem (List.mem_of_getElem? hxi)
        walk_at "rd"
        exact ⟨v, _, x, rfl, (hin i v _ x hv hki hxi).keep (.of (s0.trans sm')), by omega, fun H'' s'' => rr H'' s''⟩
      · intro D H1 hD s1 hd
        refine ⟨_, D, xs, rfl, rfl, SqL.of hd, by rw [e3]; omega, _, rfl, ?_, ?_, ?_⟩
        · rw [Str.length_append, e1]; omega
        · rw [Str.length_append, Str.length_append, e1, e2]; omega
        · rw [← hte]
          exact q H1 (s0.trans s1)
end KW
set_option maxHeartbeats 8000000
namespace KW
open PySem L2

variable {g : Gx}
variable {C : Addr}
local macro_rules | `(tactic| walk_at "sd") => `(tactic| simp (config := { failIfUnchanged := false, maxSteps := 10000000 }) only [l_num, l_here, l_count, l_sum, l_not, l_turned, l_plus, l_times, l_less, l_same, l_both, l_each, l_joined, l_part, l_when, ms_inj, in_cons, in_nil, Bool.or_false, Bool.false_or, Bool.or_self, Bool.true_or, Bool.or_true, reduceCtorEq, V.str.injEq, List.mem_cons, List.not_mem_nil, or_false, false_or, or_true, true_or, or_self, not_true_eq_false, not_false_eq_true, if_true, if_false, ite_true, ite_false, decide_true, decide_false, Bool.false_eq_true, and_true, true_and, and_false, false_and, false_implies, true_implies])

local macro_rules | `(tactic| walk_at "gn") => `(tactic| simp only [gName, List.set_cons_zero, List.set_cons_succ])

local macro_rules | `(tactic| walk_at "rd") => `(tactic| simp (config := { failIfUnchanged := false, maxSteps := 10000000 }) only [L2.start, cxOf_K, nox_K, List.map_cons, List.map_nil, List.length_cons, List.length_nil, List.cons_append, List.nil_append, List.replicate_succ, List.replicate_zero, Nat.zero_add, Nat.reduceAdd, Nat.reduceSub, Nat.sub_self, tSeq, tIfS, tTest, tOp, tC, tVar, rI0, rI, rU, tUn, tRet, tRetN, tDrop, tNext, tBreak, tCont, tAsg, gName, gNil, gCons, tCons, tNil, tCB, tCall, tTry, tTryAs, tRaise, sFld, tFld, tMake, tMeth, Ends.gone, caught_K, tB, tAnd, tOr, tNot, tAndV, tOrV, tNotV, tIf, tChain, tNoPart, tPart, tSl, tNever, tAug, rIxL, rIxT, rSlL, tLst, tTup, gTup, tRev, tLZ, tConT, tDict0, rBits, rFind, rIn, tBM, tBM0, rAppend, rReverse, rEq, rNe, scal_ii, scal_ss, rCat, rSetL, gSub, ipI, capSt, List.getD_cons_zero, List.getD_cons_succ, decide_true, not_true_eq_false, not_false_eq_true,
  exists_eq_left', exists_eq_left, exists_eq', exists_eq, exists_and_left, and_assoc, Option.some.injEq, V.int.injEq, V.bl.injEq, V.ref.injEq, V.str.injEq, List.getElem?_cons_zero, List.getElem?_cons_succ, List.set_cons_zero, List.set_cons_succ, List.cons.injEq, and_true, true_and, List.append_nil, decide_eq_true_eq, Bool.not_eq_true', decide_eq_false_iff_not, Bool.not_not, Bool.not_true, Bool.not_false, Bool.true_eq_false, Bool.false_eq_true, if_true, if_false, ite_true, ite_false])
end KW
set_option maxHeartbeats 8000000
namespace KW
open PySem L2

variable {g : Gx}
variable {C : Addr}
local macro_rules | `(tactic| walk_at "sd") => `(tactic| simp (config := { failIfUnchanged := false, maxSteps := 10000000 }) only [l_num, l_here, l_count, l_sum, l_not, l_turned, l_plus, l_times, l_less, l_same, l_both, l_each, l_joined, l_part, l_when, ms_inj, in_cons, in_nil, Bool.or_false, Bool.false_or, Bool.or_self, Bool.true_or, Bool.or_true, reduceCtorEq, V.str.injEq, List.mem_cons, List.not_mem_nil, or_false, false_or, or_true, true_or, or_self, not_true_eq_false, not_false_eq_true, if_true, if_false, ite_true, ite_false, decide_true, decide_false, Bool.false_eq_true, and_true, true_and, and_false, false_and, false_implies, true_implies])

local macro_rules | `(tactic| walk_at "gn") => `(tactic| simp only [gName, List.set_cons_zero, List.set_cons_succ])

local macro_rules | `(tactic| walk_at "rd") => `(tactic| simp (config := { failIfUnchanged := false, maxSteps := 10000000 }) only [L2.start, cxOf_K, nox_K, List.map_cons, List.map_nil, List.length_cons, List.length_nil, List.cons_append, List.nil_append, List.replicate_succ, List.replicate_zero, Nat.zero_add, Nat.reduceAdd, Nat.reduceSub, Nat.sub_self, tSeq, tIfS, tTest, tOp, tC, tVar, rI0, rI, rU, tUn, tRet, tRetN, tDrop, tNext, tBreak, tCont, tAsg, gName, gNil, gCons, tCons, tNil, tCB, tCall, tTry, tTryAs, tRaise, sFld, tFld, tMake, tMeth, Ends.gone, caught_K, tB, tAnd, tOr, tNot, tAndV, tOrV, tNotV, tIf, tChain, tNoPart, tPart, tSl, tNever, tAug, rIxL, rIxT, rSlL, tLst, tTup, gTup, tRev, tLZ, tConT, tDict0, rBits, rFind, rIn, tBM, tBM0, rAppend, rReverse, rEq, rNe, scal_ii, scal_ss, rCat, rSetL, gSub, ipI, capSt, List.getD_cons_zero, List.getD_cons_succ, decide_true, not_true_eq_false, not_false_eq_true,
  exists_eq_left', exists_eq_left, exists_eq', exists_eq, exists_and_left, and_assoc, Option.some.injEq, V.int.injEq, V.bl.injEq, V.ref.injEq, V.str.injEq, List.getElem?_cons_zero, List.getElem?_cons_succ, List.set_cons_zero, List.set_cons_succ, List.cons.injEq, and_true, true_and, List.append_nil, decide_eq_true_eq, Bool.not_eq_true', decide_eq_false_iff_not, Bool.not_not, Bool.not_true, Bool.not_false, Bool.true_eq_false, Bool.false_eq_true, if_true, if_false, ite_true, ite_false])

theorem tm_num {H : Hp} {a : Addr} {i : Int} {n : Nat} (h : H a = some (.tup [.str (ms .num), .int i])) (hi : i.natAbs < 10 ^ 60) : TmAt H (n + 1) (.ref a) (some false) (Str.ofString (toString i)) :=
  ⟨.num, a, _, [], [], [], Str.ofString (toString (i : Int)), rfl, h, ⟨i, rfl, hi, rfl, rfl⟩, rfl, rfl, fun i v k x hv => by simp at hv, rfl, rfl⟩
theorem tm_here {H : Hp} {a : Addr} {r : V} {n : Nat} (h : H a = some (.tup [.str (ms .here), r])) : TmAt H (n + 1) (.ref a) (some false) (ms .here) :=
  ⟨.here, a, _, [], [], [], ms .here, rfl, h, rfl, rfl, rfl, fun i v k x hv => by simp at hv, rfl, rfl⟩
theorem tm_one {H : Hp} {m : Mk} {a : Addr} {v : V} {k : Option Bool} {x : Str} {n : Nat} (h4 : m = .count ∨ m = .sum ∨ m = .not ∨ m = .turned) (h : H a = some (.tup [.str (ms m), v])) (ht : TmAt H n v k x) : TmAt H (n + 1) (.ref a) (kb m [k]) (tx m [x] x) :=
  ⟨m, a, v, [v], [k], [x], x, rfl, h, by rcases h4 with rfl | rfl | rfl | rfl <;> rfl, rfl, rfl, fun i v' k' x' h1 h2 h3 => by
    match i with
    | 0 =>
      cases h1; cases h2; cases h3
      exact ht
    | i + 1 => simp at h1, rfl, rfl⟩
theorem tm_part {H : Hp} {a p : Addr} {v : V} {k : Option Bool} {x : Str} {n i : Nat} (h : H a = some (.tup [.str (ms .part), .ref p])) (hp : H p = some (.tup [v, .int (i : Nat)])) (hi : i < 10 ^ 15) (ht : TmAt H n v k x) : TmAt H (n + 1) (.ref a) none (tx .part [x] (Str.ofString (toString (i : Int)))) :=
  ⟨.part, a, _, [v], [k], [x], _, rfl, h, ⟨p, v, i, rfl, hp, hi, rfl, rfl⟩, rfl, rfl, fun i v' k' x' h1 h2 h3 => by
    match i with
    | 0 =>
      cases h1; cases h2; cases h3
      exact ht
    | i + 1 => simp at h1, rfl, rfl⟩
theorem tm_two {H : Hp} {m : Mk} {a p : Addr} {v1 v2 : V} {k1 k2 : Option Bool} {x1 x2 : Str} {n : Nat} (hm : m = .plus ∨ m = .times ∨ m = .less ∨ m = .same ∨ m = .both ∨ m = .each ∨ m = .joined) (h : H a = some (.tup [.str (ms m), .ref p])) (hp : H p = some (.tup [v1, v2])) (t1 : TmAt H n v1 k1 x1) (t2 : TmAt H n v2 k2 x2) : TmAt H (n + 1) (.ref a) (kb m [k1, k2]) (tx m [x1, x2] x1) :=
  ⟨m, a, _, [v1, v2], [k1, k2], [x1, x2], x1, rfl, h, by rcases hm with rfl | rfl | rfl | rfl | rfl | rfl | rfl <;> exact ⟨p, v1, v2, rfl, hp, rfl⟩, rfl, rfl, fun i v' k' x' h1 h2 h3 => by
    match i with
    | 0 =>
      cases h1; cases h2; cases h3
      exact t1
    | 1 =>
      cases h1; cases h2; cases h3
      exact t2
    | i + 2 => simp at h1, rfl, rfl⟩
theorem tm_when {H : Hp} {a p : Addr} {v1 v2 v3 : V} {k1 k2 k3 : Option Bool} {x1 x2 x3 : Str} {n : Nat} (h : H a = some (.tup [.str (ms .when), .ref p])) (hp : H p = some (.tup [v1, v2, v3])) (t1 : TmAt H n v1 k1 x1) (t2 : TmAt H n v2 k2 x2) (t3 : TmAt H n v3 k3 x3) : TmAt H (n + 1) (.ref a) (kb .when [k1, k2, k3]) (tx .when [x1, x2, x3] x1) :=
  ⟨.when, a, _, [v1, v2, v3], [k1, k2, k3], [x1, x2, x3], x1, rfl, h, ⟨p, v1, v2, v3, rfl, hp, rfl⟩, rfl, rfl, fun i v' k' x' h1 h2 h3 => by
    match i with
    | 0 =>
      cases h1; cases h2; cases h3
      exact t1
    | 1 =>
      cases h1; cases h2; cases h3
      exact t2
    | 2 =>
      cases h1; cases h2; cases h3
      exact t3
    | i + 3 => simp at h1, rfl, rfl⟩
end KW
set_option maxHeartbeats 8000000
namespace KW
open PySem L2

variable {g : Gx}
variable {C : Addr}
local macro_rules | `(tactic| walk_at "sd") => `(tactic| simp (config := { failIfUnchanged := false, maxSteps := 10000000 }) only [l_num, l_here, l_count, l_sum, l_not, l_turned, l_plus, l_times, l_less, l_same, l_both, l_each, l_joined, l_part, l_when, ms_inj, in_cons, in_nil, Bool.or_false, Bool.false_or, Bool.or_self, Bool.true_or, Bool.or_true, reduceCtorEq, V.str.injEq, List.mem_cons, List.not_mem_nil, or_false, false_or, or_true, true_or, or_self, not_true_eq_false, not_false_eq_true, if_true, if_false, ite_true, ite_false, decide_true, decide_false, Bool.false_eq_true, and_true, true_and, and_false, false_and, false_implies, true_implies])

local macro_rules | `(tactic| walk_at "gn") => `(tactic| simp only [gName, List.set_cons_zero, List.set_cons_succ])

local macro_rules | `(tactic| walk_at "rd") => `(tactic| simp (config := { failIfUnchanged := false, maxSteps := 10000000 }) only [L2.start, cxOf_K, nox_K, List.map_cons, List.map_nil, List.length_cons, List.length_nil, List.cons_append, List.nil_append, List.replicate_succ, List.replicate_zero, Nat.zero_add, Nat.reduceAdd, Nat.reduceSub, Nat.sub_self, tSeq, tIfS, tTest, tOp, tC, tVar, rI0, rI, rU, tUn, tRet, tRetN, tDrop, tNext, tBreak, tCont, tAsg, gName, gNil, gCons, tCons, tNil, tCB, tCall, tTry, tTryAs, tRaise, sFld, tFld, tMake, tMeth, Ends.gone, caught_K, tB, tAnd, tOr, tNot, tAndV, tOrV, tNotV, tIf, tChain, tNoPart, tPart, tSl, tNever, tAug, rIxL, rIxT, rSlL, tLst, tTup, gTup, tRev, tLZ, tConT, tDict0, rBits, rFind, rIn, tBM, tBM0, rAppend, rReverse, rEq, rNe, scal_ii, scal_ss, rCat, rSetL, gSub, ipI, capSt, List.getD_cons_zero, List.getD_cons_succ, decide_true, not_true_eq_false, not_false_eq_true,
  exists_eq_left', exists_eq_left, exists_eq', exists_eq, exists_and_left, and_assoc, Option.some.injEq, V.int.injEq, V.bl.injEq, V.ref.injEq, V.str.injEq, List.getElem?_cons_zero, List.getElem?_cons_succ, List.set_cons_zero, List.set_cons_succ, List.cons.injEq, and_true, true_and, List.append_nil, decide_eq_true_eq, Bool.not_eq_true', decide_eq_false_iff_not, Bool.not_not, Bool.not_true, Bool.not_false, Bool.true_eq_false, Bool.false_eq_true, if_true, if_false, ite_true, ite_false])

/-- a value and its data, lists too -/
def Vn (H : Hp) : Nat → V → PyData → Prop
  | 0, _, _ => False
  | _ + 1, v, .none => v = .non
  | _ + 1, v, .bool b => v = .bl b
  | _ + 1, v, .int i => v = .int i
  | _ + 1, v, .str x => v = .str x
  | n + 1, v, .tuple ds => ∃ (a : Addr) (vs : List V), v = .ref a ∧ H a = some (.tup vs) ∧ vs.length = ds.length ∧ ds.length ≤ 100 ∧ ∀ (i : Nat) v d, vs[i]? = some v → ds[i]? = some d → Vn H n v d
  | n + 1, v, .list ds => ∃ (a : Addr) (vs : List V), v = .ref a ∧ H a = some (.lst vs) ∧ vs.length = ds.length ∧ ds.length ≤ 100 ∧ ∀ (i : Nat) v d, vs[i]? = some v → ds[i]? = some d → Vn H n v d
  | _ + 1, _, _ => False
theorem Vn.keep {H H' : Hp} (t : Same H H') : ∀ {n : Nat} {v : V} {d : PyData}, Vn H n v d → Vn H' n v d
  | 0, _, _, h => h
  | n + 1, v, d, h => by
    cases d <;> simp only [Vn] at h ⊢ <;> first | exact h | skip
    all_goals
      obtain ⟨a, vs, h1, h2, h3, h4, h5⟩ := h
      exact ⟨a, vs, h1, t _ _ h2, h3, h4, fun i v d a b => (h5 i v d a b).keep t⟩
theorem Vn.up {H : Hp} : ∀ {n n' : Nat} {v : V} {d : PyData}, Vn H n v d → n ≤ n' → Vn H n' v d
  | n + 1, 0, _, _, _, hn => by omega
  | n + 1, n' + 1, v, d, h, hn => by
    cases d <;> simp only [Vn] at h ⊢ <;> first | exact h | skip
    all_goals
      obtain ⟨a, vs, h1, h2, h3, h4, h5⟩ := h
      exact ⟨a, vs, h1, h2, h3, h4, fun i v d a b => (h5 i v d a b).up (by omega)⟩
def sp_law_same (K : PySem.W.Frag) (m : Nat) : Sp := fun vs H Q _ => ∃ (v w : V) (d : PyData), vs = [v, w] ∧ Vn H m v d ∧ Vn H m w d ∧ ∀ H', Same H H' → Q (.bl true) H'
theorem no_same {K : PySem.W.Frag} {vs : List V} {H : Hp} {Q : VK} {E : XK} (h : sp_law_same K 0 vs H Q E) : False := by
  obtain ⟨v, w, d, _, h, _⟩ := h
  exact h
theorem ok_law_same {k : Nat} {C_NoteReader : Addr} (R : g.Raw "_law_same" "_law_same" s_law_same ["_law_found", "_law_due"]) (F_law_same : g.Fn k "_law_same" ["_law_found", "_law_due"] (sp_law_same g.K m)) (b_all : g.mg "all" = none) (b_bool : g.mg "bool" = none) (b_int : g.mg "int" = none) (b_isinstance : g.mg "isinstance" = none) (b_len : g.mg "len" = none) (b_list : g.mg "list" = none) (b_str : g.mg "str" = none) (b_tuple : g.mg "tuple" = none) (b_zip : g.mg "zip" = none) : g.Fn (k + 1) "_law_same" ["_law_found", "_law_due"] (sp_law_same g.K (m + 1)) := by
  refine R.fn sc_law_same (fun vs H Q E h => by obtain ⟨v, w, d, rfl, hv, hw, q⟩ := h; rfl) fun f_ cdv A outer s H vs Q E hr h => ?_
  obtain ⟨v, w, d, rfl, hv, hw, q⟩ := h
  refine ⟨_, (@pss_cons _ _ _ _ _ (@ps_if _ _ _ _ _ _ _ _ (@pt_cmpR _ _ _ _ _ _ _ _ op_isN (@pv _ 1 _ _ (by rfl) (by first | exact Or.inl rfl | exact Or.inr (Or.inl rfl) | exact Or.inr (Or.inr rfl)) (by decide) (by decide)) pe_non (nomark _)) (@pss_one _ _ _ (@ps_ret _ _ _ _ (@pe_cmpR _ _ _ _ _ _ _ _ op_isN (@pv _ 0 _ _ (by rfl) (by first | exact Or.inl rfl | exact Or.inr (Or.inl rfl) | exact Or.inr (Or.inr rfl)) (by decide) (by decide)) pe_non (nomark _)))) pss_nil) (@pss_cons _ _ _ _ _ (@ps_if _ _ _ _ _ _ _ _ (@pt_val _ _ _ (@pe_bf _ _ _ _ _ _ _ _ _ _ b_isinstance call_isinstT (@pa_cons _ _ _ _ _ (@pv _ 1 _ _ (by rfl) (by first | exact Or.inl rfl | exact Or.inr (Or.inl rfl) | exact Or.inr (Or.inr rfl)) (by decide) (by decide)) (@pa_cons _ _ _ _ _ (@pe_tup _ _ _ _ _ (@pa_cons _ _ _ _ _ (@pe_bn _ _ _ _ ("list") b_list (by decide +kernel) (by rfl) (by rfl) (by decide) (by decide)) (@pa_cons _ _ _ _ _ (@pe_bn _ _ _ _ ("tuple") b_tuple (by decide +kernel) (by rfl) (by rfl) (by decide) (by decide)) pa_nil (by rfl)) (by rfl))) pa_nil (star_tup _ _ _ _ _)) (by rfl)) (by decide +kernel) (by rfl) (by rfl) (by decide) (by decide) (by rfl) (by rfl)) (by intro _; rfl)) (@pss_cons _ _ _ _ _ (@ps_if _ _ _ _ _ _ _ _ (@pw_or _ _ _ _ _ _ _ (@pt_not _ _ _ _ (@pt_val _ _ _ (@pe_bf _ _ _ _ _ _ _ _ _ _ b_isinstance call_isinstT (@pa_cons _ _ _ _ _ (@pv _ 0 _ _ (by rfl) (by first | exact Or.inl rfl | exact Or.inr (Or.inl rfl) | exact Or.inr (Or.inr rfl)) (by decide) (by decide)) (@pa_cons _ _ _ _ _ (@pe_tup _ _ _ _ _ (@pa_cons _ _ _ _ _ (@pe_bn _ _ _ _ ("list") b_list (by decide +kernel) (by rfl) (by rfl) (by decide) (by decide)) (@pa_cons _ _ _ _ _ (@pe_bn _ _ _ _ ("tuple") b_tuple (by decide +kernel) (by rfl) (by rfl) (by decide) (by decide)) pa_nil (by rfl)) (by rfl))) pa_nil (star_tup _ _ _ _ _)) (by rfl)) (by decide +kernel) (by rfl) (by rfl) (by decide) (by decide) (by rfl) (by rfl)) (by intro _; rfl))) (@pw_or1 _ _ _ _ (@pt_cmpR _ _ _ _ _ _ _ _ op_ne (@pe_bf _ _ _ _ _ _ _ _ _ _ b_isinstance call_isinst (@pa_cons _ _ _ _ _ (@pv _ 1 _ _ (by rfl) (by first | exact Or.inl rfl | exact Or.inr (Or.inl rfl) | exact Or.inr (Or.inr rfl)) (by decide) (by decide)) (@pa_cons _ _ _ _ _ (@pe_bn _ _ _ _ ("list") b_list (by decide +kernel) (by rfl) (by rfl) (by decide) (by decide)) pa_nil (by rfl)) (by rfl)) (by decide +kernel) (by rfl) (by rfl) (by decide) (by decide) (by rfl) (by rfl)) (@pe_bf _ _ _ _ _ _ _ _ _ _ b_isinstance call_isinst (@pa_cons _ _ _ _ _ (@pv _ 0 _ _ (by rfl) (by first | exact Or.inl rfl | exact Or.inr (Or.inl rfl) | exact Or.inr (Or.inr rfl)) (by decide) (by decide)) (@pa_cons _ _ _ _ _ (@pe_bn _ _ _ _ ("list") b_list (by decide +kernel) (by rfl) (by rfl) (by decide) (by decide)) pa_nil (by rfl)) (by rfl)) (by decide +kernel) (by rfl) (by rfl) (by decide) (by decide) (by rfl) (by rfl)) (nomark _)))).pt (@pss_one _ _ _ (@ps_ret _ _ _ _ pe_bl)) pss_nil) (@pss_one _ _ _ (@ps_ret _ _ _ _ (@pe_and _ _ _ _ _ _ _ (@pe_cmpR _ _ _ _ _ _ _ _ op_eq (@pe_bf _ _ _ _ _ _ _ _ _ _ b_len call_len_seq (@pa_cons _ _ _ _ _ (@pv _ 0 _ _ (by rfl) (by first | exact Or.inl rfl | exact Or.inr (Or.inl rfl) | exact Or.inr (Or.inr rfl)) (by decide) (by decide)) pa_nil (by rfl)) (by decide +kernel) (by rfl) (by rfl) (by decide) (by decide) (by rfl) (by rfl)) (@pe_bf _ _ _ _ _ _ _ _ _ _ b_len call_len_seq (@pa_cons _ _ _ _ _ (@pv _ 1 _ _ (by rfl) (by first | exact Or.inl rfl | exact Or.inr (Or.inl rfl) | exact Or.inr (Or.inr rfl)) (by decide) (by decide)) pa_nil (by rfl)) (by decide +kernel) (by rfl) (by rfl) (by decide) (by decide) (by rfl) (by rfl)) (nomark _)) (@pe_one _ _ _ _ _ (@pe_bf _ _ _ _ _ _ _ _ _ _ b_all (call_all_bools rfl) (@pa_cons _ _ _ _ _ (@pe_lc _ _ _ _ _ _ _ ([none, none]) ((["_law_one", "_law_other"] : List Str)) _ (gTup g.K 2 (gCons (gName 0) (gCons (gName 1) gNil))) _ _ (.own (.own .nil)) rfl (@pi_or _ _ _ _ _ (@pi_zipL _ _ _ _ _ _ _ _ _ rfl b_zip (@pa_cons _ _ _ _ _ (@pv _ 0 _ _ (by rfl) (by first | exact Or.inl rfl | exact Or.inr (Or.inl rfl) | exact Or.inr (Or.inr rfl)) (by decide) (by decide)) (@pa_cons _ _ _ _ _ (@pv _ 1 _ _ (by rfl) (by first | exact Or.inl rfl | exact Or.inr (Or.inl rfl) | exact Or.inr (Or.inr rfl)) (by decide) (by decide)) pa_nil (by rfl)) (by rfl)) (by rfl) (by rfl)) (@pi_zipT _ _ _ _ _ _ _ _ _ rfl b_zip (@pa_cons _ _ _ _ _ (@pv _ 0 _ _ (by rfl) (by first | exact Or.inl rfl | exact Or.inr (Or.inl rfl) | exact Or.inr (Or.inr rfl)) (by decide) (by decide)) (@pa_cons _ _ _ _ _ (@pv _ 1 _ _ (by rfl) (by first | exact Or.inl rfl | exact Or.inr (Or.inl rfl) | exact Or.inr (Or.inr rfl)) (by decide) (by decide)) pa_nil (by rfl)) (by rfl)) (by rfl) (by rfl))) (fun cl C s₀ H₀ fp pn => (@pg_tup _ _ _ _ _ (2) rfl (@pgs_cons _ _ _ _ _ (@pg_name _ _ (0) _ (show List.Nodup (["_law_one", "_law_other"] : List Str) by decide +kernel) rfl (Or.inl rfl) (Or.inr rfl)) (@pgs_cons _ _ _ _ _ (@pg_name _ _ (1) _ (show List.Nodup (["_law_one", "_law_other"] : List Str) by decide +kernel) rfl (Or.inl rfl) (Or.inr rfl)) pgs_nil (by rfl)) (by rfl)) (by rfl) (by rfl))) (fun cl C s₀ H₀ fp pn => pts_nil) (fun cl C s₀ H₀ fp pn => (@pe_fn _ _ _ _ _ _ _ _ _ _ _ _ F_law_same hr (@pa_cons _ _ _ _ _ (@pv _ 0 _ _ (by rfl) (by first | exact Or.inl rfl | exact Or.inr (Or.inl rfl) | exact Or.inr (Or.inr rfl)) (by decide) (by decide)) (@pa_cons _ _ _ _ _ (@pv _ 1 _ _ (by rfl) (by first | exact Or.inl rfl | exact Or.inr (Or.inl rfl) | exact Or.inr (Or.inr rfl)) (by decide) (by decide)) pa_nil (by rfl)) (by rfl)) (by omega) (by rfl) (by rfl) (by decide) (by rfl) (by rfl))) (by intro x hx; simp at hx) (by rfl) (by decide) (by decide +kernel) (by intro _; rfl)) pa_nil (by rfl)) (by decide +kernel) (by rfl) (by rfl) (by decide) (by decide) (by rfl) (by rfl))))))) pss_nil) (@pss_cons _ _ _ _ _ (@ps_if _ _ _ _ _ _ _ _ (@pw_or _ _ _ _ _ _ _ (@pt_val _ _ _ (@pe_bf _ _ _ _ _ _ _ _ _ _ b_isinstance call_isinst (@pa_cons _ _ _ _ _ (@pv _ 1 _ _ (by rfl) (by first | exact Or.inl rfl | exact Or.inr (Or.inl rfl) | exact Or.inr (Or.inr rfl)) (by decide) (by decide)) (@pa_cons _ _ _ _ _ (@pe_bn _ _ _ _ ("bool") b_bool (by decide +kernel) (by rfl) (by rfl) (by decide) (by decide)) pa_nil (by rfl)) (by rfl)) (by decide +kernel) (by rfl) (by rfl) (by decide) (by decide) (by rfl) (by rfl)) (by intro _; rfl)) (@pw_or1 _ _ _ _ (@pt_val _ _ _ (@pe_bf _ _ _ _ _ _ _ _ _ _ b_isinstance call_isinst (@pa_cons _ _ _ _ _ (@pv _ 0 _ _ (by rfl) (by first | exact Or.inl rfl | exact Or.inr (Or.inl rfl) | exact Or.inr (Or.inr rfl)) (by decide) (by decide)) (@pa_cons _ _ _ _ _ (@pe_bn _ _ _ _ ("bool") b_bool (by decide +kernel) (by rfl) (by rfl) (by decide) (by decide)) pa_nil (by rfl)) (by rfl)) (by decide +kernel) (by rfl) (by rfl) (by decide) (by decide) (by rfl) (by rfl)) (by intro _; rfl)))).pt (@pss_one _ _ _ (@ps_ret _ _ _ _ (@pe_and _ _ _ _ _ _ _ (@pe_bf _ _ _ _ _ _ _ _ _ _ b_isinstance call_isinst (@pa_cons _ _ _ _ _ (@pv _ 1 _ _ (by rfl) (by first | exact Or.inl rfl | exact Or.inr (Or.inl rfl) | exact Or.inr (Or.inr rfl)) (by decide) (by decide)) (@pa_cons _ _ _ _ _ (@pe_bn _ _ _ _ ("bool") b_bool (by decide +kernel) (by rfl) (by rfl) (by decide) (by decide)) pa_nil (by rfl)) (by rfl)) (by decide +kernel) (by rfl) (by rfl) (by decide) (by decide) (by rfl) (by rfl)) (@pe_and _ _ _ _ _ _ _ (@pe_bf _ _ _ _ _ _ _ _ _ _ b_isinstance call_isinst (@pa_cons _ _ _ _ _ (@pv _ 0 _ _ (by rfl) (by first | exact Or.inl rfl | exact Or.inr (Or.inl rfl) | exact Or.inr (Or.inr rfl)) (by decide) (by decide)) (@pa_cons _ _ _ _ _ (@pe_bn _ _ _ _ ("bool") b_bool (by decide +kernel) (by rfl) (by rfl) (by decide) (by decide)) pa_nil (by rfl)) (by rfl)) (by decide +kernel) (by rfl) (by rfl) (by decide) (by decide) (by rfl) (by rfl)) (@pe_one _ _ _ _ _ (@pe_cmpR _ _ _ _ _ _ _ _ op_eq (@pv _ 0 _ _ (by rfl) (by first | exact Or.inl rfl | exact Or.inr (Or.inl rfl) | exact Or.inr (Or.inr rfl)) (by decide) (by decide)) (@pv _ 1 _ _ (by rfl) (by first | exact Or.inl rfl | exact Or.inr (Or.inl rfl) | exact Or.inr (Or.inr rfl)) (by decide) (by decide)) (nomark _))))))) pss_nil) (@pss_cons _ _ _ _ _ (@ps_if _ _ _ _ _ _ _ _ (@pt_val _ _ _ (@pe_bf _ _ _ _ _ _ _ _ _ _ b_isinstance call_isinst (@pa_cons _ _ _ _ _ (@pv _ 1 _ _ (by rfl) (by first | exact Or.inl rfl | exact Or.inr (Or.inl rfl) | exact Or.inr (Or.inr rfl)) (by decide) (by decide)) (@pa_cons _ _ _ _ _ (@pe_bn _ _ _ _ ("int") b_int (by decide +kernel) (by rfl) (by rfl) (by decide) (by decide)) pa_nil (by rfl)) (by rfl)) (by decide +kernel) (by rfl) (by rfl) (by decide) (by decide) (by rfl) (by rfl)) (by intro _; rfl)) (@pss_one _ _ _ (@ps_ret _ _ _ _ (@pe_and _ _ _ _ _ _ _ (@pe_bf _ _ _ _ _ _ _ _ _ _ b_isinstance call_isinst (@pa_cons _ _ _ _ _ (@pv _ 0 _ _ (by rfl) (by first | exact Or.inl rfl | exact Or.inr (Or.inl rfl) | exact Or.inr (Or.inr rfl)) (by decide) (by decide)) (@pa_cons _ _ _ _ _ (@pe_bn _ _ _ _ ("int") b_int (by decide +kernel) (by rfl) (by rfl) (by decide) (by decide)) pa_nil (by rfl)) (by rfl)) (by decide +kernel) (by rfl) (by rfl) (by decide) (by decide) (by rfl) (by rfl)) (@pe_one _ _ _ _ _ (@pe_cmpR _ _ _ _ _ _ _ _ op_eq (@pv _ 0 _ _ (by rfl) (by first | exact Or.inl rfl | exact Or.inr (Or.inl rfl) | exact Or.inr (Or.inr rfl)) (by decide) (by decide)) (@pv _ 1 _ _ (by rfl) (by first | exact Or.inl rfl | exact Or.inr (Or.inl rfl) | exact Or.inr (Or.inr rfl)) (by decide) (by decide)) (nomark _)))))) pss_nil) (@pss_one _ _ _ (@ps_ret _ _ _ _ (@pe_and _ _ _ _ _ _ _ (@pe_bf _ _ _ _ _ _ _ _ _ _ b_isinstance call_isinst (@pa_cons _ _ _ _ _ (@pv _ 0 _ _ (by rfl) (by first | exact Or.inl rfl | exact Or.inr (Or.inl rfl) | exact Or.inr (Or.inr rfl)) (by decide) (by decide)) (@pa_cons _ _ _ _ _ (@pe_bn _ _ _ _ ("str") b_str (by decide +kernel) (by rfl) (by rfl) (by decide) (by decide)) pa_nil (by rfl)) (by rfl)) (by decide +kernel) (by rfl) (by rfl) (by decide) (by decide) (by rfl) (by rfl)) (@pe_and _ _ _ _ _ _ _ (@pe_bf _ _ _ _ _ _ _ _ _ _ b_isinstance call_isinst (@pa_cons _ _ _ _ _ (@pv _ 1 _ _ (by rfl) (by first | exact Or.inl rfl | exact Or.inr (Or.inl rfl) | exact Or.inr (Or.inr rfl)) (by decide) (by decide)) (@pa_cons _ _ _ _ _ (@pe_bn _ _ _ _ ("str") b_str (by decide +kernel) (by rfl) (by rfl) (by decide) (by decide)) pa_nil (by rfl)) (by rfl)) (by decide +kernel) (by rfl) (by rfl) (by decide) (by decide) (by rfl) (by rfl)) (@pe_one _ _ _ _ _ (@pe_cmpR _ _ _ _ _ _ _ _ op_eq (@pv _ 0 _ _ (by rfl) (by first | exact Or.inl rfl | exact Or.inr (Or.inl rfl) | exact Or.inr (Or.inr rfl)) (by decide) (by decide)) (@pv _ 1 _ _ (by rfl) (by first | exact Or.inl rfl | exact Or.inr (Or.inl rfl) | exact Or.inr (Or.inr rfl)) (by decide) (by decide)) (nomark _))))))))))), ?_⟩
  refine cut1 (fun σ H' => σ = [some v, some w] ∧ H' = H ∧ d ≠ .none) ?_ ?_
  rotate_left
  · intro N hN
    walk_at "rd"
    refine ite2 (fun c => ?_) fun c => hN _ _ ⟨rfl, rfl, fun z => ?_⟩
    · subst c
      have hd : d = .none := by
        cases d <;> simp only [Vn] at hw <;> first | rfl | (cases hw; done) | (obtain ⟨_, _, e, _⟩ := hw; cases e) | exact hw.elim
      subst hd
      have hv' : v = .non := hv
      rw [decide_eq_true hv']
      exact q H (.refl _)
    · subst z
      exact c hw
  rintro σ H0 ⟨rfl, e0, hd⟩
  subst e0
  refine cut1 (fun σ H' => σ = [some v, some w] ∧ Same H0 H' ∧ ((∃ b, v = .bl b ∧ w = .bl b) ∨ (∃ b, v = .int b ∧ w = .int b) ∨ ∃ b, v = .str b ∧ w = .str b)) ?_ ?_
  · rintro σ H1 ⟨rfl, s1, hvw⟩
    walk_at "rd"
    rcases hvw with ⟨b, rfl, rfl⟩ | ⟨b, rfl, rfl⟩ | ⟨b, rfl, rfl⟩
    · exact ⟨_, rfl, _, .bl b, true, rfl, iteT ⟨_, rfl, _, .bl b, true, rfl, iteT ⟨_, rfl, _, .bl b, true, rfl, iteT ⟨by cases b <;> rfl, by rw [decide_eq_true rfl]; exact q _ s1⟩⟩⟩⟩
    · exact ⟨_, rfl, _, .int b, false, rfl, iteN (by decide) ⟨_, rfl, _, .int b, false, rfl, iteN (by decide) ⟨_, rfl, _, .int b, true, rfl, iteT ⟨_, rfl, _, .int b, true, rfl, iteT ⟨rfl, by rw [decide_eq_true rfl]; exact q _ s1⟩⟩⟩⟩⟩
    · exact ⟨_, rfl, _, .str b, false, rfl, iteN (by decide) ⟨_, rfl, _, .str b, false, rfl, iteN (by decide) ⟨_, rfl, _, .str b, false, rfl, iteN (by decide) ⟨_, rfl, _, .str b, true, rfl, iteT ⟨_, rfl, _, .str b, true, rfl, iteT ⟨rfl, by rw [decide_eq_true rfl]; exact q _ s1⟩⟩⟩⟩⟩⟩
  · intro N hN
    walk_at "rd"
    refine ⟨few (by decide), fun p hp => ⟨["list", "tuple"], upd_same, ?_⟩⟩
    have u1 := Same.upd_new hp (.tup [V.ty "list", V.ty "tuple"])
    cases d <;> simp only [Vn] at hv hw
    case none => exact (hd rfl).elim
    case bool b =>
      subst hv hw
      exact ⟨_, .bl b, false, rfl, iteN (by decide) (hN _ _ ⟨rfl, u1, .inl ⟨b, rfl, rfl⟩⟩)⟩
    case int b =>
      subst hv hw
      exact ⟨_, .int b, false, rfl, iteN (by decide) (hN _ _ ⟨rfl, u1, .inr (.inl ⟨b, rfl, rfl⟩)⟩)⟩
    case str b =>
      subst hv hw
      exact ⟨_, .str b, false, rfl, iteN (by decide) (hN _ _ ⟨rfl, u1, .inr (.inr ⟨b, rfl, rfl⟩)⟩)⟩
    case tuple ds =>
      obtain ⟨a, vs, rfl, ha, hvl, hd, hvs⟩ := hv
      obtain ⟨b, ws, rfl, hb, hwl, _, hws⟩ := hw
      refine ⟨_, .tup (u1 _ _ hb), true, rfl, iteT ⟨few (by decide), fun p1 hp1 => ⟨["list", "tuple"], upd_same, ?_⟩⟩⟩
      have u2 := u1.trans (Same.upd_new hp1 (.tup [V.ty "list", V.ty "tuple"]))
      refine ⟨_, .tup (u2 _ _ ha), true, rfl, iteN (by decide) ⟨_, rfl, _, .tup (u2 _ _ hb), false, rfl, _, rfl, _, .tup (u2 _ _ ha), false, rfl, rfl, iteN (by decide) ?_⟩⟩
      refine ⟨a, rfl, _, .inr (SqT.of (u2 _ _ ha)), b, rfl, _, .inr (SqT.of (u2 _ _ hb)), iteY (by rw [hvl, hwl]) (Or.inr (tLC_zipT (K := g.K) (xs := vs) (ys := ws) (a := a) (b := b) ((List.replicate vs.length true).map V.bl) (fun R r => by walk_at "rd"; exact r) (SqT.of (u2 _ _ ha)) (SqT.of (u2 _ _ hb)) (by rw [hvl, hwl]) (by simp) (by omega) ?_ ?_))⟩
      · intro i x y z H' hx hy hz sm R r
        have hi : i < ds.length := by rw [← hvl]; exact (List.getElem?_eq_some_iff.mp hx).1
        have hdi : ds[i]? = some ds[i] := List.getElem?_eq_getElem hi
        have hz' : V.bl true = z := by
          rw [List.getElem?_map, List.getElem?_replicate, if_pos (by omega)] at hz
          exact Option.some.inj hz
        subst hz'
        walk_at "rd"
        exact ⟨x, y, ds[i], rfl, (hvs i x _ hx hdi).keep (u2.trans sm), (hws i y _ hy hdi).keep (u2.trans sm), fun H'' s'' => r H'' s''⟩
      · intro D H' hD sm hd'
        refine ⟨D, rfl, List.replicate vs.length true, SqL.of hd', ?_⟩
        rw [show (List.replicate vs.length true).all id = true by simp]
        exact q H' (u2.trans sm)
    case list ds =>
      obtain ⟨a, vs, rfl, ha, hvl, hd, hvs⟩ := hv
      obtain ⟨b, ws, rfl, hb, hwl, _, hws⟩ := hw
      refine ⟨_, .lst (u1 _ _ hb), true, rfl, iteT ⟨few (by decide), fun p1 hp1 => ⟨["list", "tuple"], upd_same, ?_⟩⟩⟩
      have u2 := u1.trans (Same.upd_new hp1 (.tup [V.ty "list", V.ty "tuple"]))
      refine ⟨_, .lst (u2 _ _ ha), true, rfl, iteN (by decide) ⟨_, rfl, _, .lst (u2 _ _ hb), true, rfl, _, rfl, _, .lst (u2 _ _ ha), true, rfl, rfl, iteN (by decide) ?_⟩⟩
      refine ⟨a, rfl, _, .inl (SqL.of (u2 _ _ ha)), b, rfl, _, .inl (SqL.of (u2 _ _ hb)), iteY (by rw [hvl, hwl]) (Or.inl (tLC_zipL (K := g.K) (xs := vs) (ys := ws) (a := a) (b := b) ((List.replicate vs.length true).map V.bl) (fun R r => by walk_at "rd"; exact r) (SqL.of (u2 _ _ ha)) (SqL.of (u2 _ _ hb)) (by rw [hvl, hwl]) (by simp) (by omega) ?_ ?_))⟩
      · intro i x y z H' hx hy hz sm R r
        have hi : i < ds.length := by rw [← hvl]; exact (List.getElem?_eq_some_iff.mp hx).1
        have hdi : ds[i]? = some ds[i] := List.getElem?_eq_getElem hi
        have hz' : V.bl true = z := by
          rw [List.getElem?_map, List.getElem?_replicate, if_pos (by omega)] at hz
          exact Option.some.inj hz
        subst hz'
        walk_at "rd"
        exact ⟨x, y, ds[i], rfl, (hvs i x _ hx hdi).keep (u2.trans sm), (hws i y _ hy hdi).keep (u2.trans sm), fun H'' s'' => r H'' s''⟩
      · intro D H' hD sm hd'
        refine ⟨D, rfl, List.replicate vs.length true, SqL.of hd', ?_⟩
        rw [show (List.replicate vs.length true).all id = true by simp]
        exact q H' (u2.trans sm)
    all_goals exact hv.elim
end KW
set_option maxHeartbeats 8000000
namespace KW
open PySem L2

variable {g : Gx}
variable {C : Addr}
local macro_rules | `(tactic| walk_at "sd") => `(tactic| simp (config := { failIfUnchanged := false, maxSteps := 10000000 }) only [l_num, l_here, l_count, l_sum, l_not, l_turned, l_plus, l_times, l_less, l_same, l_both, l_each, l_joined, l_part, l_when, ms_inj, in_cons, in_nil, Bool.or_false, Bool.false_or, Bool.or_self, Bool.true_or, Bool.or_true, reduceCtorEq, V.str.injEq, List.mem_cons, List.not_mem_nil, or_false, false_or, or_true, true_or, or_self, not_true_eq_false, not_false_eq_true, if_true, if_false, ite_true, ite_false, decide_true, decide_false, Bool.false_eq_true, and_true, true_and, and_false, false_and, false_implies, true_implies])

local macro_rules | `(tactic| walk_at "gn") => `(tactic| simp only [gName, List.set_cons_zero, List.set_cons_succ])

local macro_rules | `(tactic| walk_at "rd") => `(tactic| simp (config := { failIfUnchanged := false, maxSteps := 10000000 }) only [L2.start, cxOf_K, nox_K, List.map_cons, List.map_nil, List.length_cons, List.length_nil, List.cons_append, List.nil_append, List.replicate_succ, List.replicate_zero, Nat.zero_add, Nat.reduceAdd, Nat.reduceSub, Nat.sub_self, tSeq, tIfS, tTest, tOp, tC, tVar, rI0, rI, rU, tUn, tRet, tRetN, tDrop, tNext, tBreak, tCont, tAsg, gName, gNil, gCons, tCons, tNil, tCB, tCall, tTry, tTryAs, tRaise, sFld, tFld, tMake, tMeth, Ends.gone, caught_K, tB, tAnd, tOr, tNot, tAndV, tOrV, tNotV, tIf, tChain, tNoPart, tPart, tSl, tNever, tAug, rIxL, rIxT, rSlL, tLst, tTup, gTup, tRev, tLZ, tConT, tDict0, rBits, rFind, rIn, tBM, tBM0, rAppend, rReverse, rEq, rNe, scal_ii, scal_ss, rCat, rSetL, gSub, ipI, capSt, List.getD_cons_zero, List.getD_cons_succ, decide_true, not_true_eq_false, not_false_eq_true,
  exists_eq_left', exists_eq_left, exists_eq', exists_eq, exists_and_left, and_assoc, Option.some.injEq, V.int.injEq, V.bl.injEq, V.ref.injEq, V.str.injEq, List.getElem?_cons_zero, List.getElem?_cons_succ, List.set_cons_zero, List.set_cons_succ, List.cons.injEq, and_true, true_and, List.append_nil, decide_eq_true_eq, Bool.not_eq_true', decide_eq_false_iff_not, Bool.not_not, Bool.not_true, Bool.not_false, Bool.true_eq_false, Bool.false_eq_true, if_true, if_false, ite_true, ite_false])

/-- terms, as a tree -/
inductive Tm
  | num (i : Int)
  | here
  | part (t : Tm) (p : Nat)
  | one (m : Mk) (t : Tm)
  | two (m : Mk) (a b : Tm)
  | when (a b c : Tm)
def mc (m : Mk) : List Nat := (ms m).cps.toList
theorem ms_mc (m : Mk) : ms m = S (mc m) := by unfold mc S; simp
/-- the note of a term -/
def nt : Tm → Rd.Note
  | .num i => .leaf [] (dg i)
  | .here => .leaf [] (mc .here)
  | .part t p => .node [] (mc .part) (.cons (nt t) (.cons (.leaf [] (dg (p : Int))) .nil))
  | .one m t => .node [] (mc m) (.cons (nt t) .nil)
  | .two m a b => .node [] (mc m) (.cons (nt a) (.cons (nt b) .nil))
  | .when a b c => .node [] (mc .when) (.cons (nt a) (.cons (nt b) (.cons (nt c) .nil)))
def is1 (m : Mk) : Prop := m = .count ∨ m = .sum ∨ m = .not ∨ m = .turned
def is2 (m : Mk) : Prop := m = .plus ∨ m = .times ∨ m = .less ∨ m = .same ∨ m = .both ∨ m = .each ∨ m = .joined
/-- good terms -/
def Gd : Tm → Prop
  | .num i => i.natAbs < 10 ^ 60
  | .here => True
  | .part t p => Gd t ∧ p ≤ 20
  | .one m t => is1 m ∧ Gd t
  | .two m a b => is2 m ∧ Gd a ∧ Gd b
  | .when a b c => Gd a ∧ Gd b ∧ Gd c
/-- how deep -/
def dp : Tm → Nat
  | .num _ => 0
  | .here => 0
  | .part t _ => dp t + 1
  | .one _ t => dp t + 1
  | .two _ a b => max (dp a) (dp b) + 1
  | .when a b c => max (dp a) (max (dp b) (dp c)) + 1
/-- a term in the heap -/
def TA (H : Hp) : Tm → V → Prop
  | .num i, v => ∃ a, v = .ref a ∧ H a = some (.tup [.str (ms .num), .int i])
  | .here, v => ∃ a b, v = .ref a ∧ H a = some (.tup [.str (ms .here), .ref b]) ∧ H b = some (.tup [])
  | .part t p, v => ∃ a b w, v = .ref a ∧ H a = some (.tup [.str (ms .part), .ref b]) ∧ H b = some (.tup [w, .int (p : Nat)]) ∧ TA H t w
  | .one m t, v => ∃ a w, v = .ref a ∧ H a = some (.tup [.str (ms m), w]) ∧ TA H t w
  | .two m x y, v => ∃ a b w u, v = .ref a ∧ H a = some (.tup [.str (ms m), .ref b]) ∧ H b = some (.tup [w, u]) ∧ TA H x w ∧ TA H y u
  | .when x y z, v => ∃ a b w u r, v = .ref a ∧ H a = some (.tup [.str (ms .when), .ref b]) ∧ H b = some (.tup [w, u, r]) ∧ TA H x w ∧ TA H y u ∧ TA H z r
theorem TA.keep {H H' : Hp} (s : Tk H H') : ∀ {t : Tm} {v : V}, TA H t v → TA H' t v
  | .num _, _, ⟨a, e, h⟩ => ⟨a, e, s _ _ h⟩
  | .here, _, ⟨a, b, e, h1, h2⟩ => ⟨a, b, e, s _ _ h1, s _ _ h2⟩
  | .part _ _, _, ⟨a, b, w, e, h1, h2, h3⟩ => ⟨a, b, w, e, s _ _ h1, s _ _ h2, h3.keep s⟩
  | .one _ _, _, ⟨a, w, e, h1, h3⟩ => ⟨a, w, e, s _ _ h1, h3.keep s⟩
  | .two _ _ _, _, ⟨a, b, w, u, e, h1, h2, h3, h4⟩ => ⟨a, b, w, u, e, s _ _ h1, s _ _ h2, h3.keep s, h4.keep s⟩
  | .when _ _ _, _, ⟨a, b, w, u, r, e, h1, h2, h3, h4, h5⟩ => ⟨a, b, w, u, r, e, s _ _ h1, s _ _ h2, h3.keep s, h4.keep s, h5.keep s⟩
/-- the text of a term -/
abbrev tt (t : Tm) : List Nat := Rd.txt (nt t)
theorem head0 (w : List Nat) : Rd.head [] w = w := by unfold Rd.head; rw [if_pos rfl]
theorem tt_part (t : Tm) (p : Nat) : tt (.part t p) = mc .part ++ 40 :: (tt t ++ 44 :: dg (p : Int) ++ [41]) := by
  simp only [tt, nt, Rd.txt, Rd.txts, head0]
theorem tt_one (m : Mk) (t : Tm) : tt (.one m t) = mc m ++ 40 :: (tt t ++ [41]) := by simp only [tt, nt, Rd.txt, Rd.txts, head0]
theorem tt_two (m : Mk) (a b : Tm) : tt (.two m a b) = mc m ++ 40 :: (tt a ++ 44 :: tt b ++ [41]) := by simp only [tt, nt, Rd.txt, Rd.txts, head0]
theorem tt_when (a b c : Tm) : tt (.when a b c) = mc .when ++ 40 :: (tt a ++ 44 :: (tt b ++ 44 :: tt c) ++ [41]) := by simp only [tt, nt, Rd.txt, Rd.txts, head0]
theorem s_open : Str.ofString "(" = S [40] := by decide +kernel
theorem s_close : Str.ofString ")" = S [41] := by decide +kernel
theorem s_comma : Str.ofString "," = S [44] := by decide +kernel
theorem tx_one {m : Mk} (h : is1 m) (x : List Nat) (y : Str) : tx m [S x] y = S (mc m ++ 40 :: (x ++ [41])) := by
  rcases h with rfl | rfl | rfl | rfl <;> (simp only [tx, join1]; rw [ms_mc, s_open, s_close, S_app, S_app, S_app]; simp)
theorem tx_part (x d : List Nat) : tx .part [S x] (S d) = S (mc .part ++ 40 :: (x ++ 44 :: d ++ [41])) := by
  simp only [tx, List.cons_append, List.nil_append, join2]
  rw [ms_mc, s_open, s_close, s_comma, S_app, S_app, S_app, S_app, S_app]; simp
theorem tx_two {m : Mk} (h : is2 m) (x d : List Nat) (y : Str) : tx m [S x, S d] y = S (mc m ++ 40 :: (x ++ 44 :: d ++ [41])) := by
  rcases h with rfl | rfl | rfl | rfl | rfl | rfl | rfl <;> (simp only [tx, join2]; rw [ms_mc, s_open, s_close, s_comma, S_app, S_app, S_app, S_app, S_app]; simp)
theorem tx_when (x d e : List Nat) (y : Str) : tx .when [S x, S d, S e] y = S (mc .when ++ 40 :: (x ++ 44 :: (d ++ 44 :: e) ++ [41])) := by
  simp only [tx, join3]
  rw [ms_mc, s_open, s_close, s_comma, S_app, S_app, S_app, S_app, S_app, S_app, S_app]; simp
/-- a term has its text -/
theorem TA.tm {H : Hp} : ∀ {t : Tm} {v : V} {n : Nat}, TA H t v → Gd t → dp t ≤ n → ∃ k, TmAt H (n + 1) v k (S (tt t))
  | .num i, v, n, ⟨a, e, h⟩, hg, _ => by
    subst e
    have := tm_num (n := n) h hg
    rw [dg_str] at this
    exact ⟨some false, by simpa only [tt, nt, Rd.txt, head0] using this⟩
  | .here, v, n, ⟨a, b, e, h, _⟩, hg, _ => by
    subst e
    have := tm_here (n := n) h
    rw [ms_mc] at this
    exact ⟨some false, by simpa only [tt, nt, Rd.txt, head0] using this⟩
  | .part t p, v, n, ⟨a, b, w, e, h1, h2, h3⟩, hg, hn => by
    subst e
    simp only [dp] at hn
    obtain ⟨m, rfl⟩ : ∃ m, n = m + 1 := ⟨n - 1, by omega⟩
    obtain ⟨k, hk⟩ := h3.tm (n := m) hg.1 (by omega)
    have := tm_part h1 h2 (by have := hg.2; exact Nat.lt_of_le_of_lt this (by decide)) hk
    rw [dg_str, tx_part, ← tt_part] at this
    exact ⟨_, this⟩
  | .one m t, v, n, ⟨a, w, e, h1, h3⟩, hg, hn => by
    subst e
    simp only [dp] at hn
    obtain ⟨j, rfl⟩ : ∃ m, n = m + 1 := ⟨n - 1, by omega⟩
    obtain ⟨k, hk⟩ := h3.tm (n := j) hg.2 (by omega)
    have := tm_one hg.1 h1 hk
    rw [tx_one hg.1, ← tt_one] at this
    exact ⟨_, this⟩
  | .two m x y, v, n, ⟨a, b, w, u, e, h1, h2, h3, h4⟩, hg, hn => by
    subst e
    simp only [dp] at hn
    obtain ⟨j, rfl⟩ : ∃ m, n = m + 1 := ⟨n - 1, by omega⟩
    obtain ⟨k, hk⟩ := h3.tm (n := j) hg.2.1 (by omega)
    obtain ⟨k', hk'⟩ := h4.tm (n := j) hg.2.2 (by omega)
    have := tm_two hg.1 h1 h2 hk hk'
    rw [tx_two hg.1, ← tt_two] at this
    exact ⟨_, this⟩
  | .when x y z, v, n, ⟨a, b, w, u, r, e, h1, h2, h3, h4, h5⟩, hg, hn => by
    subst e
    simp only [dp] at hn
    obtain ⟨j, rfl⟩ : ∃ m, n = m + 1 := ⟨n - 1, by omega⟩
    obtain ⟨k, hk⟩ := h3.tm (n := j) hg.1 (by omega)
    obtain ⟨k', hk'⟩ := h4.tm (n := j) hg.2.1 (by omega)
    obtain ⟨k'', hk''⟩ := h5.tm (n := j) hg.2.2 (by omega)
    have := tm_when h1 h2 hk hk' hk''
    rw [tx_when, ← tt_when] at this
    exact ⟨_, this⟩
/-- the data of a term -/
def dt : Tm → PyData
  | .num i => .tuple [.str (ms .num), .int i]
  | .here => .tuple [.str (ms .here), .tuple []]
  | .part t p => .tuple [.str (ms .part), .tuple [dt t, .int (p : Nat)]]
  | .one m t => .tuple [.str (ms m), dt t]
  | .two m a b => .tuple [.str (ms m), .tuple [dt a, dt b]]
  | .when a b c => .tuple [.str (ms .when), .tuple [dt a, dt b, dt c]]
theorem vn2 {H : Hp} {n : Nat} {a : Addr} {x y : V} {d e : PyData} (h : H a = some (.tup [x, y])) (h1 : Vn H n x d) (h2 : Vn H n y e) : Vn H (n + 1) (.ref a) (.tuple [d, e]) := by
  refine ⟨a, _, rfl, h, rfl, by simp, fun i v d' a b => ?_⟩
  match i with
  | 0 => cases a; cases b; exact h1
  | 1 => cases a; cases b; exact h2
  | i + 2 => simp at a
theorem vn3 {H : Hp} {n : Nat} {a : Addr} {x y z : V} {d e f : PyData} (h : H a = some (.tup [x, y, z])) (h1 : Vn H n x d) (h2 : Vn H n y e) (h3 : Vn H n z f) : Vn H (n + 1) (.ref a) (.tuple [d, e, f]) := by
  refine ⟨a, _, rfl, h, rfl, by simp, fun i v d' a b => ?_⟩
  match i with
  | 0 => cases a; cases b; exact h1
  | 1 => cases a; cases b; exact h2
  | 2 => cases a; cases b; exact h3
  | i + 3 => simp at a
theorem TA.vn {H : Hp} : ∀ {t : Tm} {v : V} {n : Nat}, TA H t v → 2 * dp t ≤ n → Vn H (n + 3) v (dt t)
  | .num i, v, n, ⟨a, e, h⟩, _ => by subst e; exact vn2 h rfl rfl
  | .here, v, n, ⟨a, b, e, h1, h2⟩, _ => by subst e; exact vn2 h1 rfl ⟨b, [], rfl, h2, rfl, by simp, fun i v d h => by simp at h⟩
  | .part t p, v, n, ⟨a, b, w, e, h1, h2, h3⟩, hn => by
    subst e
    simp only [dp] at hn
    obtain ⟨j, rfl⟩ : ∃ m, n = m + 2 := ⟨n - 2, by omega⟩
    exact vn2 h1 rfl (vn2 h2 (h3.vn (by omega)) rfl)
  | .one m t, v, n, ⟨a, w, e, h1, h3⟩, hn => by
    subst e
    simp only [dp] at hn
    obtain ⟨j, rfl⟩ : ∃ m, n = m + 2 := ⟨n - 2, by omega⟩
    exact vn2 h1 rfl ((h3.vn (n := j) (by omega)).up (by omega))
  | .two m x y, v, n, ⟨a, b, w, u, e, h1, h2, h3, h4⟩, hn => by
    subst e
    simp only [dp] at hn
    obtain ⟨j, rfl⟩ : ∃ m, n = m + 2 := ⟨n - 2, by omega⟩
    exact vn2 h1 rfl (vn2 h2 (h3.vn (by omega)) (h4.vn (by omega)))
  | .when x y z, v, n, ⟨a, b, w, u, r, e, h1, h2, h3, h4, h5⟩, hn => by
    subst e
    simp only [dp] at hn
    obtain ⟨j, rfl⟩ : ∃ m, n = m + 2 := ⟨n - 2, by omega⟩
    exact vn2 h1 rfl (vn3 h2 (h3.vn (by omega)) (h4.vn (by omega)) (h5.vn (by omega)))
/-- a good term's note is good -/
theorem ok_dg {i : Int} (h : i.natAbs < 10 ^ 60) : Rd.okW (dg i) := by
  have hl := dg_len (k := 60) (by decide) h
  have hd := dg_digits i.natAbs
  have hne := dg_ne i.natAbs
  have hw : ∀ c : Nat, 48 ≤ c ∧ c ≤ 57 → Rd.isWS c = true := fun c h => by
    simp only [Rd.isWS, Rd.isLF, Rd.isFig, decide_eq_true h.1, decide_eq_true h.2, Bool.and_self, Bool.or_true, Bool.true_or]
  have h1 : 1 ≤ (dg (i.natAbs : Int)).length := by
    rcases hh : dg (i.natAbs : Int) with _ | _
    · exact (hne hh).elim
    · simp
  rcases Int.natAbs_eq i with e | e
  · rw [e]
    exact ⟨h1, by omega, fun c hc => hw c (hd c hc)⟩
  · by_cases h0 : i.natAbs = 0
    · have e2 : dg i = dg (i.natAbs : Int) := by rw [show i = 0 by omega]; rfl
      rw [e2]
      exact ⟨h1, by omega, fun c hc => hw c (hd c hc)⟩
    · have e2 : dg i = 45 :: dg (i.natAbs : Int) := by
        have := dg_neg (n := i.natAbs) (by omega)
        rw [← e] at this
        exact this
      rw [e2]
      refine ⟨by simp, by rw [List.length_cons]; omega, fun c hc => ?_⟩
      rcases List.mem_cons.mp hc with rfl | hc
      · decide
      · exact hw c (hd c hc)
theorem ok_mc (m : Mk) : Rd.okW (mc m) := by
  cases m <;> exact ⟨by decide +kernel, by decide +kernel, by decide +kernel⟩
theorem ok_lab : Rd.okL [] := ⟨by decide, fun c h => by cases h⟩
theorem ok_nt : ∀ {t : Tm} {d : Nat}, Gd t → dp t ≤ d → Rd.Ok d (nt t)
  | .num i, d, h, _ => by cases d <;> exact ⟨ok_lab, ok_dg h⟩
  | .here, d, h, _ => by cases d <;> exact ⟨ok_lab, ok_mc _⟩
  | .part t p, d, h, hd => by
    simp only [dp] at hd
    obtain ⟨j, rfl⟩ : ∃ m, d = m + 1 := ⟨d - 1, by omega⟩
    have hp : ((p : Nat) : Int).natAbs < 10 ^ 60 := by have := h.2; rw [Int.natAbs_natCast]; exact Nat.lt_of_le_of_lt this (by decide)
    refine ⟨ok_lab, ok_mc _, ok_nt h.1 (by omega), ?_, trivial⟩
    cases j <;> exact ⟨ok_lab, ok_dg hp⟩
  | .one m t, d, h, hd => by
    simp only [dp] at hd
    obtain ⟨j, rfl⟩ : ∃ m, d = m + 1 := ⟨d - 1, by omega⟩
    exact ⟨ok_lab, ok_mc _, ok_nt h.2 (by omega), trivial⟩
  | .two m a b, d, h, hd => by
    simp only [dp] at hd
    obtain ⟨j, rfl⟩ : ∃ m, d = m + 1 := ⟨d - 1, by omega⟩
    exact ⟨ok_lab, ok_mc _, ok_nt h.2.1 (by omega), ok_nt h.2.2 (by omega), trivial⟩
  | .when a b c, d, h, hd => by
    simp only [dp] at hd
    obtain ⟨j, rfl⟩ : ∃ m, d = m + 1 := ⟨d - 1, by omega⟩
    exact ⟨ok_lab, ok_mc _, ok_nt h.1 (by omega), ok_nt h.2.1 (by omega), ok_nt h.2.2 (by omega), trivial⟩
end KW
set_option maxHeartbeats 8000000
namespace KW
open PySem L2

variable {g : Gx}
variable {C : Addr}
local macro_rules | `(tactic| walk_at "sd") => `(tactic| simp (config := { failIfUnchanged := false, maxSteps := 10000000 }) only [l_num, l_here, l_count, l_sum, l_not, l_turned, l_plus, l_times, l_less, l_same, l_both, l_each, l_joined, l_part, l_when, ms_inj, in_cons, in_nil, Bool.or_false, Bool.false_or, Bool.or_self, Bool.true_or, Bool.or_true, reduceCtorEq, V.str.injEq, List.mem_cons, List.not_mem_nil, or_false, false_or, or_true, true_or, or_self, not_true_eq_false, not_false_eq_true, if_true, if_false, ite_true, ite_false, decide_true, decide_false, Bool.false_eq_true, and_true, true_and, and_false, false_and, false_implies, true_implies])

local macro_rules | `(tactic| walk_at "gn") => `(tactic| simp only [gName, List.set_cons_zero, List.set_cons_succ])

local macro_rules | `(tactic| walk_at "rd") => `(tactic| simp (config := { failIfUnchanged := false, maxSteps := 10000000 }) only [L2.start, cxOf_K, nox_K, List.map_cons, List.map_nil, List.length_cons, List.length_nil, List.cons_append, List.nil_append, List.replicate_succ, List.replicate_zero, Nat.zero_add, Nat.reduceAdd, Nat.reduceSub, Nat.sub_self, tSeq, tIfS, tTest, tOp, tC, tVar, rI0, rI, rU, tUn, tRet, tRetN, tDrop, tNext, tBreak, tCont, tAsg, gName, gNil, gCons, tCons, tNil, tCB, tCall, tTry, tTryAs, tRaise, sFld, tFld, tMake, tMeth, Ends.gone, caught_K, tB, tAnd, tOr, tNot, tAndV, tOrV, tNotV, tIf, tChain, tNoPart, tPart, tSl, tNever, tAug, rIxL, rIxT, rSlL, tLst, tTup, gTup, tRev, tLZ, tConT, tDict0, rBits, rFind, rIn, tBM, tBM0, rAppend, rReverse, rEq, rNe, scal_ii, scal_ss, rCat, rSetL, gSub, ipI, capSt, List.getD_cons_zero, List.getD_cons_succ, decide_true, not_true_eq_false, not_false_eq_true,
  exists_eq_left', exists_eq_left, exists_eq', exists_eq, exists_and_left, and_assoc, Option.some.injEq, V.int.injEq, V.bl.injEq, V.ref.injEq, V.str.injEq, List.getElem?_cons_zero, List.getElem?_cons_succ, List.set_cons_zero, List.set_cons_succ, List.cons.injEq, and_true, true_and, List.append_nil, decide_eq_true_eq, Bool.not_eq_true', decide_eq_false_iff_not, Bool.not_not, Bool.not_true, Bool.not_false, Bool.true_eq_false, Bool.false_eq_true, if_true, if_false, ite_true, ite_false])

theorem NoteAtKeep {H H' : Hp} (s : Same H H') {n : Rd.Note} {v : V} (h : Rd.NoteAt H n v) : Rd.NoteAt H' n v := h.keep fun b xs e => s b _ e
def sp_is_number_word (K : PySem.W.Frag) : Sp := fun vs H Q _ => ∃ i : Int, vs = [.str (S (dg i))] ∧ i.natAbs < 10 ^ 60 ∧ ∀ H', Same H H' → Q (.bl true) H'
/-- what stands behind the sign -/
theorem dg_two {i : Int} (h : i.natAbs < 10 ^ 60) : dg i = [48] ∨ ∃ c r, 48 < c ∧ c ≤ 57 ∧ (∀ d ∈ r, 48 ≤ d ∧ d ≤ 57) ∧ r.length ≤ 59 ∧ (dg i = c :: r ∨ dg i = 45 :: c :: r) := by
  by_cases h0 : i.natAbs = 0
  · have : i = 0 := by omega
    subst this
    exact .inl (by decide +kernel)
  · obtain ⟨c, r, e, hc⟩ := dg_head (n := i.natAbs) (by omega)
    have hd := dg_digits i.natAbs
    have hl := dg_len (k := 60) (by decide) h
    rw [e] at hd hl
    have hc' := hd c (.head _)
    refine .inr ⟨c, r, by omega, hc'.2, fun d hd' => hd d (.tail _ hd'), by rw [List.length_cons] at hl; omega, ?_⟩
    rcases Int.natAbs_eq i with e1 | e1
    · rw [e1]; exact .inl e
    · have := dg_neg (n := i.natAbs) (by omega)
      rw [← e1, e] at this
      exact .inr this
theorem ok_is_number_word {k : Nat} {C_NoteReader : Addr} (R : g.Raw "is_number_word" "is_number_word" s_is_number_word ["word"]) (F_is_figure : g.Fn k "is_figure" ["sign"] (Rd.spSign Rd.isFig)) (b_all : g.mg "all" = none) (b_len : g.mg "len" = none) (c_MOST_FIGURES : g.Con "MOST_FIGURES" (.int 60)) : g.Fn (k + 1) "is_number_word" ["word"] (sp_is_number_word g.K) := by
  refine R.fn sc_is_number_word (fun vs H Q E h => by obtain ⟨i, rfl, hi, q⟩ := h; rfl) fun f_ cdv A outer s H vs Q E hr h => ?_
  obtain ⟨i, rfl, hi, q⟩ := h
  refine ⟨_, (@pss_cons _ _ _ _ _ (@ps_if _ _ _ _ _ _ _ _ (@pt_cmpR _ _ _ _ _ _ _ _ op_eq (@pv _ 0 _ _ (by rfl) (by first | exact Or.inl rfl | exact Or.inr (Or.inl rfl) | exact Or.inr (Or.inr rfl)) (by decide) (by decide)) pe_str (nomark _)) (@pss_one _ _ _ (@ps_ret _ _ _ _ pe_bl)) pss_nil) (@pss_cons _ _ _ _ _ (@ps_set _ _ (1) _ _ _ _ sc_is_number_word.nd rfl (Or.inl rfl) (@pe_ifExp _ _ _ _ _ _ _ _ (@pt_val _ _ _ (@pe_bm _ _ _ _ _ _ _ _ _ _ _ _ PySem.F.plainAttrs_str PySem.F.slot_str_startswith PySem.F.type_str_startswith mt_starts (@pv _ 0 _ _ (by rfl) (by first | exact Or.inl rfl | exact Or.inr (Or.inl rfl) | exact Or.inr (Or.inr rfl)) (by decide) (by decide)) (@pa_cons _ _ _ _ _ pe_str pa_nil (by rfl)) (by rfl) (by rfl) (by rfl) (by rfl) (by rfl)) (by intro _; rfl)) (@pe_slice _ _ _ _ _ _ _ _ _ _ sl_str (@pv _ 0 _ _ (by rfl) (by first | exact Or.inl rfl | exact Or.inr (Or.inl rfl) | exact Or.inr (Or.inr rfl)) (by decide) (by decide)) (@po_some _ _ _ pe_int) po_none) (@pv _ 0 _ _ (by rfl) (by first | exact Or.inl rfl | exact Or.inr (Or.inl rfl) | exact Or.inr (Or.inr rfl)) (by decide) (by decide))) (by rfl) (by first | exact .inl rfl | exact .inr rfl | assumption)) (@pss_cons _ _ _ _ _ (@ps_if _ _ _ _ _ _ _ _ (@pt_not _ _ _ _ (@pt_chain _ _ _ _ _ _ _ _ _ _ _ _ op_le op_le pe_int (@pe_bf _ _ _ _ _ _ _ _ _ _ b_len call_len_str (@pa_cons _ _ _ _ _ (@pv _ 1 _ _ (by rfl) (by first | exact Or.inl rfl | exact Or.inr (Or.inl rfl) | exact Or.inr (Or.inr rfl)) (by decide) (by decide)) pa_nil (by rfl)) (by decide +kernel) (by rfl) (by rfl) (by decide) (by decide) (by rfl) (by rfl)) (@pe_gc _ _ _ _ _ c_MOST_FIGURES (by rfl) (by rfl) (by decide)) (by with_unfolding_all rfl))) (@pss_one _ _ _ (@ps_ret _ _ _ _ pe_bl)) pss_nil) (@pss_one _ _ _ (@ps_ret _ _ _ _ (@pe_and _ _ _ _ _ _ _ (@pe_cmpR _ _ _ _ _ _ _ _ op_ne (@pe_ix _ _ _ _ _ _ _ ix_str (@pv _ 1 _ _ (by rfl) (by first | exact Or.inl rfl | exact Or.inr (Or.inl rfl) | exact Or.inr (Or.inr rfl)) (by decide) (by decide)) pe_int (fun _ _ => rfl)) pe_str (nomark _)) (@pe_one _ _ _ _ _ (@pe_bf _ _ _ _ _ _ _ _ _ _ b_all (call_all_bools rfl) (@pa_cons _ _ _ _ _ (@pe_lc _ _ _ _ _ _ _ ([none]) ((["sign"] : List Str)) _ (gName 0) _ _ (.own .nil) rfl (@pi_str _ _ _ _ (@pv _ 1 _ _ (by rfl) (by first | exact Or.inl rfl | exact Or.inr (Or.inl rfl) | exact Or.inr (Or.inr rfl)) (by decide) (by decide))) (fun cl C s₀ H₀ fp pn => (@pg_name _ _ (0) _ (show List.Nodup (["sign"] : List Str) by decide +kernel) rfl (Or.inl rfl) (Or.inr rfl))) (fun cl C s₀ H₀ fp pn => pts_nil) (fun cl C s₀ H₀ fp pn => (@pe_fn _ _ _ _ _ _ _ _ _ _ _ _ F_is_figure hr (@pa_cons _ _ _ _ _ (@pv _ 0 _ _ (by rfl) (by first | exact Or.inl rfl | exact Or.inr (Or.inl rfl) | exact Or.inr (Or.inr rfl)) (by decide) (by decide)) pa_nil (by rfl)) (by omega) (by rfl) (by rfl) (by decide) (by rfl) (by rfl))) (by intro x hx; simp at hx) (by rfl) (by decide) (by decide +kernel) (by intro _; rfl)) pa_nil (by rfl)) (by decide +kernel) (by rfl) (by rfl) (by decide) (by decide) (by rfl) (by rfl))))))))), ?_⟩
  have e0 : Str.ofString "0" = S [48] := by decide +kernel
  have em : Str.ofString "-" = S [45] := by decide +kernel
  have hl2 : (dg i).length ≤ 62 := (ok_dg hi).2.1
  have hsl : (S (dg i)).length ≤ sizeLine := few (by rw [S_len]; omega)
  by_cases hz : dg i = [48]
  · rw [hz]
    walk_at "rd"
    exact iteY e0.symm (q H (.refl _))
  obtain ⟨c, r, hc0, hc1, hrd, hrl, hcr⟩ := (dg_two hi).resolve_left hz
  refine cut2 (fun σ H' => σ = [some (.str (S (dg i))), some (.str (S (c :: r)))] ∧ H' = H) ?_ ?_
  · rintro σ H' ⟨rfl, rfl⟩
    walk_at "rd"
    have hln : (S (c :: r)).length = r.length + 1 := by rw [S_len, List.length_cons]
    refine ⟨few (by omega), iteY (by omega) (iteN (by omega) ?_)⟩
    refine ⟨_, 0, c, rfl, rfl, few (by omega), ?_, rfl, iteY (fun z => ?_) ?_⟩
    · rw [S_list]
      exact atI_nat (xs := c :: r) (j := 0) rfl
    · rw [e0] at z
      injection z with z
      have := S_inj (a := [c]) (b := [48]) z
      simp at this
      omega
    · refine tLC_str (l := c :: r) (((c :: r).map fun _ => true).map V.bl) (fun R r => by walk_at "rd"; exact r) (by simp) (by simp; omega) ?_ ?_
      · intro j d y H1 hd hy sm R rr
        rw [List.getElem?_map, List.getElem?_map, hd] at hy
        have : V.bl true = y := Option.some.inj hy
        subst this
        have hdd : 48 ≤ d ∧ d ≤ 57 := by
          rcases List.mem_cons.mp (List.mem_of_getElem? hd) with e | h
          · omega
          · exact hrd d h
        walk_at "rd"
        refine ⟨[d], rfl, by simp, ?_⟩
        rw [show ([d] : List Nat).any Rd.isFig = true by simp [Rd.isFig, hdd.1, hdd.2]]
        exact rr H1 (.refl _)
      · intro D H1 hD sm hd
        refine ⟨D, rfl, _, SqL.of hd, ?_⟩
        rw [show ((c :: r).map fun _ => true).all id = true by simp]
        exact q H1 sm
  · intro N hN
    walk_at "rd"
    have hsw : ∀ (a : Nat) (l : List Nat), Txt.startswith (S (a :: l)) (S [45]) = decide (a = 45) := fun a l => by
      simp [Txt.startswith, Builtin.Str.subAt, S, Str.length]
      rfl
    refine iteN (fun z => hz ?_) ⟨rfl, _, _, rfl, rfl, ?_⟩
    · rw [e0] at z
      exact S_inj z
    · rw [em]
      refine ⟨_, rfl, ?_⟩
      rcases hcr with e | e
      · rw [e, hsw, decide_eq_false (by omega)]
        rw [e] at hN
        exact iteN (by decide) (hN _ _ ⟨rfl, rfl⟩)
      · rw [e, hsw, decide_eq_true rfl]
        rw [e] at hN hsl
        refine iteY rfl ⟨_, rfl, hsl, ?_⟩
        have := cutS_lo (45 :: c :: r) 1
        rw [show ((1 : Nat) : Int) = 1 from rfl] at this
        rw [this]
        exact hN _ _ ⟨rfl, rfl⟩
def sp_lone_word (K : PySem.W.Frag) : Sp := fun vs H Q _ => ∃ (w : List Nat) (v : V), vs = [v] ∧ Rd.NoteAt H (.leaf [] w) v ∧ Q (.str (S w)) H
theorem ok_lone_word {C_NoteReader : Addr} (R : g.Raw "lone_word" "lone_word" s_lone_word ["note"]) : g.Fn (1) "lone_word" ["note"] (sp_lone_word g.K) := by
  refine R.fn sc_lone_word (fun vs H Q E h => by obtain ⟨w, v, rfl, ⟨a, rfl, ha⟩, q⟩ := h; rfl) fun f_ cdv A outer s H vs Q E hr h => ?_
  obtain ⟨w, v, rfl, ⟨a, rfl, ha⟩, q⟩ := h
  refine ⟨_, (@pss_cons _ _ _ _ _ (@ps_if _ _ _ _ _ _ _ _ (@pw_or _ _ _ _ _ _ _ (@pt_cmpR _ _ _ _ _ _ _ _ op_ne (@pe_ix _ _ _ _ _ _ _ ix_tup (@pv _ 0 _ _ (by rfl) (by first | exact Or.inl rfl | exact Or.inr (Or.inl rfl) | exact Or.inr (Or.inr rfl)) (by decide) (by decide)) pe_int (fun _ _ => rfl)) pe_str (nomark _)) (@pw_or1 _ _ _ _ (@pt_cmpR _ _ _ _ _ _ _ _ op_notN (@pe_ix _ _ _ _ _ _ _ ix_tup (@pv _ 0 _ _ (by rfl) (by first | exact Or.inl rfl | exact Or.inr (Or.inl rfl) | exact Or.inr (Or.inr rfl)) (by decide) (by decide)) pe_int (fun _ _ => rfl)) pe_non (nomark _)))).pt (@pss_one _ _ _ ps_never) pss_nil) (@pss_one _ _ _ (@ps_ret _ _ _ _ (@pe_ix _ _ _ _ _ _ _ ix_tup (@pv _ 0 _ _ (by rfl) (by first | exact Or.inl rfl | exact Or.inr (Or.inl rfl) | exact Or.inr (Or.inr rfl)) (by decide) (by decide)) pe_int (fun _ _ => rfl))))), ?_⟩
  have e : Str.ofString "" = S [] := by decide +kernel
  walk_at "rd"
  exact ⟨_, SqT.of ha, _, rfl, rfl, iteN (by rw [e]; simp) ⟨_, SqT.of ha, _, rfl, iteN (by simp) ⟨_, SqT.of ha, _, rfl, q⟩⟩⟩
def sp_refuse_other_many (K : PySem.W.Frag) : Sp := fun vs H Q _ => ∃ (b : Addr) (us : List V) (n : Nat), vs = [.ref b, .int (n : Nat)] ∧ H b = some (.tup us) ∧ us.length = n ∧ Q .non H
theorem ok_refuse_other_many {C_NoteReader : Addr} (R : g.Raw "refuse_other_many" "refuse_other_many" s_refuse_other_many ["notes", "many"]) (b_len : g.mg "len" = none) : g.Fn (1) "refuse_other_many" ["notes", "many"] (sp_refuse_other_many g.K) := by
  refine R.fn sc_refuse_other_many (fun vs H Q E h => by obtain ⟨b, us, n, rfl, hb, hn, q⟩ := h; rfl) fun f_ cdv A outer s H vs Q E hr h => ?_
  obtain ⟨b, us, n, rfl, hb, hn, q⟩ := h
  refine ⟨_, (@pss_one _ _ _ (@ps_if _ _ _ _ _ _ _ _ (@pt_cmpR _ _ _ _ _ _ _ _ op_ne (@pe_bf _ _ _ _ _ _ _ _ _ _ b_len call_len_seq (@pa_cons _ _ _ _ _ (@pv _ 0 _ _ (by rfl) (by first | exact Or.inl rfl | exact Or.inr (Or.inl rfl) | exact Or.inr (Or.inr rfl)) (by decide) (by decide)) pa_nil (by rfl)) (by decide +kernel) (by rfl) (by rfl) (by decide) (by decide) (by rfl) (by rfl)) (@pv _ 1 _ _ (by rfl) (by first | exact Or.inl rfl | exact Or.inr (Or.inl rfl) | exact Or.inr (Or.inr rfl)) (by decide) (by decide)) (nomark _)) (@pss_one _ _ _ ps_never) pss_nil)), ?_⟩
  walk_at "rd"
  exact ⟨_, .inr (SqT.of hb), iteN (by simp [hn]) q⟩
def sp_number_drafted (K : PySem.W.Frag) : Sp := fun vs H Q _ => ∃ (i : Int) (v : V), vs = [v] ∧ Rd.NoteAt H (.leaf [] (dg i)) v ∧ i.natAbs < 10 ^ 60 ∧ ∀ H', Same H H' → Q (.int i) H'
theorem ok_number_drafted {k : Nat} {C_NoteReader : Addr} (R : g.Raw "number_drafted" "number_drafted" s_number_drafted ["note"]) (F_is_number_word : g.Fn k "is_number_word" ["word"] (sp_is_number_word g.K)) (F_lone_word : g.Fn k "lone_word" ["note"] (sp_lone_word g.K)) (b_int : g.mg "int" = none) : g.Fn (k + 1) "number_drafted" ["note"] (sp_number_drafted g.K) := by
  refine R.fn sc_number_drafted (fun vs H Q E h => by obtain ⟨i, v, rfl, hv, hi, q⟩ := h; rfl) fun f_ cdv A outer s H vs Q E hr h => ?_
  obtain ⟨i, v, rfl, hv, hi, q⟩ := h
  refine ⟨_, (@pss_cons _ _ _ _ _ (@ps_set _ _ (1) _ _ _ _ sc_number_drafted.nd rfl (Or.inl rfl) (@pe_fn _ _ _ _ _ _ _ _ _ _ _ _ F_lone_word hr (@pa_cons _ _ _ _ _ (@pv _ 0 _ _ (by rfl) (by first | exact Or.inl rfl | exact Or.inr (Or.inl rfl) | exact Or.inr (Or.inr rfl)) (by decide) (by decide)) pa_nil (by rfl)) (by omega) (by rfl) (by rfl) (by decide) (by rfl) (by rfl)) (by rfl) (by first | exact .inl rfl | exact .inr rfl | assumption)) (@pss_cons _ _ _ _ _ (@ps_if _ _ _ _ _ _ _ _ (@pt_not _ _ _ _ (@pt_val _ _ _ (@pe_fn _ _ _ _ _ _ _ _ _ _ _ _ F_is_number_word hr (@pa_cons _ _ _ _ _ (@pv _ 1 _ _ (by rfl) (by first | exact Or.inl rfl | exact Or.inr (Or.inl rfl) | exact Or.inr (Or.inr rfl)) (by decide) (by decide)) pa_nil (by rfl)) (by omega) (by rfl) (by rfl) (by decide) (by rfl) (by rfl)) (by intro _; rfl))) (@pss_one _ _ _ ps_never) pss_nil) (@pss_one _ _ _ (@ps_ret _ _ _ _ (@pe_bt _ _ _ _ _ _ _ _ _ _ b_int call_int_text (@pa_cons _ _ _ _ _ (@pv _ 1 _ _ (by rfl) (by first | exact Or.inl rfl | exact Or.inr (Or.inl rfl) | exact Or.inr (Or.inr rfl)) (by decide) (by decide)) pa_nil (by rfl)) (by decide +kernel) (by rfl) (by rfl) (by decide) (by decide) (by rfl) (by rfl)))))), ?_⟩
  walk_at "rd"
  refine ⟨dg i, v, rfl, hv, i, rfl, hi, fun H' s' => ⟨_, rfl, iteN (by decide) ?_⟩⟩
  have hl2 : (dg i).length ≤ 62 := (ok_dg hi).2.1
  exact ⟨_, rfl, i, dg_val (Nat.lt_trans hi (by decide +kernel)), by rw [S_len]; omega, q H' s'⟩
def sp_place_of_note (K : PySem.W.Frag) : Sp := fun vs H Q _ => ∃ (p : Nat) (v : V), vs = [v] ∧ Rd.NoteAt H (.leaf [] (dg (p : Int))) v ∧ p ≤ 20 ∧ ∀ H', Same H H' → Q (.int (p : Nat)) H'
theorem ok_place_of_note {k : Nat} {C_NoteReader : Addr} (R : g.Raw "place_of_note" "place_of_note" s_place_of_note ["note"]) (F_number_drafted : g.Fn k "number_drafted" ["note"] (sp_number_drafted g.K)) (c_LAST_PLACE : g.Con "LAST_PLACE" (.int 20)) : g.Fn (k + 1) "place_of_note" ["note"] (sp_place_of_note g.K) := by
  refine R.fn sc_place_of_note (fun vs H Q E h => by obtain ⟨p, v, rfl, hv, hp, q⟩ := h; rfl) fun f_ cdv A outer s H vs Q E hr h => ?_
  obtain ⟨p, v, rfl, hv, hp, q⟩ := h
  refine ⟨_, (@pss_cons _ _ _ _ _ (@ps_set _ _ (1) _ _ _ _ sc_place_of_note.nd rfl (Or.inl rfl) (@pe_fn _ _ _ _ _ _ _ _ _ _ _ _ F_number_drafted hr (@pa_cons _ _ _ _ _ (@pv _ 0 _ _ (by rfl) (by first | exact Or.inl rfl | exact Or.inr (Or.inl rfl) | exact Or.inr (Or.inr rfl)) (by decide) (by decide)) pa_nil (by rfl)) (by omega) (by rfl) (by rfl) (by decide) (by rfl) (by rfl)) (by rfl) (by first | exact .inl rfl | exact .inr rfl | assumption)) (@pss_cons _ _ _ _ _ (@ps_if _ _ _ _ _ _ _ _ (@pt_not _ _ _ _ (@pt_chain _ _ _ _ _ _ _ _ _ _ _ _ op_le op_le pe_int (@pv _ 1 _ _ (by rfl) (by first | exact Or.inl rfl | exact Or.inr (Or.inl rfl) | exact Or.inr (Or.inr rfl)) (by decide) (by decide)) (@pe_gc _ _ _ _ _ c_LAST_PLACE (by rfl) (by rfl) (by decide)) (by with_unfolding_all rfl))) (@pss_one _ _ _ ps_never) pss_nil) (@pss_one _ _ _ (@ps_ret _ _ _ _ (@pv _ 1 _ _ (by rfl) (by first | exact Or.inl rfl | exact Or.inr (Or.inl rfl) | exact Or.inr (Or.inr rfl)) (by decide) (by decide)))))), ?_⟩
  walk_at "rd"
  refine ⟨(p : Int), v, rfl, hv, by rw [Int.natAbs_natCast]; exact Nat.lt_of_le_of_lt hp (by decide), fun H' s' => ⟨_, rfl, iteY (by omega) ⟨_, rfl, iteN (by omega) (q H' s')⟩⟩⟩
def sp_term_of_word (K : PySem.W.Frag) : Sp := fun vs H Q _ => ∃ t : Tm, vs = [.str (S (tt t))] ∧ ((∃ i, t = .num i) ∨ t = .here) ∧ Gd t ∧ ∀ v H', Same H H' → TA H' t v → Q v H'
theorem ok_term_of_word {k : Nat} {C_NoteReader : Addr} (R : g.Raw "term_of_word" "term_of_word" s_term_of_word ["word"]) (F_is_number_word : g.Fn k "is_number_word" ["word"] (sp_is_number_word g.K)) (b_int : g.mg "int" = none) : g.Fn (k + 1) "term_of_word" ["word"] (sp_term_of_word g.K) := by
  refine R.fn sc_term_of_word (fun vs H Q E h => by obtain ⟨t, rfl, ht, hg, q⟩ := h; rfl) fun f_ cdv A outer s H vs Q E hr h => ?_
  obtain ⟨t, rfl, ht, hg, q⟩ := h
  refine ⟨_, (@pss_cons _ _ _ _ _ (@ps_if _ _ _ _ _ _ _ _ (@pt_cmpR _ _ _ _ _ _ _ _ op_eq (@pv _ 0 _ _ (by rfl) (by first | exact Or.inl rfl | exact Or.inr (Or.inl rfl) | exact Or.inr (Or.inr rfl)) (by decide) (by decide)) pe_str (nomark _)) (@pss_one _ _ _ (@ps_ret _ _ _ _ (@pe_tup _ _ _ _ _ (@pa_cons _ _ _ _ _ pe_str (@pa_cons _ _ _ _ _ (@pe_tup _ _ _ _ _ pa_nil) pa_nil (star_tup _ _ _ _ _)) (by rfl))))) pss_nil) (@pss_cons _ _ _ _ _ (@ps_if _ _ _ _ _ _ _ _ (@pt_val _ _ _ (@pe_fn _ _ _ _ _ _ _ _ _ _ _ _ F_is_number_word hr (@pa_cons _ _ _ _ _ (@pv _ 0 _ _ (by rfl) (by first | exact Or.inl rfl | exact Or.inr (Or.inl rfl) | exact Or.inr (Or.inr rfl)) (by decide) (by decide)) pa_nil (by rfl)) (by omega) (by rfl) (by rfl) (by decide) (by rfl) (by rfl)) (by intro _; rfl)) (@pss_one _ _ _ (@ps_ret _ _ _ _ (@pe_tup _ _ _ _ _ (@pa_cons _ _ _ _ _ pe_str (@pa_cons _ _ _ _ _ (@pe_bt _ _ _ _ _ _ _ _ _ _ b_int call_int_text (@pa_cons _ _ _ _ _ (@pv _ 0 _ _ (by rfl) (by first | exact Or.inl rfl | exact Or.inr (Or.inl rfl) | exact Or.inr (Or.inr rfl)) (by decide) (by decide)) pa_nil (by rfl)) (by decide +kernel) (by rfl) (by rfl) (by decide) (by decide) (by rfl) (by rfl)) pa_nil (by rfl)) (by rfl))))) pss_nil) (@pss_one _ _ _ ps_never))), ?_⟩
  have eh : Str.ofString "here" = S (mc .here) := ms_mc .here
  rcases ht with ⟨i, rfl⟩ | rfl
  · have hi : i.natAbs < 10 ^ 60 := hg
    have et : tt (.num i) = dg i := by simp only [tt, nt, Rd.txt, head0]
    have hl2 : (dg i).length ≤ 62 := (ok_dg hi).2.1
    rw [et]
    walk_at "rd"
    refine iteN (fun z => ?_) ⟨i, rfl, hi, fun H' s' => ⟨_, rfl, iteT ⟨i, dg_val (Nat.lt_trans hi (by decide +kernel)), by rw [S_len]; omega, few (by decide), fun p hp => q _ _ (s'.trans (.upd_new hp _)) ⟨p, rfl, upd_same⟩⟩⟩⟩
    rw [eh] at z
    have z := S_inj z
    have e2 : mc .here = [104, 101, 114, 101] := by decide +kernel
    rw [e2] at z
    rcases dg_two hi with e | ⟨c, r, h1, h2, _, _, e | e⟩ <;> rw [e] at z <;> simp at z
    omega
  · have et : tt .here = mc .here := by simp only [tt, nt, Rd.txt, head0]
    rw [et]
    walk_at "rd"
    exact iteY eh.symm ⟨few (by decide), fun p hp => ⟨few (by decide), fun p1 hp1 => q _ _ ((Same.upd_new hp _).trans (.upd_new hp1 _)) ⟨p1, p, rfl, upd_same, (Same.upd_new hp1 _) _ _ upd_same⟩⟩⟩
end KW
set_option maxHeartbeats 8000000
namespace KW
open PySem L2

variable {g : Gx}
variable {C : Addr}
local macro_rules | `(tactic| walk_at "sd") => `(tactic| simp (config := { failIfUnchanged := false, maxSteps := 10000000 }) only [l_num, l_here, l_count, l_sum, l_not, l_turned, l_plus, l_times, l_less, l_same, l_both, l_each, l_joined, l_part, l_when, ms_inj, in_cons, in_nil, Bool.or_false, Bool.false_or, Bool.or_self, Bool.true_or, Bool.or_true, reduceCtorEq, V.str.injEq, List.mem_cons, List.not_mem_nil, or_false, false_or, or_true, true_or, or_self, not_true_eq_false, not_false_eq_true, if_true, if_false, ite_true, ite_false, decide_true, decide_false, Bool.false_eq_true, and_true, true_and, and_false, false_and, false_implies, true_implies])

local macro_rules | `(tactic| walk_at "gn") => `(tactic| simp only [gName, List.set_cons_zero, List.set_cons_succ])

local macro_rules | `(tactic| walk_at "rd") => `(tactic| simp (config := { failIfUnchanged := false, maxSteps := 10000000 }) only [L2.start, cxOf_K, nox_K, List.map_cons, List.map_nil, List.length_cons, List.length_nil, List.cons_append, List.nil_append, List.replicate_succ, List.replicate_zero, Nat.zero_add, Nat.reduceAdd, Nat.reduceSub, Nat.sub_self, tSeq, tIfS, tTest, tOp, tC, tVar, rI0, rI, rU, tUn, tRet, tRetN, tDrop, tNext, tBreak, tCont, tAsg, gName, gNil, gCons, tCons, tNil, tCB, tCall, tTry, tTryAs, tRaise, sFld, tFld, tMake, tMeth, Ends.gone, caught_K, tB, tAnd, tOr, tNot, tAndV, tOrV, tNotV, tIf, tChain, tNoPart, tPart, tSl, tNever, tAug, rIxL, rIxT, rSlL, tLst, tTup, gTup, tRev, tLZ, tConT, tDict0, rBits, rFind, rIn, tBM, tBM0, rAppend, rReverse, rEq, rNe, scal_ii, scal_ss, rCat, rSetL, gSub, ipI, capSt, List.getD_cons_zero, List.getD_cons_succ, decide_true, not_true_eq_false, not_false_eq_true,
  exists_eq_left', exists_eq_left, exists_eq', exists_eq, exists_and_left, and_assoc, Option.some.injEq, V.int.injEq, V.bl.injEq, V.ref.injEq, V.str.injEq, List.getElem?_cons_zero, List.getElem?_cons_succ, List.set_cons_zero, List.set_cons_succ, List.cons.injEq, and_true, true_and, List.append_nil, decide_eq_true_eq, Bool.not_eq_true', decide_eq_false_iff_not, Bool.not_not, Bool.not_true, Bool.not_false, Bool.true_eq_false, Bool.false_eq_true, if_true, if_false, ite_true, ite_false])

/-- a term of a note, so many deep -/
def sp_ton (K : PySem.W.Frag) (m : Nat) : Sp := fun vs H Q _ => ∃ (t : Tm) (v : V), vs = [v] ∧ Rd.NoteAt H (nt t) v ∧ Gd t ∧ dp t < m ∧ ∀ v' H', Same H H' → TA H' t v' → Q v' H'
theorem no_ton {K : PySem.W.Frag} {vs : List V} {H : Hp} {Q : VK} {E : XK} (h : sp_ton K 0 vs H Q E) : False := by
  obtain ⟨t, v, _, _, _, h, _⟩ := h
  omega
def sp_part_of_notes (K : PySem.W.Frag) (m : Nat) : Sp := fun vs H Q _ => ∃ (b : Addr) (w u : V) (t : Tm) (p : Nat), vs = [.ref b] ∧ H b = some (.tup [w, u]) ∧ Rd.NoteAt H (nt t) w ∧ Rd.NoteAt H (.leaf [] (dg (p : Int))) u ∧ Gd t ∧ p ≤ 20 ∧ dp t < m ∧ ∀ v' H', Same H H' → TA H' (.part t p) v' → Q v' H'
theorem ok_part_of_notes {k : Nat} {C_NoteReader : Addr} (R : g.Raw "part_of_notes" "part_of_notes" s_part_of_notes ["notes"]) (F_refuse_other_many : g.Fn k "refuse_other_many" ["notes", "many"] (sp_refuse_other_many g.K)) (F_place_of_note : g.Fn k "place_of_note" ["note"] (sp_place_of_note g.K)) (F_term_of_note : g.Fn k "term_of_note" ["note"] (sp_ton g.K m)) : g.Fn (k + 1) "part_of_notes" ["notes"] (sp_part_of_notes g.K m) := by
  refine R.fn sc_part_of_notes (fun vs H Q E h => by obtain ⟨b, w, u, t, p, rfl, hb, hw, hu, hg, hp, hd, q⟩ := h; rfl) fun f_ cdv A outer s H vs Q E hr h => ?_
  obtain ⟨b, w, u, t, p, rfl, hb, hw, hu, hg, hp, hd, q⟩ := h
  refine ⟨_, (@pss_cons _ _ _ _ _ (@ps_expr _ _ _ _ (@pe_fn _ _ _ _ _ _ _ _ _ _ _ _ F_refuse_other_many hr (@pa_cons _ _ _ _ _ (@pv _ 0 _ _ (by rfl) (by first | exact Or.inl rfl | exact Or.inr (Or.inl rfl) | exact Or.inr (Or.inr rfl)) (by decide) (by decide)) (@pa_cons _ _ _ _ _ pe_int pa_nil (by rfl)) (by rfl)) (by omega) (by rfl) (by rfl) (by decide) (by rfl) (by rfl)) (by rfl)) (@pss_one _ _ _ (@ps_ret _ _ _ _ (@pe_tup _ _ _ _ _ (@pa_cons _ _ _ _ _ pe_str (@pa_cons _ _ _ _ _ (@pe_tup _ _ _ _ _ (@pa_cons _ _ _ _ _ (@pe_fn _ _ _ _ _ _ _ _ _ _ _ _ F_term_of_note hr (@pa_cons _ _ _ _ _ (@pe_ix _ _ _ _ _ _ _ ix_tup (@pv _ 0 _ _ (by rfl) (by first | exact Or.inl rfl | exact Or.inr (Or.inl rfl) | exact Or.inr (Or.inr rfl)) (by decide) (by decide)) pe_int (fun _ _ => rfl)) pa_nil (by rfl)) (by omega) (by rfl) (by rfl) (by decide) (by rfl) (by rfl)) (@pa_cons _ _ _ _ _ (@pe_fn _ _ _ _ _ _ _ _ _ _ _ _ F_place_of_note hr (@pa_cons _ _ _ _ _ (@pe_ix _ _ _ _ _ _ _ ix_tup (@pv _ 0 _ _ (by rfl) (by first | exact Or.inl rfl | exact Or.inr (Or.inl rfl) | exact Or.inr (Or.inr rfl)) (by decide) (by decide)) pe_int (fun _ _ => rfl)) pa_nil (by rfl)) (by omega) (by rfl) (by rfl) (by decide) (by rfl) (by rfl)) pa_nil (by rfl)) (by rfl))) pa_nil (star_tup _ _ _ _ _)) (by rfl)))))), ?_⟩
  walk_at "rd"
  refine ⟨b, _, 2, rfl, hb, rfl, ?_⟩
  refine ⟨_, SqT.of hb, _, rfl, t, w, rfl, hw, hg, hd, fun v1 H1 s1 t1 => ?_⟩
  refine ⟨_, SqT.of (s1 _ _ hb), _, rfl, p, u, rfl, NoteAtKeep s1 hu, hp, fun H2 s2 => ⟨few (by decide), fun p1 hp1 => ⟨few (by decide), fun p2 hp2 => ?_⟩⟩⟩
  have u1 := Same.upd_new hp1 (.tup [v1, .int (p : Nat)])
  have u2 := Same.upd_new hp2 (.tup [.str (Str.ofString "part"), .ref p1])
  exact q _ _ ((s1.trans s2).trans (u1.trans u2)) ⟨p2, p1, v1, rfl, upd_same, u2 _ _ upd_same, t1.keep (.of (s2.trans (u1.trans u2)))⟩
def sp_one_of_notes (K : PySem.W.Frag) (m : Nat) : Sp := fun vs H Q _ => ∃ (b : Addr) (w : V) (mk : Mk) (t : Tm), vs = [.str (ms mk), .ref b] ∧ H b = some (.tup [w]) ∧ Rd.NoteAt H (nt t) w ∧ Gd t ∧ dp t < m ∧ ∀ v' H', Same H H' → TA H' (.one mk t) v' → Q v' H'
theorem ok_one_of_notes {k : Nat} {C_NoteReader : Addr} (R : g.Raw "one_of_notes" "one_of_notes" s_one_of_notes ["mark", "notes"]) (F_refuse_other_many : g.Fn k "refuse_other_many" ["notes", "many"] (sp_refuse_other_many g.K)) (F_term_of_note : g.Fn k "term_of_note" ["note"] (sp_ton g.K m)) : g.Fn (k + 1) "one_of_notes" ["mark", "notes"] (sp_one_of_notes g.K m) := by
  refine R.fn sc_one_of_notes (fun vs H Q E h => by obtain ⟨b, w, mk, t, rfl, hb, hw, hg, hd, q⟩ := h; rfl) fun f_ cdv A outer s H vs Q E hr h => ?_
  obtain ⟨b, w, mk, t, rfl, hb, hw, hg, hd, q⟩ := h
  refine ⟨_, (@pss_cons _ _ _ _ _ (@ps_expr _ _ _ _ (@pe_fn _ _ _ _ _ _ _ _ _ _ _ _ F_refuse_other_many hr (@pa_cons _ _ _ _ _ (@pv _ 1 _ _ (by rfl) (by first | exact Or.inl rfl | exact Or.inr (Or.inl rfl) | exact Or.inr (Or.inr rfl)) (by decide) (by decide)) (@pa_cons _ _ _ _ _ pe_int pa_nil (by rfl)) (by rfl)) (by omega) (by rfl) (by rfl) (by decide) (by rfl) (by rfl)) (by rfl)) (@pss_one _ _ _ (@ps_ret _ _ _ _ (@pe_tup _ _ _ _ _ (@pa_cons _ _ _ _ _ (@pv _ 0 _ _ (by rfl) (by first | exact Or.inl rfl | exact Or.inr (Or.inl rfl) | exact Or.inr (Or.inr rfl)) (by decide) (by decide)) (@pa_cons _ _ _ _ _ (@pe_fn _ _ _ _ _ _ _ _ _ _ _ _ F_term_of_note hr (@pa_cons _ _ _ _ _ (@pe_ix _ _ _ _ _ _ _ ix_tup (@pv _ 1 _ _ (by rfl) (by first | exact Or.inl rfl | exact Or.inr (Or.inl rfl) | exact Or.inr (Or.inr rfl)) (by decide) (by decide)) pe_int (fun _ _ => rfl)) pa_nil (by rfl)) (by omega) (by rfl) (by rfl) (by decide) (by rfl) (by rfl)) pa_nil (by rfl)) (by rfl)))))), ?_⟩
  walk_at "rd"
  refine ⟨b, _, 1, rfl, hb, rfl, ?_⟩
  refine ⟨_, SqT.of hb, _, rfl, t, w, rfl, hw, hg, hd, fun v1 H1 s1 t1 => ⟨few (by decide), fun p1 hp1 => ?_⟩⟩
  exact q _ _ (s1.trans (.upd_new hp1 _)) ⟨p1, v1, rfl, upd_same, t1.keep (.of (.upd_new hp1 _))⟩
def sp_several_of_notes (K : PySem.W.Frag) (m : Nat) : Sp := fun vs H Q _ => ∃ (b : Addr) (ws : List V) (mk : Mk) (ts : List Tm), vs = [.str (ms mk), .ref b, .int (ts.length : Nat)] ∧ H b = some (.tup ws) ∧ ws.length = ts.length ∧ ts.length ≤ 3 ∧ (∀ (i : Nat) w t, ws[i]? = some w → ts[i]? = some t → Rd.NoteAt H (nt t) w ∧ Gd t ∧ dp t < m) ∧ ∀ (p q : Addr) (us : List V) H', Same H H' → H' q = some (.tup [.str (ms mk), .ref p]) → H' p = some (.tup us) → us.length = ts.length → (∀ (i : Nat) u t, us[i]? = some u → ts[i]? = some t → TA H' t u) → Q (.ref q) H'
theorem ok_several_of_notes {k : Nat} {C_NoteReader : Addr} (R : g.Raw "several_of_notes" "several_of_notes" s_several_of_notes ["mark", "notes", "many"]) (F_refuse_other_many : g.Fn k "refuse_other_many" ["notes", "many"] (sp_refuse_other_many g.K)) (F_term_of_note : g.Fn k "term_of_note" ["note"] (sp_ton g.K m)) (b_tuple : g.mg "tuple" = none) : g.Fn (k + 1) "several_of_notes" ["mark", "notes", "many"] (sp_several_of_notes g.K m) := by
  refine R.fn sc_several_of_notes (fun vs H Q E h => by obtain ⟨b, ws, mk, ts, rfl, hb, hwl, htl, hin, q⟩ := h; rfl) fun f_ cdv A outer s H vs Q E hr h => ?_
  obtain ⟨b, ws, mk, ts, rfl, hb, hwl, htl, hin, q⟩ := h
  refine ⟨_, (@pss_cons _ _ _ _ _ (@ps_expr _ _ _ _ (@pe_fn _ _ _ _ _ _ _ _ _ _ _ _ F_refuse_other_many hr (@pa_cons _ _ _ _ _ (@pv _ 1 _ _ (by rfl) (by first | exact Or.inl rfl | exact Or.inr (Or.inl rfl) | exact Or.inr (Or.inr rfl)) (by decide) (by decide)) (@pa_cons _ _ _ _ _ (@pv _ 2 _ _ (by rfl) (by first | exact Or.inl rfl | exact Or.inr (Or.inl rfl) | exact Or.inr (Or.inr rfl)) (by decide) (by decide)) pa_nil (by rfl)) (by rfl)) (by omega) (by rfl) (by rfl) (by decide) (by rfl) (by rfl)) (by rfl)) (@pss_one _ _ _ (@ps_ret _ _ _ _ (@pe_tup _ _ _ _ _ (@pa_cons _ _ _ _ _ (@pv _ 0 _ _ (by rfl) (by first | exact Or.inl rfl | exact Or.inr (Or.inl rfl) | exact Or.inr (Or.inr rfl)) (by decide) (by decide)) (@pa_cons _ _ _ _ _ (@pe_bt _ _ _ _ _ _ _ _ _ _ b_tuple call_tuple_of (@pa_cons _ _ _ _ _ (@pe_lc _ _ _ _ _ _ _ ([none]) ((["note"] : List Str)) _ (gName 0) _ _ (.own .nil) rfl (@pi_tup _ _ _ _ (@pv _ 1 _ _ (by rfl) (by first | exact Or.inl rfl | exact Or.inr (Or.inl rfl) | exact Or.inr (Or.inr rfl)) (by decide) (by decide))) (fun cl C s₀ H₀ fp pn => (@pg_name _ _ (0) _ (show List.Nodup (["note"] : List Str) by decide +kernel) rfl (Or.inl rfl) (Or.inr rfl))) (fun cl C s₀ H₀ fp pn => pts_nil) (fun cl C s₀ H₀ fp pn => (@pe_fn _ _ _ _ _ _ _ _ _ _ _ _ F_term_of_note hr (@pa_cons _ _ _ _ _ (@pv _ 0 _ _ (by rfl) (by first | exact Or.inl rfl | exact Or.inr (Or.inl rfl) | exact Or.inr (Or.inr rfl)) (by decide) (by decide)) pa_nil (by rfl)) (by omega) (by rfl) (by rfl) (by decide) (by rfl) (by rfl))) (by intro x hx; simp at hx) (by rfl) (by decide) (by decide +kernel) (by intro _; rfl)) pa_nil (by rfl)) (by decide +kernel) (by rfl) (by rfl) (by decide) (by decide) (by rfl) (by rfl)) pa_nil (by rfl)) (by rfl)))))), ?_⟩
  walk_at "rd"
  refine ⟨b, _, ts.length, rfl, hb, hwl, ?_⟩
  refine tLC_relDT (K := g.K) (b := b) (xs := ws) (fun D i y H' => ∀ t, ts[i]? = some t → TA H' t y) (fun D i y H' H'' h s t ht => (h t ht).keep (.of s)) (fun D i y H' zs zs' h hD t ht => (h t ht).keep (Tps.upd_lst hD)) (fun R r => by walk_at "rd"; exact r) (SqT.of hb) (by omega) ?_ ?_
  · intro D i x H' zs hx sm hD R r
    have hi := (List.getElem?_eq_some_iff.mp hx).1
    have hti : ts[i]? = some (ts[i]'(by omega)) := List.getElem?_eq_getElem _
    obtain ⟨h1, h2, h3⟩ := hin i x _ hx hti
    walk_at "rd"
    refine ⟨_, x, rfl, NoteAtKeep sm h1, h2, h3, fun v' H'' s' h' => r v' H'' s' fun t ht => ?_⟩
    rw [hti] at ht
    cases ht
    exact h'
  · intro D ys H' hD sm hd hyl hys
    refine ⟨_, rfl, _, .inl ⟨SqL.of hd, fun p hp => ⟨few (by decide), fun p1 hp1 => ?_⟩⟩⟩
    have u1 := Same.upd_new hp (.tup ys)
    have u2 := Same.upd_new hp1 (.tup [.str (ms mk), .ref p])
    exact q p p1 ys _ (sm.trans (u1.trans u2)) upd_same (u2 _ _ upd_same) (by omega) fun i u t h1 h2 => (hys i u h1 t h2).keep (.of (u1.trans u2))
end KW
set_option maxHeartbeats 8000000
namespace KW
open PySem L2

variable {g : Gx}
variable {C : Addr}
local macro_rules | `(tactic| walk_at "sd") => `(tactic| simp (config := { failIfUnchanged := false, maxSteps := 10000000 }) only [l_num, l_here, l_count, l_sum, l_not, l_turned, l_plus, l_times, l_less, l_same, l_both, l_each, l_joined, l_part, l_when, ms_inj, in_cons, in_nil, Bool.or_false, Bool.false_or, Bool.or_self, Bool.true_or, Bool.or_true, reduceCtorEq, V.str.injEq, List.mem_cons, List.not_mem_nil, or_false, false_or, or_true, true_or, or_self, not_true_eq_false, not_false_eq_true, if_true, if_false, ite_true, ite_false, decide_true, decide_false, Bool.false_eq_true, and_true, true_and, and_false, false_and, false_implies, true_implies])

local macro_rules | `(tactic| walk_at "gn") => `(tactic| simp only [gName, List.set_cons_zero, List.set_cons_succ])

local macro_rules | `(tactic| walk_at "rd") => `(tactic| simp (config := { failIfUnchanged := false, maxSteps := 10000000 }) only [L2.start, cxOf_K, nox_K, List.map_cons, List.map_nil, List.length_cons, List.length_nil, List.cons_append, List.nil_append, List.replicate_succ, List.replicate_zero, Nat.zero_add, Nat.reduceAdd, Nat.reduceSub, Nat.sub_self, tSeq, tIfS, tTest, tOp, tC, tVar, rI0, rI, rU, tUn, tRet, tRetN, tDrop, tNext, tBreak, tCont, tAsg, gName, gNil, gCons, tCons, tNil, tCB, tCall, tTry, tTryAs, tRaise, sFld, tFld, tMake, tMeth, Ends.gone, caught_K, tB, tAnd, tOr, tNot, tAndV, tOrV, tNotV, tIf, tChain, tNoPart, tPart, tSl, tNever, tAug, rIxL, rIxT, rSlL, tLst, tTup, gTup, tRev, tLZ, tConT, tDict0, rBits, rFind, rIn, tBM, tBM0, rAppend, rReverse, rEq, rNe, scal_ii, scal_ss, rCat, rSetL, gSub, ipI, capSt, List.getD_cons_zero, List.getD_cons_succ, decide_true, not_true_eq_false, not_false_eq_true,
  exists_eq_left', exists_eq_left, exists_eq', exists_eq, exists_and_left, and_assoc, Option.some.injEq, V.int.injEq, V.bl.injEq, V.ref.injEq, V.str.injEq, List.getElem?_cons_zero, List.getElem?_cons_succ, List.set_cons_zero, List.set_cons_succ, List.cons.injEq, and_true, true_and, List.append_nil, decide_eq_true_eq, Bool.not_eq_true', decide_eq_false_iff_not, Bool.not_not, Bool.not_true, Bool.not_false, Bool.true_eq_false, Bool.false_eq_true, if_true, if_false, ite_true, ite_false])

theorem ok_term_of_note {k : Nat} {C_NoteReader : Addr} (R : g.Raw "term_of_note" "term_of_note" s_term_of_note ["note"]) (F_part_of_notes : g.Fn k "part_of_notes" ["notes"] (sp_part_of_notes g.K m)) (F_one_of_notes : g.Fn k "one_of_notes" ["mark", "notes"] (sp_one_of_notes g.K m)) (F_several_of_notes : g.Fn k "several_of_notes" ["mark", "notes", "many"] (sp_several_of_notes g.K m)) (F_term_of_word : g.Fn k "term_of_word" ["word"] (sp_term_of_word g.K)) (c_OF_ONE_TERM : g.ConT "OF_ONE_TERM" ([.str "count", .str "sum", .str "not", .str "turned"])) (c_OF_TWO_TERMS : g.ConT "OF_TWO_TERMS" ([.str "plus", .str "times", .str "less", .str "same", .str "both", .str "each", .str "joined"])) : g.Fn (k + 1) "term_of_note" ["note"] (sp_ton g.K (m + 1)) := by
  refine R.fn sc_term_of_note (fun vs H Q E h => by obtain ⟨t, v, rfl, hv, hg, hd, q⟩ := h; rfl) fun f_ cdv A outer s H vs Q E hr h => ?_
  obtain ⟨t, v, rfl, hv, hg, hd, q⟩ := h
  refine ⟨_, (@pss_cons _ _ _ _ _ (@ps_if _ _ _ _ _ _ _ _ (@pt_cmpR _ _ _ _ _ _ _ _ op_ne (@pe_ix _ _ _ _ _ _ _ ix_tup (@pv _ 0 _ _ (by rfl) (by first | exact Or.inl rfl | exact Or.inr (Or.inl rfl) | exact Or.inr (Or.inr rfl)) (by decide) (by decide)) pe_int (fun _ _ => rfl)) pe_str (nomark _)) (@pss_one _ _ _ ps_never) pss_nil) (@pss_cons _ _ _ _ _ (@ps_set _ _ (1) _ _ _ _ sc_term_of_note.nd rfl (Or.inl rfl) (@pe_ix _ _ _ _ _ _ _ ix_tup (@pv _ 0 _ _ (by rfl) (by first | exact Or.inl rfl | exact Or.inr (Or.inl rfl) | exact Or.inr (Or.inr rfl)) (by decide) (by decide)) pe_int (fun _ _ => rfl)) (by rfl) (by first | exact .inl rfl | exact .inr rfl | assumption)) (@pss_cons _ _ _ _ _ (@ps_set _ _ (2) _ _ _ _ sc_term_of_note.nd rfl (Or.inl rfl) (@pe_ix _ _ _ _ _ _ _ ix_tup (@pv _ 0 _ _ (by rfl) (by first | exact Or.inl rfl | exact Or.inr (Or.inl rfl) | exact Or.inr (Or.inr rfl)) (by decide) (by decide)) pe_int (fun _ _ => rfl)) (by rfl) (by first | exact .inl rfl | exact .inr rfl | assumption)) (@pss_cons _ _ _ _ _ (@ps_if _ _ _ _ _ _ _ _ (@pt_cmpR _ _ _ _ _ _ _ _ op_isN (@pv _ 2 _ _ (by rfl) (by first | exact Or.inl rfl | exact Or.inr (Or.inl rfl) | exact Or.inr (Or.inr rfl)) (by decide) (by decide)) pe_non (nomark _)) (@pss_one _ _ _ (@ps_ret _ _ _ _ (@pe_fn _ _ _ _ _ _ _ _ _ _ _ _ F_term_of_word hr (@pa_cons _ _ _ _ _ (@pv _ 1 _ _ (by rfl) (by first | exact Or.inl rfl | exact Or.inr (Or.inl rfl) | exact Or.inr (Or.inr rfl)) (by decide) (by decide)) pa_nil (by rfl)) (by omega) (by rfl) (by rfl) (by decide) (by rfl) (by rfl)))) pss_nil) (@pss_cons _ _ _ _ _ (@ps_if _ _ _ _ _ _ _ _ (@pt_cmpR _ _ _ _ _ _ _ _ op_eq (@pv _ 1 _ _ (by rfl) (by first | exact Or.inl rfl | exact Or.inr (Or.inl rfl) | exact Or.inr (Or.inr rfl)) (by decide) (by decide)) pe_str (nomark _)) (@pss_one _ _ _ (@ps_ret _ _ _ _ (@pe_fn _ _ _ _ _ _ _ _ _ _ _ _ F_part_of_notes hr (@pa_cons _ _ _ _ _ (@pv _ 2 _ _ (by rfl) (by first | exact Or.inl rfl | exact Or.inr (Or.inl rfl) | exact Or.inr (Or.inr rfl)) (by decide) (by decide)) pa_nil (by rfl)) (by omega) (by rfl) (by rfl) (by decide) (by rfl) (by rfl)))) pss_nil) (@pss_cons _ _ _ _ _ (@ps_if _ _ _ _ _ _ _ _ (@pt_cmpR _ _ _ _ _ _ _ _ op_in_seq (@pv _ 1 _ _ (by rfl) (by first | exact Or.inl rfl | exact Or.inr (Or.inl rfl) | exact Or.inr (Or.inr rfl)) (by decide) (by decide)) (@pe_gt _ _ _ _ _ c_OF_ONE_TERM (by rfl) (by rfl) (by decide)) rfl) (@pss_one _ _ _ (@ps_ret _ _ _ _ (@pe_fn _ _ _ _ _ _ _ _ _ _ _ _ F_one_of_notes hr (@pa_cons _ _ _ _ _ (@pv _ 1 _ _ (by rfl) (by first | exact Or.inl rfl | exact Or.inr (Or.inl rfl) | exact Or.inr (Or.inr rfl)) (by decide) (by decide)) (@pa_cons _ _ _ _ _ (@pv _ 2 _ _ (by rfl) (by first | exact Or.inl rfl | exact Or.inr (Or.inl rfl) | exact Or.inr (Or.inr rfl)) (by decide) (by decide)) pa_nil (by rfl)) (by rfl)) (by omega) (by rfl) (by rfl) (by decide) (by rfl) (by rfl)))) pss_nil) (@pss_cons _ _ _ _ _ (@ps_if _ _ _ _ _ _ _ _ (@pt_cmpR _ _ _ _ _ _ _ _ op_in_seq (@pv _ 1 _ _ (by rfl) (by first | exact Or.inl rfl | exact Or.inr (Or.inl rfl) | exact Or.inr (Or.inr rfl)) (by decide) (by decide)) (@pe_gt _ _ _ _ _ c_OF_TWO_TERMS (by rfl) (by rfl) (by decide)) rfl) (@pss_one _ _ _ (@ps_ret _ _ _ _ (@pe_fn _ _ _ _ _ _ _ _ _ _ _ _ F_several_of_notes hr (@pa_cons _ _ _ _ _ (@pv _ 1 _ _ (by rfl) (by first | exact Or.inl rfl | exact Or.inr (Or.inl rfl) | exact Or.inr (Or.inr rfl)) (by decide) (by decide)) (@pa_cons _ _ _ _ _ (@pv _ 2 _ _ (by rfl) (by first | exact Or.inl rfl | exact Or.inr (Or.inl rfl) | exact Or.inr (Or.inr rfl)) (by decide) (by decide)) (@pa_cons _ _ _ _ _ pe_int pa_nil (by rfl)) (by rfl)) (by rfl)) (by omega) (by rfl) (by rfl) (by decide) (by rfl) (by rfl)))) pss_nil) (@pss_cons _ _ _ _ _ (@ps_if _ _ _ _ _ _ _ _ (@pt_cmpR _ _ _ _ _ _ _ _ op_eq (@pv _ 1 _ _ (by rfl) (by first | exact Or.inl rfl | exact Or.inr (Or.inl rfl) | exact Or.inr (Or.inr rfl)) (by decide) (by decide)) pe_str (nomark _)) (@pss_one _ _ _ (@ps_ret _ _ _ _ (@pe_fn _ _ _ _ _ _ _ _ _ _ _ _ F_several_of_notes hr (@pa_cons _ _ _ _ _ (@pv _ 1 _ _ (by rfl) (by first | exact Or.inl rfl | exact Or.inr (Or.inl rfl) | exact Or.inr (Or.inr rfl)) (by decide) (by decide)) (@pa_cons _ _ _ _ _ (@pv _ 2 _ _ (by rfl) (by first | exact Or.inl rfl | exact Or.inr (Or.inl rfl) | exact Or.inr (Or.inr rfl)) (by decide) (by decide)) (@pa_cons _ _ _ _ _ pe_int pa_nil (by rfl)) (by rfl)) (by rfl)) (by omega) (by rfl) (by rfl) (by decide) (by rfl) (by rfl)))) pss_nil) (@pss_one _ _ _ ps_never))))))))), ?_⟩
  have e0 : Str.ofString "" = S [] := by decide +kernel
  walk_at "rd"
  cases t with
  | num i =>
    obtain ⟨a, rfl, ha⟩ := hv
    exact ⟨a, rfl, _, SqT.of ha, _, rfl, rfl, iteN (by rw [e0]; simp) ⟨a, rfl, _, SqT.of ha, _, rfl, a, rfl, _, SqT.of ha, _, rfl, iteY rfl ⟨.num i, by simp only [tt, nt, Rd.txt, head0], .inl ⟨i, rfl⟩, hg, q⟩⟩⟩
  | here =>
    obtain ⟨a, rfl, ha⟩ := hv
    exact ⟨a, rfl, _, SqT.of ha, _, rfl, rfl, iteN (by rw [e0]; simp) ⟨a, rfl, _, SqT.of ha, _, rfl, a, rfl, _, SqT.of ha, _, rfl, iteY rfl ⟨.here, by simp only [tt, nt, Rd.txt, head0], .inr rfl, hg, q⟩⟩⟩
  | part t p =>
    obtain ⟨a, b, vs, rfl, ha, hb, w, us, rfl, hw, u, us2, rfl, hu, rfl⟩ := hv
    rw [← ms_mc] at ha
    simp only [dp] at hd
    exact ⟨a, rfl, _, SqT.of ha, _, rfl, rfl, iteN (by rw [e0]; simp) ⟨a, rfl, _, SqT.of ha, _, rfl, a, rfl, _, SqT.of ha, _, rfl, iteN (by simp) ⟨rfl, iteY rfl ⟨b, w, u, t, p, rfl, hb, hw, hu, hg.1, hg.2, by omega, q⟩⟩⟩⟩
  | one mk t =>
    obtain ⟨a, b, vs, rfl, ha, hb, w, us, rfl, hw, rfl⟩ := hv
    rw [← ms_mc] at ha
    simp only [dp] at hd
    obtain ⟨h1, h2⟩ := hg
    have hnp : ¬ V.str (ms mk) = V.str (Str.ofString "part") := by rcases h1 with rfl | rfl | rfl | rfl <;> (intro z; injection z with z; exact absurd z (by decide +kernel))
    have hin : inV (.str (ms mk)) [.str (Str.ofString "count"), .str (Str.ofString "sum"), .str (Str.ofString "not"), .str (Str.ofString "turned")] = true := by rcases h1 with rfl | rfl | rfl | rfl <;> decide +kernel
    exact ⟨a, rfl, _, SqT.of ha, _, rfl, rfl, iteN (by rw [e0]; simp) ⟨a, rfl, _, SqT.of ha, _, rfl, a, rfl, _, SqT.of ha, _, rfl, iteN (by simp) ⟨rfl, iteN hnp fun c hc => ⟨_, .inr hc, rfl, rfl, iteY hin ⟨b, w, mk, t, rfl, hb, hw, h2, by omega, q⟩⟩⟩⟩⟩
  | two mk x y =>
    obtain ⟨a, b, vs, rfl, ha, hb, w, us, rfl, hw, u, us2, rfl, hu, rfl⟩ := hv
    rw [← ms_mc] at ha
    simp only [dp] at hd
    obtain ⟨h1, h2, h3⟩ := hg
    have hnp : ¬ V.str (ms mk) = V.str (Str.ofString "part") := by rcases h1 with rfl | rfl | rfl | rfl | rfl | rfl | rfl <;> (intro z; injection z with z; exact absurd z (by decide +kernel))
    have hn1 : ¬ inV (.str (ms mk)) [.str (Str.ofString "count"), .str (Str.ofString "sum"), .str (Str.ofString "not"), .str (Str.ofString "turned")] = true := by rcases h1 with rfl | rfl | rfl | rfl | rfl | rfl | rfl <;> decide +kernel
    have hin : inV (.str (ms mk)) [.str (Str.ofString "plus"), .str (Str.ofString "times"), .str (Str.ofString "less"), .str (Str.ofString "same"), .str (Str.ofString "both"), .str (Str.ofString "each"), .str (Str.ofString "joined")] = true := by rcases h1 with rfl | rfl | rfl | rfl | rfl | rfl | rfl <;> decide +kernel
    refine ⟨a, rfl, _, SqT.of ha, _, rfl, rfl, iteN (by rw [e0]; simp) ⟨a, rfl, _, SqT.of ha, _, rfl, a, rfl, _, SqT.of ha, _, rfl, iteN (by simp) ⟨rfl, iteN hnp fun c hc => ⟨_, .inr hc, rfl, rfl, iteN hn1 fun c2 hc2 => ⟨_, .inr hc2, rfl, rfl, iteY hin ⟨b, [w, u], mk, [x, y], rfl, hb, rfl, by simp, fun i w' t' g1 g2 => ?_, fun p r us H' s' hr hp hul hus => ?_⟩⟩⟩⟩⟩⟩
    · match i with
      | 0 => cases g1; cases g2; exact ⟨hw, h2, by omega⟩
      | 1 => cases g1; cases g2; exact ⟨hu, h3, by omega⟩
      | i + 2 => simp at g1
    · match us, hul with
      | [u1, u2], _ => exact q _ H' s' ⟨r, p, u1, u2, rfl, hr, hp, hus 0 u1 x rfl rfl, hus 1 u2 y rfl rfl⟩
  | when x y z =>
    obtain ⟨a, b, vs, rfl, ha, hb, w, us, rfl, hw, u, us2, rfl, hu, r0, us3, rfl, hr0, rfl⟩ := hv
    rw [← ms_mc] at ha
    simp only [dp] at hd
    obtain ⟨h2, h3, h4⟩ := hg
    have hnp : ¬ V.str (ms .when) = V.str (Str.ofString "part") := by intro z; injection z with z; exact absurd z (by decide +kernel)
    have hn1 : ¬ inV (.str (ms .when)) [.str (Str.ofString "count"), .str (Str.ofString "sum"), .str (Str.ofString "not"), .str (Str.ofString "turned")] = true := by decide +kernel
    have hn2 : ¬ inV (.str (ms .when)) [.str (Str.ofString "plus"), .str (Str.ofString "times"), .str (Str.ofString "less"), .str (Str.ofString "same"), .str (Str.ofString "both"), .str (Str.ofString "each"), .str (Str.ofString "joined")] = true := by decide +kernel
    refine ⟨a, rfl, _, SqT.of ha, _, rfl, rfl, iteN (by rw [e0]; simp) ⟨a, rfl, _, SqT.of ha, _, rfl, a, rfl, _, SqT.of ha, _, rfl, iteN (by simp) ⟨rfl, iteN hnp fun c hc => ⟨_, .inr hc, rfl, rfl, iteN hn1 fun c2 hc2 => ⟨_, .inr hc2, rfl, rfl, iteN hn2 ⟨rfl, iteY rfl ⟨b, [w, u, r0], .when, [x, y, z], rfl, hb, rfl, by simp, fun i w' t' g1 g2 => ?_, fun p r us H' s' hr hp hul hus => ?_⟩⟩⟩⟩⟩⟩⟩
    · match i with
      | 0 => cases g1; cases g2; exact ⟨hw, h2, by omega⟩
      | 1 => cases g1; cases g2; exact ⟨hu, h3, by omega⟩
      | 2 => cases g1; cases g2; exact ⟨hr0, h4, by omega⟩
      | i + 3 => simp at g1
    · match us, hul with
      | [u1, u2, u3], _ => exact q _ H' s' ⟨r, p, u1, u2, u3, rfl, hr, hp, hus 0 u1 x rfl rfl, hus 1 u2 y rfl rfl, hus 2 u3 z rfl rfl⟩
def sp_read_term (K : PySem.W.Frag) : Sp := fun vs H Q _ => ∃ t : Tm, vs = [.str (S (tt t))] ∧ Gd t ∧ dp t ≤ 6 ∧ (tt t).length ≤ 2000 ∧ ∀ v' H', Same H H' → TA H' t v' → Q v' H'
theorem ok_read_term {k : Nat} {C_NoteReader : Addr} (R : g.Raw "read_term" "read_term" s_read_term ["text"]) (F_read_note : g.Fn k "read_note" ["text"] (Rd.spRead)) (F_term_of_note : g.Fn k "term_of_note" ["note"] (sp_ton g.K 8)) : g.Fn (k + 1) "read_term" ["text"] (sp_read_term g.K) := by
  refine R.fn sc_read_term (fun vs H Q E h => by obtain ⟨t, rfl, hg, hd, hl, q⟩ := h; rfl) fun f_ cdv A outer s H vs Q E hr h => ?_
  obtain ⟨t, rfl, hg, hd, hl, q⟩ := h
  refine ⟨_, (@pss_one _ _ _ (@ps_ret _ _ _ _ (@pe_fn _ _ _ _ _ _ _ _ _ _ _ _ F_term_of_note hr (@pa_cons _ _ _ _ _ (@pe_fn _ _ _ _ _ _ _ _ _ _ _ _ F_read_note hr (@pa_cons _ _ _ _ _ (@pv _ 0 _ _ (by rfl) (by first | exact Or.inl rfl | exact Or.inr (Or.inl rfl) | exact Or.inr (Or.inr rfl)) (by decide) (by decide)) pa_nil (by rfl)) (by omega) (by rfl) (by rfl) (by decide) (by rfl) (by rfl)) pa_nil (by rfl)) (by omega) (by rfl) (by rfl) (by decide) (by rfl) (by rfl)))), ?_⟩
  walk_at "rd"
  exact ⟨nt t, rfl, hl, ok_nt hg hd, fun v H' hv s' => ⟨t, v, rfl, hv, hg, by omega, fun v' H'' s'' h'' => q v' H'' (s'.trans s'') h''⟩⟩
end KW
set_option maxHeartbeats 8000000
namespace KW
open PySem L2

variable {g : Gx}
variable {C : Addr}
local macro_rules | `(tactic| walk_at "sd") => `(tactic| simp (config := { failIfUnchanged := false, maxSteps := 10000000 }) only [l_num, l_here, l_count, l_sum, l_not, l_turned, l_plus, l_times, l_less, l_same, l_both, l_each, l_joined, l_part, l_when, ms_inj, in_cons, in_nil, Bool.or_false, Bool.false_or, Bool.or_self, Bool.true_or, Bool.or_true, reduceCtorEq, V.str.injEq, List.mem_cons, List.not_mem_nil, or_false, false_or, or_true, true_or, or_self, not_true_eq_false, not_false_eq_true, if_true, if_false, ite_true, ite_false, decide_true, decide_false, Bool.false_eq_true, and_true, true_and, and_false, false_and, false_implies, true_implies])

local macro_rules | `(tactic| walk_at "gn") => `(tactic| simp only [gName, List.set_cons_zero, List.set_cons_succ])

local macro_rules | `(tactic| walk_at "rd") => `(tactic| simp (config := { failIfUnchanged := false, maxSteps := 10000000 }) only [L2.start, cxOf_K, nox_K, List.map_cons, List.map_nil, List.length_cons, List.length_nil, List.cons_append, List.nil_append, List.replicate_succ, List.replicate_zero, Nat.zero_add, Nat.reduceAdd, Nat.reduceSub, Nat.sub_self, tSeq, tIfS, tTest, tOp, tC, tVar, rI0, rI, rU, tUn, tRet, tRetN, tDrop, tNext, tBreak, tCont, tAsg, gName, gNil, gCons, tCons, tNil, tCB, tCall, tTry, tTryAs, tRaise, sFld, tFld, tMake, tMeth, Ends.gone, caught_K, tB, tAnd, tOr, tNot, tAndV, tOrV, tNotV, tIf, tChain, tNoPart, tPart, tSl, tNever, tAug, rIxL, rIxT, rSlL, tLst, tTup, gTup, tRev, tLZ, tConT, tDict0, rBits, rFind, rIn, tBM, tBM0, rAppend, rReverse, rEq, rNe, scal_ii, scal_ss, rCat, rSetL, gSub, ipI, capSt, List.getD_cons_zero, List.getD_cons_succ, decide_true, not_true_eq_false, not_false_eq_true,
  exists_eq_left', exists_eq_left, exists_eq', exists_eq, exists_and_left, and_assoc, Option.some.injEq, V.int.injEq, V.bl.injEq, V.ref.injEq, V.str.injEq, List.getElem?_cons_zero, List.getElem?_cons_succ, List.set_cons_zero, List.set_cons_succ, List.cons.injEq, and_true, true_and, List.append_nil, decide_eq_true_eq, Bool.not_eq_true', decide_eq_false_iff_not, Bool.not_not, Bool.not_true, Bool.not_false, Bool.true_eq_false, Bool.false_eq_true, if_true, if_false, ite_true, ite_false])

/-- the law's cells -/
def Lc (H : Hp) (cl : Addr) (ys : List Int) : Prop := H cl = some (.lst (ys.map V.int))
/-- all but the cells stays -/
def Kp (cl : Addr) (H H' : Hp) : Prop := ∀ (a : Addr) (o : HO), a ≠ cl → H a = some o → H' a = some o
theorem Kp.trans {cl : Addr} {H H' H'' : Hp} (a : Kp cl H H') (b : Kp cl H' H'') : Kp cl H H'' := fun _ _ n h => b _ _ n (a _ _ n h)
theorem Kp.of {cl : Addr} {H H' : Hp} (s : Same H H') : Kp cl H H' := fun _ _ _ h => s _ _ h
theorem Kp.upd {cl : Addr} {H : Hp} (o : HO) : Kp cl H (upd H cl o) := fun a o' n h => by rw [upd_ne n]; exact h
theorem Kp.tk {cl : Addr} {H H' : Hp} {ys : List Int} (h : Kp cl H H') (c : Lc H cl ys) : Tk H H' := fun a zs ha => h _ _ (ne_of ha c (by intro z; cases z)) ha
theorem Lc.keep {H H' : Hp} {cl : Addr} {ys : List Int} (c : Lc H cl ys) (s : Same H H') : Lc H' cl ys := s _ _ c
/-- one cell is taken, if there is one -/
def Took (ys ys1 : List Int) (z : Nat) : Prop := (ys = [] ∧ ys1 = [] ∧ z = 0) ∨ ∃ y, ys = y :: ys1
def sp_law_take (K : PySem.W.Frag) : Sp := fun vs H Q _ => ∃ (cl : Addr) (mn : Int) (ys : List Int), vs = [.ref cl, .int mn] ∧ Lc H cl ys ∧ 0 < mn ∧ ∀ (z : Nat) ys1 H', Kp cl H H' → Lc H' cl ys1 → Took ys ys1 z → (z : Int) < mn → Q (.int z) H'
theorem eqv_ints (ys : List Int) : PyData.eqv (.list (ys.map .int)) (.list []) = ys.isEmpty := by rw [PyData.eqv]; cases ys <;> simp [PyData.eqvAll]
theorem dens_ints {K : PySem.W.Frag} {H : Hp} : ∀ ys : List Int, Dens K H (ys.map V.int) (ys.map .int)
  | [] => .nil
  | y :: ys => .cons (.int y) (dens_ints ys)
theorem ok_law_take {C_NoteReader : Addr} (R : g.Raw "_law_take" "_law_take" s_law_take ["_law_cells", "_law_many"]) : g.Fn (1) "_law_take" ["_law_cells", "_law_many"] (sp_law_take g.K) := by
  refine R.fn sc_law_take (fun vs H Q E h => by obtain ⟨cl, mn, ys, rfl, hcl, hmn, q⟩ := h; rfl) fun f_ cdv A outer s H vs Q E hr h => ?_
  obtain ⟨cl, mn, ys, rfl, hcl, hmn, q⟩ := h
  refine ⟨_, (@pss_cons _ _ _ _ _ (@ps_if _ _ _ _ _ _ _ _ (@pt_cmpR _ _ _ _ _ _ _ _ (op_eqD hr.units) (@pv _ 0 _ _ (by rfl) (by first | exact Or.inl rfl | exact Or.inr (Or.inl rfl) | exact Or.inr (Or.inr rfl)) (by decide) (by decide)) (@pe_lst _ _ _ _ pa_nil) (nomark _)) (@pss_one _ _ _ (@ps_ret _ _ _ _ pe_int)) pss_nil) (@pss_one _ _ _ (@ps_ret _ _ _ _ (@pe_op _ _ _ _ _ _ _ _ op_mod (@pe_bm _ _ _ _ _ _ _ _ _ _ _ _ PySem.F.plainAttrs_list PySem.F.slot_list_pop PySem.F.type_list_pop mt_popAt (@pv _ 0 _ _ (by rfl) (by first | exact Or.inl rfl | exact Or.inr (Or.inl rfl) | exact Or.inr (Or.inr rfl)) (by decide) (by decide)) (@pa_cons _ _ _ _ _ pe_int pa_nil (by rfl)) (by rfl) (by rfl) (by rfl) (by rfl) (by rfl)) (@pv _ 1 _ _ (by rfl) (by first | exact Or.inl rfl | exact Or.inr (Or.inl rfl) | exact Or.inr (Or.inr rfl)) (by decide) (by decide)))))), ?_⟩
  walk_at "rd"
  refine ⟨few (by decide), fun p hp => ?_⟩
  have s1 := Same.upd_new hp (.lst [])
  refine ⟨.list (ys.map .int), .lst (SqL.of (s1 _ _ hcl)) (dens_ints ys), .list [], .lst (SqL.of upd_same) .nil, ?_, ?_⟩
  · rw [PyData.depth]; have := depth_ints ys; omega
  rw [eqv_ints]
  refine ite2 (fun c => q 0 ys _ (.of s1) (hcl.keep s1) (.inl ?_) hmn) fun c => ?_
  · have e : ys = [] := by simpa using c
    exact ⟨e, e, rfl⟩
  match ys, hcl, q, c with
  | y :: ys, hcl, q, _ =>
    have hc1 := s1 _ _ hcl
    refine ⟨.inl ⟨rfl, _, SqL.of hc1⟩, cl, _, 0, 0, .int y, rfl, rfl, hc1, by decide, by decide, ?_, rfl, y, rfl, hmn, ?_⟩
    · rw [List.length_map, List.length_cons]
      simp [seqIndex?]
    obtain ⟨z, hz, hz2⟩ := mod_nat y hmn
    rw [hz]
    exact q z ys _ ((Kp.of s1).trans (Kp.upd _)) upd_same (.inr ⟨y, rfl⟩) hz2
/-- how long the text of so many cells may be, but for four signs -/
def phi : Nat → Nat
  | 0 => 0
  | n + 1 => 29 * (n + 1) + 28
theorem phi_step : ∀ {n m : Nat}, n < m → phi n + 29 ≤ phi m
  | 0, m + 1, _ => by simp only [phi]; omega
  | n + 1, m + 1, h => by simp only [phi]; omega
theorem phi_le {n m : Nat} (h : n ≤ m) : phi n ≤ phi m := by
  rcases Nat.lt_or_ge n m with h | h
  · have := phi_step h; omega
  · have : n = m := by omega
    subst this
    exact Nat.le_refl _
theorem Took.le {ys ys1 : List Int} {z : Nat} (h : Took ys ys1 z) : ys1.length ≤ ys.length := by
  rcases h with ⟨rfl, rfl, _⟩ | ⟨y, rfl⟩
  · exact Nat.le_refl _
  · simp
theorem Took.lt {ys ys1 : List Int} {z : Nat} (h : Took ys ys1 z) (hz : z ≠ 0) : ys1.length < ys.length := by
  rcases h with ⟨_, _, e⟩ | ⟨y, rfl⟩
  · exact (hz e).elim
  · simp
/-- a term made of the cells -/
structure Made (cl : Addr) (n : Nat) (H : Hp) (ys : List Int) (t : Tm) (v : V) (H' : Hp) (ys' : List Int) : Prop where
  kp : Kp cl H H'
  lc : Lc H' cl ys'
  le : ys'.length ≤ ys.length
  ta : TA H' t v
  gd : Gd t
  deep : dp t ≤ n
  len : (tt t).length + phi ys'.length ≤ 4 + phi ys.length
theorem dg_le {i : Int} {k : Nat} (hk : 0 < k) (h : i.natAbs < 10 ^ k) : (dg i).length ≤ k + 1 := by
  have hl := dg_len hk h
  rcases Int.natAbs_eq i with e | e
  · rw [e]; omega
  · by_cases h0 : i.natAbs = 0
    · have : i = 0 := by omega
      subst this
      exact Nat.le_succ_of_le hl
    · have := dg_neg (n := i.natAbs) (by omega)
      rw [← e] at this
      rw [this, List.length_cons]; omega
theorem tt_num (i : Int) : tt (.num i) = dg i := by simp only [tt, nt, Rd.txt, head0]
theorem tt_here : (tt .here).length = 4 := by simp only [tt, nt, Rd.txt, head0]; decide +kernel
theorem mc_len (m : Mk) : (mc m).length ≤ 6 := by cases m <;> decide +kernel
theorem mc_part : (mc .part).length = 4 := by decide +kernel
theorem mc_when : (mc .when).length = 4 := by decide +kernel
theorem len_part (t : Tm) {p : Nat} (h : p ≤ 20) : (tt (.part t p)).length ≤ (tt t).length + 9 := by
  have := dg_len (n := p) (k := 2) (by decide) (Nat.lt_of_le_of_lt h (by decide))
  rw [tt_part]
  simp only [List.length_append, List.length_cons, List.length_nil, mc_part]
  omega
theorem len_one (m : Mk) (t : Tm) : (tt (.one m t)).length ≤ (tt t).length + 8 := by
  have := mc_len m
  rw [tt_one]
  simp only [List.length_append, List.length_cons, List.length_nil]
  omega
theorem len_two (m : Mk) (a b : Tm) : (tt (.two m a b)).length ≤ (tt a).length + (tt b).length + 9 := by
  have := mc_len m
  rw [tt_two]
  simp only [List.length_append, List.length_cons, List.length_nil]
  omega
theorem len_when (a b c : Tm) : (tt (.when a b c)).length ≤ (tt a).length + (tt b).length + (tt c).length + 8 := by
  rw [tt_when]
  simp only [List.length_append, List.length_cons, List.length_nil, mc_when]
  omega
def sp_law_term (K : PySem.W.Frag) (m : Nat) : Sp := fun vs H Q _ => ∃ (cl : Addr) (n : Nat) (ys : List Int), vs = [.ref cl, .int (n : Nat)] ∧ n < m ∧ Lc H cl ys ∧ ∀ t v H' ys', Made cl n H ys t v H' ys' → Q v H'
theorem no_term {K : PySem.W.Frag} {vs : List V} {H : Hp} {Q : VK} {E : XK} (h : sp_law_term K 0 vs H Q E) : False := by
  obtain ⟨cl, n, ys, _, h, _⟩ := h
  omega
theorem made_here {cl : Addr} {n : Nat} {H H1 H2 : Hp} {ys ys1 : List Int} {z : Nat} {a b : Addr} (k1 : Kp cl H H1) (c1 : Lc H1 cl ys1) (tk : Took ys ys1 z) (s : Same H1 H2) (h1 : H2 a = some (.tup [.str (ms .here), .ref b])) (h2 : H2 b = some (.tup [])) : Made cl n H ys .here (.ref a) H2 ys1 :=
  ⟨k1.trans (.of s), c1.keep s, tk.le, ⟨a, b, rfl, h1, h2⟩, trivial, Nat.zero_le _, by rw [tt_here]; have := phi_le tk.le; omega⟩
theorem made_num {cl : Addr} {n : Nat} {H H1 H2 : Hp} {ys ys1 : List Int} {a : Addr} {i : Int} (k1 : Kp cl H H1) (c1 : Lc H1 cl ys1) (hle : ys1.length ≤ ys.length) (s : Same H1 H2) (h1 : H2 a = some (.tup [.str (ms .num), .int i])) (hi : i.natAbs < 10 ^ 60) (hl : (dg i).length + phi ys1.length ≤ 4 + phi ys.length) : Made cl n H ys (.num i) (.ref a) H2 ys1 :=
  ⟨k1.trans (.of s), c1.keep s, hle, ⟨a, rfl, h1⟩, hi, Nat.zero_le _, by rw [tt_num]; exact hl⟩
end KW
set_option maxHeartbeats 8000000
namespace KW
open PySem L2

variable {g : Gx}
variable {C : Addr}
local macro_rules | `(tactic| walk_at "sd") => `(tactic| simp (config := { failIfUnchanged := false, maxSteps := 10000000 }) only [l_num, l_here, l_count, l_sum, l_not, l_turned, l_plus, l_times, l_less, l_same, l_both, l_each, l_joined, l_part, l_when, ms_inj, in_cons, in_nil, Bool.or_false, Bool.false_or, Bool.or_self, Bool.true_or, Bool.or_true, reduceCtorEq, V.str.injEq, List.mem_cons, List.not_mem_nil, or_false, false_or, or_true, true_or, or_self, not_true_eq_false, not_false_eq_true, if_true, if_false, ite_true, ite_false, decide_true, decide_false, Bool.false_eq_true, and_true, true_and, and_false, false_and, false_implies, true_implies])

local macro_rules | `(tactic| walk_at "gn") => `(tactic| simp only [gName, List.set_cons_zero, List.set_cons_succ])

local macro_rules | `(tactic| walk_at "rd") => `(tactic| simp (config := { failIfUnchanged := false, maxSteps := 10000000 }) only [L2.start, cxOf_K, nox_K, List.map_cons, List.map_nil, List.length_cons, List.length_nil, List.cons_append, List.nil_append, List.replicate_succ, List.replicate_zero, Nat.zero_add, Nat.reduceAdd, Nat.reduceSub, Nat.sub_self, tSeq, tIfS, tTest, tOp, tC, tVar, rI0, rI, rU, tUn, tRet, tRetN, tDrop, tNext, tBreak, tCont, tAsg, gName, gNil, gCons, tCons, tNil, tCB, tCall, tTry, tTryAs, tRaise, sFld, tFld, tMake, tMeth, Ends.gone, caught_K, tB, tAnd, tOr, tNot, tAndV, tOrV, tNotV, tIf, tChain, tNoPart, tPart, tSl, tNever, tAug, rIxL, rIxT, rSlL, tLst, tTup, gTup, tRev, tLZ, tConT, tDict0, rBits, rFind, rIn, tBM, tBM0, rAppend, rReverse, rEq, rNe, scal_ii, scal_ss, rCat, rSetL, gSub, ipI, capSt, List.getD_cons_zero, List.getD_cons_succ, decide_true, not_true_eq_false, not_false_eq_true,
  exists_eq_left', exists_eq_left, exists_eq', exists_eq, exists_and_left, and_assoc, Option.some.injEq, V.int.injEq, V.bl.injEq, V.ref.injEq, V.str.injEq, List.getElem?_cons_zero, List.getElem?_cons_succ, List.set_cons_zero, List.set_cons_succ, List.cons.injEq, and_true, true_and, List.append_nil, decide_eq_true_eq, Bool.not_eq_true', decide_eq_false_iff_not, Bool.not_not, Bool.not_true, Bool.not_false, Bool.true_eq_false, Bool.false_eq_true, if_true, if_false, ite_true, ite_false])

theorem is2_at {j : Nat} (h : j < 7) : ∃ m, is2 m ∧ atI [V.str (Str.ofString "plus"), V.str (Str.ofString "times"), V.str (Str.ofString "less"), V.str (Str.ofString "same"), V.str (Str.ofString "both"), V.str (Str.ofString "each"), V.str (Str.ofString "joined")] (j : Int) = some (.str (ms m)) := by
  match j, h with
  | 0, _ => exact ⟨.plus, .inl rfl, atI_nat (j := 0) rfl⟩
  | 1, _ => exact ⟨.times, .inr (.inl rfl), atI_nat (j := 1) rfl⟩
  | 2, _ => exact ⟨.less, .inr (.inr (.inl rfl)), atI_nat (j := 2) rfl⟩
  | 3, _ => exact ⟨.same, .inr (.inr (.inr (.inl rfl))), atI_nat (j := 3) rfl⟩
  | 4, _ => exact ⟨.both, .inr (.inr (.inr (.inr (.inl rfl)))), atI_nat (j := 4) rfl⟩
  | 5, _ => exact ⟨.each, .inr (.inr (.inr (.inr (.inr (.inl rfl))))), atI_nat (j := 5) rfl⟩
  | 6, _ => exact ⟨.joined, .inr (.inr (.inr (.inr (.inr (.inr rfl))))), atI_nat (j := 6) rfl⟩
theorem is1_at {j : Nat} (h : j < 4) : ∃ m, is1 m ∧ atI [V.str (Str.ofString "count"), V.str (Str.ofString "sum"), V.str (Str.ofString "not"), V.str (Str.ofString "turned")] (j : Int) = some (.str (ms m)) := by
  match j, h with
  | 0, _ => exact ⟨.count, .inl rfl, atI_nat (j := 0) rfl⟩
  | 1, _ => exact ⟨.sum, .inr (.inl rfl), atI_nat (j := 1) rfl⟩
  | 2, _ => exact ⟨.not, .inr (.inr (.inl rfl)), atI_nat (j := 2) rfl⟩
  | 3, _ => exact ⟨.turned, .inr (.inr (.inr rfl)), atI_nat (j := 3) rfl⟩
theorem ok_law_term {k : Nat} {C_NoteReader : Addr} (R : g.Raw "_law_term" "_law_term" s_law_term ["_law_cells", "_law_left"]) (F_law_take : g.Fn k "_law_take" ["_law_cells", "_law_many"] (sp_law_take g.K)) (F_law_term : g.Fn k "_law_term" ["_law_cells", "_law_left"] (sp_law_term g.K m)) (b_range : g.mg "range" = none) (b_tuple : g.mg "tuple" = none) : g.Fn (k + 1) "_law_term" ["_law_cells", "_law_left"] (sp_law_term g.K (m + 1)) := by
  refine R.fn sc_law_term (fun vs H Q E h => by obtain ⟨cl, n, ys, rfl, hn, hcl, q⟩ := h; rfl) fun f_ cdv A outer s H vs Q E hr h => ?_
  obtain ⟨cl, n, ys, rfl, hn, hcl, q⟩ := h
  refine ⟨_, (@pss_cons _ _ _ _ _ (@ps_set _ _ (2) _ _ _ _ sc_law_term.nd rfl (Or.inl rfl) (@pe_fn _ _ _ _ _ _ _ _ _ _ _ _ F_law_take hr (@pa_cons _ _ _ _ _ (@pv _ 0 _ _ (by rfl) (by first | exact Or.inl rfl | exact Or.inr (Or.inl rfl) | exact Or.inr (Or.inr rfl)) (by decide) (by decide)) (@pa_cons _ _ _ _ _ (@pe_op _ _ _ _ _ _ _ _ op_pow pe_int pe_int) pa_nil (by rfl)) (by rfl)) (by omega) (by rfl) (by rfl) (by decide) (by rfl) (by rfl)) (by rfl) (by first | exact .inl rfl | exact .inr rfl | assumption)) (@pss_cons _ _ _ _ _ (@ps_set _ _ (3) _ _ _ _ sc_law_term.nd rfl (Or.inl rfl) (@pe_op _ _ _ _ _ _ _ _ op_mod (@pv _ 2 _ _ (by rfl) (by first | exact Or.inl rfl | exact Or.inr (Or.inl rfl) | exact Or.inr (Or.inr rfl)) (by decide) (by decide)) pe_int) (by rfl) (by first | exact .inl rfl | exact .inr rfl | assumption)) (@pss_cons _ _ _ _ _ (@ps_if _ _ _ _ _ _ _ _ (@pw_or _ _ _ _ _ _ _ (@pt_cmpR _ _ _ _ _ _ _ _ op_eq (@pv _ 1 _ _ (by rfl) (by first | exact Or.inl rfl | exact Or.inr (Or.inl rfl) | exact Or.inr (Or.inr rfl)) (by decide) (by decide)) pe_int (nomark _)) (@pw_or1 _ _ _ _ (@pt_cmpR _ _ _ _ _ _ _ _ op_lt (@pv _ 3 _ _ (by rfl) (by first | exact Or.inl rfl | exact Or.inr (Or.inl rfl) | exact Or.inr (Or.inr rfl)) (by decide) (by decide)) pe_int (nomark _)))).pt (@pss_one _ _ _ (@ps_ret _ _ _ _ (@pe_ix _ _ _ _ _ _ _ ix_list (@pe_lst _ _ _ _ (@pa_cons _ _ _ _ _ (@pe_tup _ _ _ _ _ (@pa_cons _ _ _ _ _ pe_str (@pa_cons _ _ _ _ _ (@pe_tup _ _ _ _ _ pa_nil) pa_nil (star_tup _ _ _ _ _)) (by rfl))) (@pa_cons _ _ _ _ _ (@pe_tup _ _ _ _ _ (@pa_cons _ _ _ _ _ pe_str (@pa_cons _ _ _ _ _ (@pe_op _ _ _ _ _ _ _ _ op_sub (@pe_op _ _ _ _ _ _ _ _ op_mod (@pe_op _ _ _ _ _ _ _ _ op_fdivL (@pv _ 2 _ _ (by rfl) (by first | exact Or.inl rfl | exact Or.inr (Or.inl rfl) | exact Or.inr (Or.inr rfl)) (by decide) (by decide)) pe_int) pe_int) pe_int) pa_nil (by rfl)) (by rfl))) pa_nil (star_tup _ _ _ _ _)) (star_tup _ _ _ _ _))) (@pe_op _ _ _ _ _ _ _ _ op_mod (@pv _ 3 _ _ (by rfl) (by first | exact Or.inl rfl | exact Or.inr (Or.inl rfl) | exact Or.inr (Or.inr rfl)) (by decide) (by decide)) pe_int) (fun _ _ => rfl)))) pss_nil) (@pss_cons _ _ _ _ _ (@ps_if _ _ _ _ _ _ _ _ (@pt_cmpR _ _ _ _ _ _ _ _ op_eq (@pv _ 3 _ _ (by rfl) (by first | exact Or.inl rfl | exact Or.inr (Or.inl rfl) | exact Or.inr (Or.inr rfl)) (by decide) (by decide)) pe_int (nomark _)) (@pss_one _ _ _ (@ps_ret _ _ _ _ (@pe_tup _ _ _ _ _ (@pa_cons _ _ _ _ _ pe_str (@pa_cons _ _ _ _ _ (@pe_op _ _ _ _ _ _ _ _ op_add (@pe_op _ _ _ _ _ _ _ _ op_sub (@pe_fn _ _ _ _ _ _ _ _ _ _ _ _ F_law_take hr (@pa_cons _ _ _ _ _ (@pv _ 0 _ _ (by rfl) (by first | exact Or.inl rfl | exact Or.inr (Or.inl rfl) | exact Or.inr (Or.inr rfl)) (by decide) (by decide)) (@pa_cons _ _ _ _ _ (@pe_op _ _ _ _ _ _ _ _ op_sub (@pe_op _ _ _ _ _ _ _ _ op_mulC pe_int (@pe_op _ _ _ _ _ _ _ _ op_pow pe_int pe_int)) pe_int) pa_nil (by rfl)) (by rfl)) (by omega) (by rfl) (by rfl) (by decide) (by rfl) (by rfl)) (@pe_op _ _ _ _ _ _ _ _ op_pow pe_int pe_int)) pe_int) pa_nil (by rfl)) (by rfl))))) pss_nil) (@pss_cons _ _ _ _ _ (@ps_if _ _ _ _ _ _ _ _ (@pt_cmpR _ _ _ _ _ _ _ _ op_eq (@pv _ 3 _ _ (by rfl) (by first | exact Or.inl rfl | exact Or.inr (Or.inl rfl) | exact Or.inr (Or.inr rfl)) (by decide) (by decide)) pe_int (nomark _)) (@pss_one _ _ _ (@ps_ret _ _ _ _ (@pe_tup _ _ _ _ _ (@pa_cons _ _ _ _ _ pe_str (@pa_cons _ _ _ _ _ (@pe_tup _ _ _ _ _ (@pa_cons _ _ _ _ _ (@pe_fn _ _ _ _ _ _ _ _ _ _ _ _ F_law_term hr (@pa_cons _ _ _ _ _ (@pv _ 0 _ _ (by rfl) (by first | exact Or.inl rfl | exact Or.inr (Or.inl rfl) | exact Or.inr (Or.inr rfl)) (by decide) (by decide)) (@pa_cons _ _ _ _ _ (@pe_op _ _ _ _ _ _ _ _ op_sub (@pv _ 1 _ _ (by rfl) (by first | exact Or.inl rfl | exact Or.inr (Or.inl rfl) | exact Or.inr (Or.inr rfl)) (by decide) (by decide)) pe_int) pa_nil (by rfl)) (by rfl)) (by omega) (by rfl) (by rfl) (by decide) (by rfl) (by rfl)) (@pa_cons _ _ _ _ _ (@pe_op _ _ _ _ _ _ _ _ op_mod (@pe_op _ _ _ _ _ _ _ _ op_fdivL (@pv _ 2 _ _ (by rfl) (by first | exact Or.inl rfl | exact Or.inr (Or.inl rfl) | exact Or.inr (Or.inr rfl)) (by decide) (by decide)) pe_int) pe_int) pa_nil (by rfl)) (by rfl))) pa_nil (star_tup _ _ _ _ _)) (by rfl))))) pss_nil) (@pss_cons _ _ _ _ _ (@ps_if _ _ _ _ _ _ _ _ (@pt_cmpR _ _ _ _ _ _ _ _ op_lt (@pv _ 3 _ _ (by rfl) (by first | exact Or.inl rfl | exact Or.inr (Or.inl rfl) | exact Or.inr (Or.inr rfl)) (by decide) (by decide)) pe_int (nomark _)) (@pss_one _ _ _ (@ps_ret _ _ _ _ (@pe_tup _ _ _ _ _ (@pa_cons _ _ _ _ _ (@pe_ix _ _ _ _ _ _ _ ix_list (@pe_lst _ _ _ _ (@pa_cons _ _ _ _ _ pe_str (@pa_cons _ _ _ _ _ pe_str (@pa_cons _ _ _ _ _ pe_str (@pa_cons _ _ _ _ _ pe_str pa_nil (by rfl)) (by rfl)) (by rfl)) (by rfl))) (@pe_op _ _ _ _ _ _ _ _ op_sub (@pv _ 3 _ _ (by rfl) (by first | exact Or.inl rfl | exact Or.inr (Or.inl rfl) | exact Or.inr (Or.inr rfl)) (by decide) (by decide)) pe_int) (fun _ _ => rfl)) (@pa_cons _ _ _ _ _ (@pe_fn _ _ _ _ _ _ _ _ _ _ _ _ F_law_term hr (@pa_cons _ _ _ _ _ (@pv _ 0 _ _ (by rfl) (by first | exact Or.inl rfl | exact Or.inr (Or.inl rfl) | exact Or.inr (Or.inr rfl)) (by decide) (by decide)) (@pa_cons _ _ _ _ _ (@pe_op _ _ _ _ _ _ _ _ op_sub (@pv _ 1 _ _ (by rfl) (by first | exact Or.inl rfl | exact Or.inr (Or.inl rfl) | exact Or.inr (Or.inr rfl)) (by decide) (by decide)) pe_int) pa_nil (by rfl)) (by rfl)) (by omega) (by rfl) (by rfl) (by decide) (by rfl) (by rfl)) pa_nil (by rfl)) (by rfl))))) pss_nil) (@pss_cons _ _ _ _ _ (@ps_set _ _ (4) _ _ _ _ sc_law_term.nd rfl (Or.inl rfl) (@pe_ix _ _ _ _ _ _ _ ix_list (@pe_lst _ _ _ _ (@pa_cons _ _ _ _ _ pe_str (@pa_cons _ _ _ _ _ pe_str (@pa_cons _ _ _ _ _ pe_str (@pa_cons _ _ _ _ _ pe_str (@pa_cons _ _ _ _ _ pe_str (@pa_cons _ _ _ _ _ pe_str (@pa_cons _ _ _ _ _ pe_str pa_nil (by rfl)) (by rfl)) (by rfl)) (by rfl)) (by rfl)) (by rfl)) (by rfl))) (@pe_op _ _ _ _ _ _ _ _ op_mod (@pe_op _ _ _ _ _ _ _ _ op_fdivL (@pv _ 2 _ _ (by rfl) (by first | exact Or.inl rfl | exact Or.inr (Or.inl rfl) | exact Or.inr (Or.inr rfl)) (by decide) (by decide)) pe_int) pe_int) (fun _ _ => rfl)) (by rfl) (by first | exact .inl rfl | exact .inr rfl | assumption)) (@pss_cons _ _ _ _ _ (@ps_if _ _ _ _ _ _ _ _ (@pt_cmpR _ _ _ _ _ _ _ _ op_lt (@pv _ 3 _ _ (by rfl) (by first | exact Or.inl rfl | exact Or.inr (Or.inl rfl) | exact Or.inr (Or.inr rfl)) (by decide) (by decide)) pe_int (nomark _)) (@pss_one _ _ _ (@ps_ret _ _ _ _ (@pe_tup _ _ _ _ _ (@pa_cons _ _ _ _ _ (@pv _ 4 _ _ (by rfl) (by first | exact Or.inl rfl | exact Or.inr (Or.inl rfl) | exact Or.inr (Or.inr rfl)) (by decide) (by decide)) (@pa_cons _ _ _ _ _ (@pe_tup _ _ _ _ _ (@pa_cons _ _ _ _ _ (@pe_fn _ _ _ _ _ _ _ _ _ _ _ _ F_law_term hr (@pa_cons _ _ _ _ _ (@pv _ 0 _ _ (by rfl) (by first | exact Or.inl rfl | exact Or.inr (Or.inl rfl) | exact Or.inr (Or.inr rfl)) (by decide) (by decide)) (@pa_cons _ _ _ _ _ (@pe_op _ _ _ _ _ _ _ _ op_sub (@pv _ 1 _ _ (by rfl) (by first | exact Or.inl rfl | exact Or.inr (Or.inl rfl) | exact Or.inr (Or.inr rfl)) (by decide) (by decide)) pe_int) pa_nil (by rfl)) (by rfl)) (by omega) (by rfl) (by rfl) (by decide) (by rfl) (by rfl)) (@pa_cons _ _ _ _ _ (@pe_fn _ _ _ _ _ _ _ _ _ _ _ _ F_law_term hr (@pa_cons _ _ _ _ _ (@pv _ 0 _ _ (by rfl) (by first | exact Or.inl rfl | exact Or.inr (Or.inl rfl) | exact Or.inr (Or.inr rfl)) (by decide) (by decide)) (@pa_cons _ _ _ _ _ (@pe_op _ _ _ _ _ _ _ _ op_sub (@pv _ 1 _ _ (by rfl) (by first | exact Or.inl rfl | exact Or.inr (Or.inl rfl) | exact Or.inr (Or.inr rfl)) (by decide) (by decide)) pe_int) pa_nil (by rfl)) (by rfl)) (by omega) (by rfl) (by rfl) (by decide) (by rfl) (by rfl)) pa_nil (by rfl)) (by rfl))) pa_nil (star_tup _ _ _ _ _)) (by rfl))))) pss_nil) (@pss_one _ _ _ (@ps_ret _ _ _ _ (@pe_tup _ _ _ _ _ (@pa_cons _ _ _ _ _ pe_str (@pa_cons _ _ _ _ _ (@pe_bt _ _ _ _ _ _ _ _ _ _ b_tuple call_tuple_of (@pa_cons _ _ _ _ _ (@pe_lc _ _ _ _ _ _ _ ([none, some 0, some 1]) ((["_law_k", "_law_cells", "_law_left"] : List Str)) _ (gName 0) _ _ (.own (.cap (i := 0) rfl rfl (by first | exact Or.inl rfl | exact Or.inr rfl) (.cap (i := 1) rfl rfl (by first | exact Or.inl rfl | exact Or.inr rfl) .nil))) rfl (@pi_range1 _ _ _ _ _ _ rfl b_range (@pa_cons _ _ _ _ _ pe_int pa_nil (by rfl)) (by rfl)) (fun cl C s₀ H₀ fp pn => (@pg_name _ _ (0) _ (show List.Nodup (["_law_k", "_law_cells", "_law_left"] : List Str) by decide +kernel) rfl (Or.inl rfl) (Or.inr rfl))) (fun cl C s₀ H₀ fp pn => pts_nil) (fun cl C s₀ H₀ fp pn => (@pe_fn _ _ _ _ _ _ _ _ _ _ _ _ F_law_term hr (@pa_cons _ _ _ _ _ (@pv _ 1 _ _ (by rfl) (by first | exact Or.inl rfl | exact Or.inr (Or.inl rfl) | exact Or.inr (Or.inr rfl)) (by decide) (by decide)) (@pa_cons _ _ _ _ _ (@pe_op _ _ _ _ _ _ _ _ op_sub (@pv _ 2 _ _ (by rfl) (by first | exact Or.inl rfl | exact Or.inr (Or.inl rfl) | exact Or.inr (Or.inr rfl)) (by decide) (by decide)) pe_int) pa_nil (by rfl)) (by rfl)) (by omega) (by rfl) (by rfl) (by decide) (by rfl) (by rfl))) (by intro x hx; simp at hx; first | (subst hx; exact Or.inl rfl) | (rcases hx with rfl | rfl <;> exact Or.inl rfl) | (rcases hx with rfl | rfl | rfl <;> exact Or.inl rfl)) (by rfl) (by decide) (by decide +kernel) (by intro _; rfl)) pa_nil (by rfl)) (by decide +kernel) (by rfl) (by rfl) (by decide) (by decide) (by rfl) (by rfl)) pa_nil (by rfl)) (by rfl))))))))))))), ?_⟩
  refine cut2 (fun σ H' => ∃ (f : Nat) (ys1 : List Int), σ = [some (.ref cl), some (.int (n : Nat)), some (.int (f : Nat)), some (.int ((f % 15 : Nat) : Int)), none] ∧ Kp cl H H' ∧ Lc H' cl ys1 ∧ Took ys ys1 f) ?_ ?_
  rotate_left
  · intro N hN
    walk_at "rd"
    refine ⟨cpow, cl, _, ys, rfl, hcl, by decide, fun z ys1 H1 k1 c1 tk hz => ⟨_, rfl, by decide, ?_⟩⟩
    have := hN _ _ ⟨z, ys1, rfl, k1, c1, tk⟩
    rwa [Int.natCast_emod] at this
  rintro σ H1 ⟨f, ys1, rfl, k1, c1, tk⟩
  refine cut1 (fun σ H' => ∃ n', n = n' + 1 ∧ 2 ≤ f % 15 ∧ H' = H1 ∧ σ = [some (.ref cl), some (.int (n : Nat)), some (.int (f : Nat)), some (.int ((f % 15 : Nat) : Int)), none]) ?_ ?_
  rotate_left
  · intro N hN
    walk_at "rd"
    refine ite2 (fun _ => ?_) fun c0 => ite2 (fun _ => ?_) fun c2 => hN _ _ ⟨n - 1, by omega, by omega, rfl, rfl⟩
    all_goals
      refine ⟨few (by decide), fun p hp => ⟨few (by decide), fun p1 h1 => ⟨small_div (by decide) (by decide), by decide, few (by decide), fun p2 h2 => ⟨few (by decide), fun p3 h3 => ⟨by decide, _, SqL.of upd_same, ?_⟩⟩⟩⟩⟩
      have u1 := Same.upd_new hp (.tup [])
      have u2 := Same.upd_new h1 (.tup [V.str (Str.ofString "here"), V.ref p])
      have u3 := Same.upd_new h2 (.tup [V.str (Str.ofString "num"), V.int ((f : Int) / 15 % 100 - 50)])
      have u4 := Same.upd_new h3 (.lst [V.ref p1, V.ref p2])
      have s := ((u1.trans u2).trans u3).trans u4
      rcases Nat.mod_two_eq_zero_or_one (f % 15) with e | e
      · rw [show ((f % 15 : Nat) : Int) % 2 = ((0 : Nat) : Int) by omega]
        exact ⟨.ref p1, atI_nat (j := 0) rfl, q .here _ _ ys1 (made_here k1 c1 tk s ((u3.trans u4) _ _ upd_same) (((u2.trans u3).trans u4) _ _ upd_same))⟩
      · rw [show ((f % 15 : Nat) : Int) % 2 = ((1 : Nat) : Int) by omega]
        have hb : ((f : Int) / 15 % 100 - 50).natAbs < 10 ^ 2 := by
          have h1 := Int.emod_nonneg ((f : Int) / 15) (show (100 : Int) ≠ 0 by decide)
          have h2 := Int.emod_lt_of_pos ((f : Int) / 15) (show (0 : Int) < 100 by decide)
          omega
        refine ⟨.ref p2, atI_nat (j := 1) rfl, q (.num _) _ _ ys1 (made_num k1 c1 tk.le s (u4 _ _ upd_same) (Nat.lt_trans hb (by decide)) ?_)⟩
        have := dg_le (by decide) hb
        have := phi_le tk.le
        omega
  rintro σ H2 ⟨n', rfl, hk2, rfl, rfl⟩
  have hf0 : f ≠ 0 := by intro z; subst z; simp at hk2
  have hlt := tk.lt hf0
  have hph := phi_step hlt
  have en : ((n' + 1 : Nat) : Int) - 1 = ((n' : Nat) : Int) := by omega
  walk_at "rd"
  simp only [en]
  refine ite2 (fun e2 => ?_) fun e2 => ite2 (fun e3 => ?_) fun e3 => ite2 (fun e4 => ?_) fun e4 => ?_
  · refine ⟨cpow, .inl (cm (m := 2) (n := 200) (by decide) (by decide +kernel)), cl, _, ys1, rfl, c1, by decide +kernel, fun z ys2 H3 k3 c3 tk3 hz => ⟨cpow, _, rfl, few (by decide), fun p hp => ?_⟩⟩
    have u := Same.upd_new hp (.tup [V.str (Str.ofString "num"), V.int ((z : Int) - 10 ^ Int.toNat 60 + 1)])
    have e10 : (10 : Int) ^ Int.toNat 60 = ((10 ^ 60 : Nat) : Int) := by decide +kernel
    have hb : ((z : Int) - 10 ^ Int.toNat 60 + 1).natAbs < 10 ^ 60 := by
      rw [e10] at hz ⊢
      generalize 10 ^ 60 = M at hz ⊢
      omega
    have hd := dg_le (by decide) hb
    have hle : ys2.length ≤ ys.length := Nat.le_trans tk3.le tk.le
    refine q (.num _) _ _ ys2 (made_num (k1.trans k3) c3 hle u upd_same hb ?_)
    rcases tk3 with ⟨e5, e6, _⟩ | ⟨y, e5⟩
    · subst e6
      rw [e5] at hlt
      have := phi_le (n := 1) (m := ys.length) hlt
      have e1 : phi 1 = 57 := rfl
      have e0 : phi ([] : List Int).length = 0 := rfl
      omega
    · rw [e5, List.length_cons] at hph
      have := phi_step (n := ys2.length) (m := ys2.length + 1) (by omega)
      omega
  · refine ⟨cl, n', ys1, rfl, by omega, c1, fun t v H3 ys3 M => ⟨small_div (by decide) (by decide), by decide, few (by decide), fun p hp => ⟨few (by decide), fun p1 hp1 => ?_⟩⟩⟩
    obtain ⟨j, hj, hj2⟩ := mod_nat ((f : Int) / 15) (j := 21) (by decide)
    rw [hj] at hp1 ⊢
    have u1 := Same.upd_new hp (.tup [v, .int (j : Nat)])
    have u2 := Same.upd_new hp1 (.tup [V.str (Str.ofString "part"), V.ref p])
    have s := u1.trans u2
    have hj3 : j ≤ 20 := by omega
    refine q (.part t j) _ _ ys3 ⟨(k1.trans M.kp).trans (.of s), M.lc.keep s, Nat.le_trans M.le tk.le, ⟨p1, p, v, rfl, upd_same, u2 _ _ upd_same, M.ta.keep (.of s)⟩, ⟨M.gd, hj3⟩, by have := M.deep; simp only [dp]; omega, ?_⟩
    have := len_part t hj3
    have := M.len
    omega
  · refine ⟨few (by decide), fun p hp => ?_⟩
    have u := Same.upd_new hp (.lst [V.str (Str.ofString "count"), V.str (Str.ofString "sum"), V.str (Str.ofString "not"), V.str (Str.ofString "turned")])
    obtain ⟨mk, h1, hat⟩ := is1_at (j := f % 15 - 4) (by omega)
    rw [show ((f % 15 - 4 : Nat) : Int) = ((f % 15 : Nat) : Int) - 4 by omega] at hat
    refine ⟨_, SqL.of upd_same, _, hat, cl, n', ys1, rfl, by omega, c1.keep u, fun t v H3 ys3 M => ⟨few (by decide), fun p1 hp1 => ?_⟩⟩
    have u1 := Same.upd_new hp1 (.tup [V.str (ms mk), v])
    refine q (.one mk t) _ _ ys3 ⟨((k1.trans (.of u)).trans M.kp).trans (.of u1), M.lc.keep u1, Nat.le_trans M.le tk.le, ⟨p1, v, rfl, upd_same, M.ta.keep (.of u1)⟩, ⟨h1, M.gd⟩, by have := M.deep; simp only [dp]; omega, ?_⟩
    have := len_one mk t
    have := M.len
    omega
  refine ⟨few (by decide), fun p hp => ⟨small_div (by decide) (by decide), by decide, _, SqL.of upd_same, ?_⟩⟩
  have u := Same.upd_new hp (.lst [V.str (Str.ofString "plus"), V.str (Str.ofString "times"), V.str (Str.ofString "less"), V.str (Str.ofString "same"), V.str (Str.ofString "both"), V.str (Str.ofString "each"), V.str (Str.ofString "joined")])
  obtain ⟨j, hj, hj2⟩ := mod_nat ((f : Int) / 15) (j := 7) (by decide)
  obtain ⟨mk, h2, hat⟩ := is2_at (j := j) (by omega)
  rw [hj]
  refine ⟨_, hat, ite2 (fun e5 => ?_) fun e5 => ?_⟩
  · refine ⟨cl, n', ys1, rfl, by omega, c1.keep u, fun t v H3 ys3 M => ⟨cl, n', ys3, rfl, by omega, M.lc, fun t2 v2 H4 ys4 M2 => ⟨few (by decide), fun p1 hp1 => ⟨few (by decide), fun p2 hp2 => ?_⟩⟩⟩⟩
    have u1 := Same.upd_new hp1 (.tup [v, v2])
    have u2 := Same.upd_new hp2 (.tup [V.str (ms mk), V.ref p1])
    have s := u1.trans u2
    refine q (.two mk t t2) _ _ ys4 ⟨(((k1.trans (.of u)).trans M.kp).trans M2.kp).trans (.of s), M2.lc.keep s, Nat.le_trans M2.le (Nat.le_trans M.le tk.le), ⟨p2, p1, v, v2, rfl, upd_same, u2 _ _ upd_same, (M.ta.keep (M2.kp.tk M.lc)).keep (.of s), M2.ta.keep (.of s)⟩, ⟨h2, M.gd, M2.gd⟩, by have := M.deep; have := M2.deep; simp only [dp]; omega, ?_⟩
    have := len_two mk t t2
    have := M.len
    have := M2.len
    omega
  · generalize hHb : upd H2 p (.lst [V.str (Str.ofString "plus"), V.str (Str.ofString "times"), V.str (Str.ofString "less"), V.str (Str.ofString "same"), V.str (Str.ofString "both"), V.str (Str.ofString "each"), V.str (Str.ofString "joined")]) = Hb at u ⊢
    have cb := c1.keep u
    refine tLC_rangeI (n := 3) (fun D i zs H' => ∃ (ts : List Tm) (yi : List Int), zs.length = i ∧ ts.length = i ∧ H' D = some (.lst zs) ∧ Hb D = none ∧ Kp cl Hb H' ∧ Lc H' cl yi ∧ yi.length ≤ ys1.length ∧ (∀ (j : Nat) z t, zs[j]? = some z → ts[j]? = some t → TA H' t z ∧ Gd t ∧ dp t ≤ n') ∧ (ts.map fun t => (tt t).length).sum + phi yi.length ≤ 4 * i + phi ys1.length) (fun R r => by walk_at "rd"; exact r) (by decide) ?_ ?_ ?_ ?_
    · intro D hD
      exact ⟨[], ys1, rfl, rfl, upd_same, hD, .of (.upd_new hD _), cb.keep (.upd_new hD _), Nat.le_refl _, fun j z t h => by simp at h, by simp⟩
    · rintro D i zs H' ⟨ts, yi, h1, _, h3, _⟩
      exact ⟨h1, h3⟩
    · rintro D i zs H' hD hi ⟨ts, yi, h1, h2', h3, h4, h5, h6, h7, h8, h9⟩ R r
      have hDc : D ≠ cl := (ne_of_none cb h4).symm
      walk_at "rd"
      simp only [en]
      refine ⟨cl, n', yi, rfl, by omega, h6, fun t v H3 ys3 M => ?_⟩
      have hd3 := M.kp D _ hDc h3
      refine r v H3 hd3 ⟨ts ++ [t], ys3, by simp [h1], by simp [h2'], upd_same, h4, fun a o na ha => ?_, ?_, Nat.le_trans M.le h7, fun j z t' hz ht => ?_, ?_⟩
      · rw [upd_ne (ne_of_none ha h4)]
        exact M.kp a o na (h5 a o na ha)
      · show upd H3 D _ cl = _
        rw [upd_ne hDc.symm]
        exact M.lc
      · have tk' : Tk H3 (upd H3 D (.lst (zs ++ [v]))) := fun a xs ha => by rw [upd_ne (ne_of ha hd3 (by intro z; cases z))]; exact ha
        rcases Nat.lt_trichotomy j zs.length with hj | hj | hj
        · rw [List.getElem?_append_left hj] at hz
          rw [List.getElem?_append_left (by omega)] at ht
          obtain ⟨x1, x2, x3⟩ := h8 j z t' hz ht
          exact ⟨(x1.keep (M.kp.tk h6)).keep tk', x2, x3⟩
        · subst hj
          have ez : v = z := by simpa using hz
          have et : t = t' := by rw [h1, ← h2'] at ht; simpa using ht
          subst ez et
          exact ⟨M.ta.keep tk', M.gd, M.deep⟩
        · rw [List.getElem?_eq_none (by rw [List.length_append, List.length_singleton]; omega)] at hz; cases hz
      · have := M.len
        rw [List.map_append, List.sum_append]
        simp only [List.map_cons, List.map_nil, List.sum_cons, List.sum_nil]
        omega
    · rintro D zs H' hD ⟨ts, yi, h1, h2', h3, h4, h5, h6, h7, h8, h9⟩
      match zs, h1, ts, h2' with
      | [v1, v2, v3], _, [t1, t2, t3], _ =>
        obtain ⟨a1, a2, a3⟩ := h8 0 v1 t1 rfl rfl
        obtain ⟨b1, b2, b3⟩ := h8 1 v2 t2 rfl rfl
        obtain ⟨d1, d2, d3⟩ := h8 2 v3 t3 rfl rfl
        refine ⟨_, rfl, _, .inl ⟨SqL.of h3, fun p1 hp1 => ⟨few (by decide), fun p2 hp2 => ?_⟩⟩⟩
        have u1 := Same.upd_new hp1 (.tup [v1, v2, v3])
        have u2 := Same.upd_new hp2 (.tup [V.str (Str.ofString "when"), V.ref p1])
        have s := u1.trans u2
        refine q (.when t1 t2 t3) _ _ yi ⟨((k1.trans (.of u)).trans h5).trans (.of s), h6.keep s, Nat.le_trans h7 tk.le, ⟨p2, p1, v1, v2, v3, rfl, upd_same, u2 _ _ upd_same, a1.keep (.of s), b1.keep (.of s), d1.keep (.of s)⟩, ⟨a2, b2, d2⟩, by simp only [dp]; omega, ?_⟩
        have := len_when t1 t2 t3
        simp only [List.map_cons, List.map_nil, List.sum_cons, List.sum_nil] at h9
        omega
end KW
set_option maxHeartbeats 8000000
namespace KW
open PySem L2

variable {g : Gx}
variable {C : Addr}
local macro_rules | `(tactic| walk_at "sd") => `(tactic| simp (config := { failIfUnchanged := false, maxSteps := 10000000 }) only [l_num, l_here, l_count, l_sum, l_not, l_turned, l_plus, l_times, l_less, l_same, l_both, l_each, l_joined, l_part, l_when, ms_inj, in_cons, in_nil, Bool.or_false, Bool.false_or, Bool.or_self, Bool.true_or, Bool.or_true, reduceCtorEq, V.str.injEq, List.mem_cons, List.not_mem_nil, or_false, false_or, or_true, true_or, or_self, not_true_eq_false, not_false_eq_true, if_true, if_false, ite_true, ite_false, decide_true, decide_false, Bool.false_eq_true, and_true, true_and, and_false, false_and, false_implies, true_implies])

local macro_rules | `(tactic| walk_at "gn") => `(tactic| simp only [gName, List.set_cons_zero, List.set_cons_succ])

local macro_rules | `(tactic| walk_at "rd") => `(tactic| simp (config := { failIfUnchanged := false, maxSteps := 10000000 }) only [L2.start, cxOf_K, nox_K, List.map_cons, List.map_nil, List.length_cons, List.length_nil, List.cons_append, List.nil_append, List.replicate_succ, List.replicate_zero, Nat.zero_add, Nat.reduceAdd, Nat.reduceSub, Nat.sub_self, tSeq, tIfS, tTest, tOp, tC, tVar, rI0, rI, rU, tUn, tRet, tRetN, tDrop, tNext, tBreak, tCont, tAsg, gName, gNil, gCons, tCons, tNil, tCB, tCall, tTry, tTryAs, tRaise, sFld, tFld, tMake, tMeth, Ends.gone, caught_K, tB, tAnd, tOr, tNot, tAndV, tOrV, tNotV, tIf, tChain, tNoPart, tPart, tSl, tNever, tAug, rIxL, rIxT, rSlL, tLst, tTup, gTup, tRev, tLZ, tConT, tDict0, rBits, rFind, rIn, tBM, tBM0, rAppend, rReverse, rEq, rNe, scal_ii, scal_ss, rCat, rSetL, gSub, ipI, capSt, List.getD_cons_zero, List.getD_cons_succ, decide_true, not_true_eq_false, not_false_eq_true,
  exists_eq_left', exists_eq_left, exists_eq', exists_eq, exists_and_left, and_assoc, Option.some.injEq, V.int.injEq, V.bl.injEq, V.ref.injEq, V.str.injEq, List.getElem?_cons_zero, List.getElem?_cons_succ, List.set_cons_zero, List.set_cons_succ, List.cons.injEq, and_true, true_and, List.append_nil, decide_eq_true_eq, Bool.not_eq_true', decide_eq_false_iff_not, Bool.not_not, Bool.not_true, Bool.not_false, Bool.true_eq_false, Bool.false_eq_true, if_true, if_false, ite_true, ite_false])

theorem body_law {k : Nat} {C_NoteReader : Addr} (F_read_term : g.Fn k "read_term" ["text"] (sp_read_term g.K)) (F_show_term : g.Fn k "show_term" ["term"] (sp_show_term g.K 9)) (F_law_term : g.Fn k "_law_term" ["_law_cells", "_law_left"] (sp_law_term g.K 7)) (F_law_text : g.Fn k "_law_text" ["_law_term_here"] (sp_law_text g.K 9)) (F_law_same : g.Fn k "_law_same" ["_law_found", "_law_due"] (sp_law_same g.K 17)) (b_list : g.mg "list" = none) : Body g k ["_law_script", "_law_term_here", "_law_text_here"] "law" s_law (spTrue g.K) := by
  refine fun f_ cdv A outer s H vs Q E hr h => ?_
  obtain ⟨a, ns, rfl, hS, hl, q⟩ := h
  refine ⟨_, (@pss_cons _ _ _ _ _ (@ps_set _ _ (1) _ _ _ _ sc_law.nd rfl (Or.inl rfl) (@pe_fn _ _ _ _ _ _ _ _ _ _ _ _ F_law_term hr (@pa_cons _ _ _ _ _ (@pe_bt _ _ _ _ _ _ _ _ _ _ b_list call_list_of (@pa_cons _ _ _ _ _ (@pe_slice _ _ _ _ _ _ _ _ _ _ sl_list (@pv _ 0 _ _ (by rfl) (by first | exact Or.inl rfl | exact Or.inr (Or.inl rfl) | exact Or.inr (Or.inr rfl)) (by decide) (by decide)) po_none (@po_some _ _ _ pe_int)) pa_nil (by rfl)) (by decide +kernel) (by rfl) (by rfl) (by decide) (by decide) (by rfl) (by rfl)) (@pa_cons _ _ _ _ _ pe_int pa_nil (by rfl)) (by rfl)) (by omega) (by rfl) (by rfl) (by decide) (by rfl) (by rfl)) (by rfl) (by first | exact .inl rfl | exact .inr rfl | assumption)) (@pss_cons _ _ _ _ _ (@ps_set _ _ (2) _ _ _ _ sc_law.nd rfl (Or.inl rfl) (@pe_fn _ _ _ _ _ _ _ _ _ _ _ _ F_law_text hr (@pa_cons _ _ _ _ _ (@pv _ 1 _ _ (by rfl) (by first | exact Or.inl rfl | exact Or.inr (Or.inl rfl) | exact Or.inr (Or.inr rfl)) (by decide) (by decide)) pa_nil (by rfl)) (by omega) (by rfl) (by rfl) (by decide) (by rfl) (by rfl)) (by rfl) (by first | exact .inl rfl | exact .inr rfl | assumption)) (@pss_one _ _ _ (@ps_ret _ _ _ _ (@pe_and _ _ _ _ _ _ _ (@pe_fn _ _ _ _ _ _ _ _ _ _ _ _ F_law_same hr (@pa_cons _ _ _ _ _ (@pe_fn _ _ _ _ _ _ _ _ _ _ _ _ F_read_term hr (@pa_cons _ _ _ _ _ (@pv _ 2 _ _ (by rfl) (by first | exact Or.inl rfl | exact Or.inr (Or.inl rfl) | exact Or.inr (Or.inr rfl)) (by decide) (by decide)) pa_nil (by rfl)) (by omega) (by rfl) (by rfl) (by decide) (by rfl) (by rfl)) (@pa_cons _ _ _ _ _ (@pv _ 1 _ _ (by rfl) (by first | exact Or.inl rfl | exact Or.inr (Or.inl rfl) | exact Or.inr (Or.inr rfl)) (by decide) (by decide)) pa_nil (by rfl)) (by rfl)) (by omega) (by rfl) (by rfl) (by decide) (by rfl) (by rfl)) (@pe_one _ _ _ _ _ (@pe_fn _ _ _ _ _ _ _ _ _ _ _ _ F_law_same hr (@pa_cons _ _ _ _ _ (@pe_fn _ _ _ _ _ _ _ _ _ _ _ _ F_show_term hr (@pa_cons _ _ _ _ _ (@pv _ 1 _ _ (by rfl) (by first | exact Or.inl rfl | exact Or.inr (Or.inl rfl) | exact Or.inr (Or.inr rfl)) (by decide) (by decide)) pa_nil (by rfl)) (by omega) (by rfl) (by rfl) (by decide) (by rfl) (by rfl)) (@pa_cons _ _ _ _ _ (@pv _ 2 _ _ (by rfl) (by first | exact Or.inl rfl | exact Or.inr (Or.inl rfl) | exact Or.inr (Or.inr rfl)) (by decide) (by decide)) pa_nil (by rfl)) (by rfl)) (by omega) (by rfl) (by rfl) (by decide) (by rfl) (by rfl)))))))), ?_⟩
  have e0 : cutV (ns.map V.int) none (some 63) = (ns.take 63).map V.int := by
    have := cutV_nn (ns.map V.int) 0 63
    rw [show ((63 : Nat) : Int) = 63 from rfl, List.drop_zero, Nat.sub_zero, ← List.map_take] at this
    exact this
  walk_at "rd"
  refine ⟨_, hS, fun p hp => ?_⟩
  rw [e0]
  refine ⟨_, .inl (SqL.of upd_same), fun cl hcl => ⟨cl, 6, ns.take 63, rfl, by decide, upd_same, fun t v H1 ys1 M => ?_⟩⟩
  have hlen : (tt t).length ≤ 2000 := by
    have h1 := M.len
    have h2 := phi_le (n := (ns.take 63).length) (m := 63) (by rw [List.length_take]; omega)
    have h3 : phi 63 = 1855 := rfl
    omega
  obtain ⟨k, hk⟩ := M.ta.tm (n := 8) M.gd (by have := M.deep; omega)
  have hsl : (S (tt t)).length ≤ 1000000 := by rw [S_len]; omega
  refine ⟨v, k, _, rfl, hk, hsl, fun H2 s2 => ⟨t, rfl, M.gd, M.deep, hlen, fun v' H3 s3 t3 => ?_⟩⟩
  have tv := M.ta.keep (.of (s2.trans s3))
  have hd := M.deep
  refine ⟨v', v, dt t, rfl, t3.vn (n := 14) (by omega), tv.vn (n := 14) (by omega), fun H4 s4 => ⟨_, rfl, iteT ?_⟩⟩
  refine ⟨v, k, _, rfl, hk.keep (.of ((s2.trans s3).trans s4)), hsl, fun H5 s5 => ⟨_, _, .str (S (tt t)), rfl, rfl, rfl, fun H6 s6 => q _⟩⟩
end KW
set_option maxHeartbeats 8000000
namespace KW
open PySem L2

variable {g : Gx}
variable {C : Addr}
local macro_rules | `(tactic| walk_at "sd") => `(tactic| simp (config := { failIfUnchanged := false, maxSteps := 10000000 }) only [l_num, l_here, l_count, l_sum, l_not, l_turned, l_plus, l_times, l_less, l_same, l_both, l_each, l_joined, l_part, l_when, ms_inj, in_cons, in_nil, Bool.or_false, Bool.false_or, Bool.or_self, Bool.true_or, Bool.or_true, reduceCtorEq, V.str.injEq, List.mem_cons, List.not_mem_nil, or_false, false_or, or_true, true_or, or_self, not_true_eq_false, not_false_eq_true, if_true, if_false, ite_true, ite_false, decide_true, decide_false, Bool.false_eq_true, and_true, true_and, and_false, false_and, false_implies, true_implies])

local macro_rules | `(tactic| walk_at "gn") => `(tactic| simp only [gName, List.set_cons_zero, List.set_cons_succ])

local macro_rules | `(tactic| walk_at "rd") => `(tactic| simp (config := { failIfUnchanged := false, maxSteps := 10000000 }) only [L2.start, cxOf_K, nox_K, List.map_cons, List.map_nil, List.length_cons, List.length_nil, List.cons_append, List.nil_append, List.replicate_succ, List.replicate_zero, Nat.zero_add, Nat.reduceAdd, Nat.reduceSub, Nat.sub_self, tSeq, tIfS, tTest, tOp, tC, tVar, rI0, rI, rU, tUn, tRet, tRetN, tDrop, tNext, tBreak, tCont, tAsg, gName, gNil, gCons, tCons, tNil, tCB, tCall, tTry, tTryAs, tRaise, sFld, tFld, tMake, tMeth, Ends.gone, caught_K, tB, tAnd, tOr, tNot, tAndV, tOrV, tNotV, tIf, tChain, tNoPart, tPart, tSl, tNever, tAug, rIxL, rIxT, rSlL, tLst, tTup, gTup, tRev, tLZ, tConT, tDict0, rBits, rFind, rIn, tBM, tBM0, rAppend, rReverse, rEq, rNe, scal_ii, scal_ss, rCat, rSetL, gSub, ipI, capSt, List.getD_cons_zero, List.getD_cons_succ, decide_true, not_true_eq_false, not_false_eq_true,
  exists_eq_left', exists_eq_left, exists_eq', exists_eq, exists_and_left, and_assoc, Option.some.injEq, V.int.injEq, V.bl.injEq, V.ref.injEq, V.str.injEq, List.getElem?_cons_zero, List.getElem?_cons_succ, List.set_cons_zero, List.set_cons_succ, List.cons.injEq, and_true, true_and, List.append_nil, decide_eq_true_eq, Bool.not_eq_true', decide_eq_false_iff_not, Bool.not_not, Bool.not_true, Bool.not_false, Bool.true_eq_false, Bool.false_eq_true, if_true, if_false, ite_true, ite_false])

structure Top (K : PySem.W.Frag) (mg : Str → Option Value) (C_NoteReader : Addr) : Prop where
  f_is_figure : ∀ P w base, (Gx.mk P w K mg base).Raw "is_figure" "is_figure" s_is_figure ["sign"]
  f_is_small_letter : ∀ P w base, (Gx.mk P w K mg base).Raw "is_small_letter" "is_small_letter" s_is_small_letter ["sign"]
  f_is_letter_or_figure : ∀ P w base, (Gx.mk P w K mg base).Raw "is_letter_or_figure" "is_letter_or_figure" s_is_letter_or_figure ["sign"]
  f_is_word_sign : ∀ P w base, (Gx.mk P w K mg base).Raw "is_word_sign" "is_word_sign" s_is_word_sign ["sign"]
  f_is_label : ∀ P w base, (Gx.mk P w K mg base).Raw "is_label" "is_label" s_is_label ["text"]
  f_NoteReader___init__ : ∀ P w base, (Gx.mk P w K mg base).RawI "NoteReader" C_NoteReader "NoteReader.__init__" s_NoteReader___init__ ["self", "text"]
  f_NoteReader_sign_here : ∀ P w base, (Gx.mk P w K mg base).RawM C_NoteReader "sign_here" "NoteReader.sign_here" s_NoteReader_sign_here ["self"]
  f_NoteReader_takes : ∀ P w base, (Gx.mk P w K mg base).RawM C_NoteReader "takes" "NoteReader.takes" s_NoteReader_takes ["self", "sign"]
  f_NoteReader_word_signs : ∀ P w base, (Gx.mk P w K mg base).RawM C_NoteReader "word_signs" "NoteReader.word_signs" s_NoteReader_word_signs ["self"]
  f_NoteReader_labelled_note : ∀ P w base, (Gx.mk P w K mg base).RawM C_NoteReader "labelled_note" "NoteReader.labelled_note" s_NoteReader_labelled_note ["self"]
  f_NoteReader_bracketed_notes : ∀ P w base, (Gx.mk P w K mg base).RawM C_NoteReader "bracketed_notes" "NoteReader.bracketed_notes" s_NoteReader_bracketed_notes ["self"]
  f_NoteReader_at_end : ∀ P w base, (Gx.mk P w K mg base).RawM C_NoteReader "at_end" "NoteReader.at_end" s_NoteReader_at_end ["self"]
  f_refuse_crowded : ∀ P w base, (Gx.mk P w K mg base).Raw "refuse_crowded" "refuse_crowded" s_refuse_crowded ["text"]
  f_read_note : ∀ P w base, (Gx.mk P w K mg base).Raw "read_note" "read_note" s_read_note ["text"]
  f_inner_terms : ∀ P w base, (Gx.mk P w K mg base).Raw "inner_terms" "inner_terms" s_inner_terms ["term"]
  f_show_term : ∀ P w base, (Gx.mk P w K mg base).Raw "show_term" "show_term" s_show_term ["term"]
  f_law_text : ∀ P w base, (Gx.mk P w K mg base).Raw "_law_text" "_law_text" s_law_text ["_law_term_here"]
  f_law_same : ∀ P w base, (Gx.mk P w K mg base).Raw "_law_same" "_law_same" s_law_same ["_law_found", "_law_due"]
  f_is_number_word : ∀ P w base, (Gx.mk P w K mg base).Raw "is_number_word" "is_number_word" s_is_number_word ["word"]
  f_lone_word : ∀ P w base, (Gx.mk P w K mg base).Raw "lone_word" "lone_word" s_lone_word ["note"]
  f_refuse_other_many : ∀ P w base, (Gx.mk P w K mg base).Raw "refuse_other_many" "refuse_other_many" s_refuse_other_many ["notes", "many"]
  f_number_drafted : ∀ P w base, (Gx.mk P w K mg base).Raw "number_drafted" "number_drafted" s_number_drafted ["note"]
  f_place_of_note : ∀ P w base, (Gx.mk P w K mg base).Raw "place_of_note" "place_of_note" s_place_of_note ["note"]
  f_term_of_word : ∀ P w base, (Gx.mk P w K mg base).Raw "term_of_word" "term_of_word" s_term_of_word ["word"]
  f_part_of_notes : ∀ P w base, (Gx.mk P w K mg base).Raw "part_of_notes" "part_of_notes" s_part_of_notes ["notes"]
  f_one_of_notes : ∀ P w base, (Gx.mk P w K mg base).Raw "one_of_notes" "one_of_notes" s_one_of_notes ["mark", "notes"]
  f_several_of_notes : ∀ P w base, (Gx.mk P w K mg base).Raw "several_of_notes" "several_of_notes" s_several_of_notes ["mark", "notes", "many"]
  f_term_of_note : ∀ P w base, (Gx.mk P w K mg base).Raw "term_of_note" "term_of_note" s_term_of_note ["note"]
  f_read_term : ∀ P w base, (Gx.mk P w K mg base).Raw "read_term" "read_term" s_read_term ["text"]
  f_law_take : ∀ P w base, (Gx.mk P w K mg base).Raw "_law_take" "_law_take" s_law_take ["_law_cells", "_law_many"]
  f_law_term : ∀ P w base, (Gx.mk P w K mg base).Raw "_law_term" "_law_term" s_law_term ["_law_cells", "_law_left"]
  cl_NoteReader : Cls K C_NoteReader
  n_NoteReader_text : NoAttr K C_NoteReader "text"
  n_NoteReader_place : NoAttr K C_NoteReader "place"
  c_LAST_PLACE : ∀ P w base, (Gx.mk P w K mg base).Con "LAST_PLACE" (.int 20)
  c_LONGEST_LABEL : ∀ P w base, (Gx.mk P w K mg base).Con "LONGEST_LABEL" (.int 8)
  c_LONGEST_WORD : ∀ P w base, (Gx.mk P w K mg base).Con "LONGEST_WORD" (.int 62)
  c_MOST_BRACKETS : ∀ P w base, (Gx.mk P w K mg base).Con "MOST_BRACKETS" (.int 6)
  c_MOST_FIGURES : ∀ P w base, (Gx.mk P w K mg base).Con "MOST_FIGURES" (.int 60)
  c_MOST_SIGNS : ∀ P w base, (Gx.mk P w K mg base).Con "MOST_SIGNS" (.int 2000)
  c_OF_ONE_TERM : ∀ P w base, (Gx.mk P w K mg base).ConT "OF_ONE_TERM" ([.str "count", .str "sum", .str "not", .str "turned"])
  c_OF_TWO_TERMS : ∀ P w base, (Gx.mk P w K mg base).ConT "OF_TWO_TERMS" ([.str "plus", .str "times", .str "less", .str "same", .str "both", .str "each", .str "joined"])
  b_all : mg "all" = none
  b_bool : mg "bool" = none
  b_int : mg "int" = none
  b_isinstance : mg "isinstance" = none
  b_len : mg "len" = none
  b_list : mg "list" = none
  b_range : mg "range" = none
  b_str : mg "str" = none
  b_tuple : mg "tuple" = none
  b_zip : mg "zip" = none
theorem law_body {K : PySem.W.Frag} {mg : Str → Option Value} {C_NoteReader : Addr} (t : Top K mg C_NoteReader) (P : Program) (w : World) (base : Heap) :
    Body (Gx.mk P w K mg base) 21 ["_law_script", "_law_term_here", "_law_text_here"] "law" s_law (spTrue K) := by
  have G_is_figure := Rd.ok_fig (g := Gx.mk P w K mg base) (t.f_is_figure P w base)
  have G_read_note := Rd.read_all (g := Gx.mk P w K mg base) (C := C_NoteReader) ⟨t.cl_NoteReader, t.n_NoteReader_text, t.n_NoteReader_place⟩ (t.f_is_figure P w base) (t.f_is_small_letter P w base) (t.f_is_letter_or_figure P w base) (t.f_is_word_sign P w base) (t.f_is_label P w base) (t.f_NoteReader___init__ P w base) (t.f_NoteReader_sign_here P w base) (t.f_NoteReader_takes P w base) (t.f_NoteReader_word_signs P w base) (t.f_NoteReader_labelled_note P w base) (t.f_NoteReader_bracketed_notes P w base) (t.f_NoteReader_at_end P w base) (t.f_refuse_crowded P w base) (t.f_read_note P w base) (t.c_MOST_SIGNS P w base) (t.c_MOST_BRACKETS P w base) (t.c_LONGEST_WORD P w base) (t.c_LONGEST_LABEL P w base) t.b_len t.b_all t.b_isinstance t.b_str t.b_tuple
  have G_inner_terms := ok_inner_terms (g := Gx.mk P w K mg base) (C_NoteReader := C_NoteReader) (t.f_inner_terms P w base) t.b_list (t.c_OF_ONE_TERM P w base) (t.c_OF_TWO_TERMS P w base)
  have G_show_term_1 := ok_show_term (g := Gx.mk P w K mg base) (m := 0) (k := 1) (C_NoteReader := C_NoteReader) (t.f_show_term P w base) (G_inner_terms.mono (by decide)) ((t.f_show_term P w base).none (fun _ _ _ _ h => no_show h)) t.b_str
  have G_show_term_2 := ok_show_term (g := Gx.mk P w K mg base) (m := 1) (k := 2) (C_NoteReader := C_NoteReader) (t.f_show_term P w base) (G_inner_terms.mono (by decide)) (G_show_term_1.mono (by decide)) t.b_str
  have G_show_term_3 := ok_show_term (g := Gx.mk P w K mg base) (m := 2) (k := 3) (C_NoteReader := C_NoteReader) (t.f_show_term P w base) (G_inner_terms.mono (by decide)) (G_show_term_2.mono (by decide)) t.b_str
  have G_show_term_4 := ok_show_term (g := Gx.mk P w K mg base) (m := 3) (k := 4) (C_NoteReader := C_NoteReader) (t.f_show_term P w base) (G_inner_terms.mono (by decide)) (G_show_term_3.mono (by decide)) t.b_str
  have G_show_term_5 := ok_show_term (g := Gx.mk P w K mg base) (m := 4) (k := 5) (C_NoteReader := C_NoteReader) (t.f_show_term P w base) (G_inner_terms.mono (by decide)) (G_show_term_4.mono (by decide)) t.b_str
  have G_show_term_6 := ok_show_term (g := Gx.mk P w K mg base) (m := 5) (k := 6) (C_NoteReader := C_NoteReader) (t.f_show_term P w base) (G_inner_terms.mono (by decide)) (G_show_term_5.mono (by decide)) t.b_str
  have G_show_term_7 := ok_show_term (g := Gx.mk P w K mg base) (m := 6) (k := 7) (C_NoteReader := C_NoteReader) (t.f_show_term P w base) (G_inner_terms.mono (by decide)) (G_show_term_6.mono (by decide)) t.b_str
  have G_show_term_8 := ok_show_term (g := Gx.mk P w K mg base) (m := 7) (k := 8) (C_NoteReader := C_NoteReader) (t.f_show_term P w base) (G_inner_terms.mono (by decide)) (G_show_term_7.mono (by decide)) t.b_str
  have G_show_term := ok_show_term (g := Gx.mk P w K mg base) (m := 8) (k := 9) (C_NoteReader := C_NoteReader) (t.f_show_term P w base) (G_inner_terms.mono (by decide)) (G_show_term_8.mono (by decide)) t.b_str
  have G_law_text_1 := ok_law_text (g := Gx.mk P w K mg base) (m := 0) (k := 0) (C_NoteReader := C_NoteReader) (t.f_law_text P w base) ((t.f_law_text P w base).none (fun _ _ _ _ h => no_text h)) t.b_str
  have G_law_text_2 := ok_law_text (g := Gx.mk P w K mg base) (m := 1) (k := 1) (C_NoteReader := C_NoteReader) (t.f_law_text P w base) (G_law_text_1.mono (by decide)) t.b_str
  have G_law_text_3 := ok_law_text (g := Gx.mk P w K mg base) (m := 2) (k := 2) (C_NoteReader := C_NoteReader) (t.f_law_text P w base) (G_law_text_2.mono (by decide)) t.b_str
  have G_law_text_4 := ok_law_text (g := Gx.mk P w K mg base) (m := 3) (k := 3) (C_NoteReader := C_NoteReader) (t.f_law_text P w base) (G_law_text_3.mono (by decide)) t.b_str
  have G_law_text_5 := ok_law_text (g := Gx.mk P w K mg base) (m := 4) (k := 4) (C_NoteReader := C_NoteReader) (t.f_law_text P w base) (G_law_text_4.mono (by decide)) t.b_str
  have G_law_text_6 := ok_law_text (g := Gx.mk P w K mg base) (m := 5) (k := 5) (C_NoteReader := C_NoteReader) (t.f_law_text P w base) (G_law_text_5.mono (by decide)) t.b_str
  have G_law_text_7 := ok_law_text (g := Gx.mk P w K mg base) (m := 6) (k := 6) (C_NoteReader := C_NoteReader) (t.f_law_text P w base) (G_law_text_6.mono (by decide)) t.b_str
  have G_law_text_8 := ok_law_text (g := Gx.mk P w K mg base) (m := 7) (k := 7) (C_NoteReader := C_NoteReader) (t.f_law_text P w base) (G_law_text_7.mono (by decide)) t.b_str
  have G_law_text := ok_law_text (g := Gx.mk P w K mg base) (m := 8) (k := 8) (C_NoteReader := C_NoteReader) (t.f_law_text P w base) (G_law_text_8.mono (by decide)) t.b_str
  have G_law_same_1 := ok_law_same (g := Gx.mk P w K mg base) (m := 0) (k := 0) (C_NoteReader := C_NoteReader) (t.f_law_same P w base) ((t.f_law_same P w base).none (fun _ _ _ _ h => no_same h)) t.b_all t.b_bool t.b_int t.b_isinstance t.b_len t.b_list t.b_str t.b_tuple t.b_zip
  have G_law_same_2 := ok_law_same (g := Gx.mk P w K mg base) (m := 1) (k := 1) (C_NoteReader := C_NoteReader) (t.f_law_same P w base) (G_law_same_1.mono (by decide)) t.b_all t.b_bool t.b_int t.b_isinstance t.b_len t.b_list t.b_str t.b_tuple t.b_zip
  have G_law_same_3 := ok_law_same (g := Gx.mk P w K mg base) (m := 2) (k := 2) (C_NoteReader := C_NoteReader) (t.f_law_same P w base) (G_law_same_2.mono (by decide)) t.b_all t.b_bool t.b_int t.b_isinstance t.b_len t.b_list t.b_str t.b_tuple t.b_zip
  have G_law_same_4 := ok_law_same (g := Gx.mk P w K mg base) (m := 3) (k := 3) (C_NoteReader := C_NoteReader) (t.f_law_same P w base) (G_law_same_3.mono (by decide)) t.b_all t.b_bool t.b_int t.b_isinstance t.b_len t.b_list t.b_str t.b_tuple t.b_zip
  have G_law_same_5 := ok_law_same (g := Gx.mk P w K mg base) (m := 4) (k := 4) (C_NoteReader := C_NoteReader) (t.f_law_same P w base) (G_law_same_4.mono (by decide)) t.b_all t.b_bool t.b_int t.b_isinstance t.b_len t.b_list t.b_str t.b_tuple t.b_zip
  have G_law_same_6 := ok_law_same (g := Gx.mk P w K mg base) (m := 5) (k := 5) (C_NoteReader := C_NoteReader) (t.f_law_same P w base) (G_law_same_5.mono (by decide)) t.b_all t.b_bool t.b_int t.b_isinstance t.b_len t.b_list t.b_str t.b_tuple t.b_zip
  have G_law_same_7 := ok_law_same (g := Gx.mk P w K mg base) (m := 6) (k := 6) (C_NoteReader := C_NoteReader) (t.f_law_same P w base) (G_law_same_6.mono (by decide)) t.b_all t.b_bool t.b_int t.b_isinstance t.b_len t.b_list t.b_str t.b_tuple t.b_zip
  have G_law_same_8 := ok_law_same (g := Gx.mk P w K mg base) (m := 7) (k := 7) (C_NoteReader := C_NoteReader) (t.f_law_same P w base) (G_law_same_7.mono (by decide)) t.b_all t.b_bool t.b_int t.b_isinstance t.b_len t.b_list t.b_str t.b_tuple t.b_zip
  have G_law_same_9 := ok_law_same (g := Gx.mk P w K mg base) (m := 8) (k := 8) (C_NoteReader := C_NoteReader) (t.f_law_same P w base) (G_law_same_8.mono (by decide)) t.b_all t.b_bool t.b_int t.b_isinstance t.b_len t.b_list t.b_str t.b_tuple t.b_zip
  have G_law_same_10 := ok_law_same (g := Gx.mk P w K mg base) (m := 9) (k := 9) (C_NoteReader := C_NoteReader) (t.f_law_same P w base) (G_law_same_9.mono (by decide)) t.b_all t.b_bool t.b_int t.b_isinstance t.b_len t.b_list t.b_str t.b_tuple t.b_zip
  have G_law_same_11 := ok_law_same (g := Gx.mk P w K mg base) (m := 10) (k := 10) (C_NoteReader := C_NoteReader) (t.f_law_same P w base) (G_law_same_10.mono (by decide)) t.b_all t.b_bool t.b_int t.b_isinstance t.b_len t.b_list t.b_str t.b_tuple t.b_zip
  have G_law_same_12 := ok_law_same (g := Gx.mk P w K mg base) (m := 11) (k := 11) (C_NoteReader := C_NoteReader) (t.f_law_same P w base) (G_law_same_11.mono (by decide)) t.b_all t.b_bool t.b_int t.b_isinstance t.b_len t.b_list t.b_str t.b_tuple t.b_zip
  have G_law_same_13 := ok_law_same (g := Gx.mk P w K mg base) (m := 12) (k := 12) (C_NoteReader := C_NoteReader) (t.f_law_same P w base) (G_law_same_12.mono (by decide)) t.b_all t.b_bool t.b_int t.b_isinstance t.b_len t.b_list t.b_str t.b_tuple t.b_zip
  have G_law_same_14 := ok_law_same (g := Gx.mk P w K mg base) (m := 13) (k := 13) (C_NoteReader := C_NoteReader) (t.f_law_same P w base) (G_law_same_13.mono (by decide)) t.b_all t.b_bool t.b_int t.b_isinstance t.b_len t.b_list t.b_str t.b_tuple t.b_zip
  have G_law_same_15 := ok_law_same (g := Gx.mk P w K mg base) (m := 14) (k := 14) (C_NoteReader := C_NoteReader) (t.f_law_same P w base) (G_law_same_14.mono (by decide)) t.b_all t.b_bool t.b_int t.b_isinstance t.b_len t.b_list t.b_str t.b_tuple t.b_zip
  have G_law_same_16 := ok_law_same (g := Gx.mk P w K mg base) (m := 15) (k := 15) (C_NoteReader := C_NoteReader) (t.f_law_same P w base) (G_law_same_15.mono (by decide)) t.b_all t.b_bool t.b_int t.b_isinstance t.b_len t.b_list t.b_str t.b_tuple t.b_zip
  have G_law_same := ok_law_same (g := Gx.mk P w K mg base) (m := 16) (k := 16) (C_NoteReader := C_NoteReader) (t.f_law_same P w base) (G_law_same_16.mono (by decide)) t.b_all t.b_bool t.b_int t.b_isinstance t.b_len t.b_list t.b_str t.b_tuple t.b_zip
  have G_is_number_word := ok_is_number_word (g := Gx.mk P w K mg base) (k := 1) (C_NoteReader := C_NoteReader) (t.f_is_number_word P w base) (G_is_figure.mono (by decide)) t.b_all t.b_len (t.c_MOST_FIGURES P w base)
  have G_lone_word := ok_lone_word (g := Gx.mk P w K mg base) (C_NoteReader := C_NoteReader) (t.f_lone_word P w base) 
  have G_refuse_other_many := ok_refuse_other_many (g := Gx.mk P w K mg base) (C_NoteReader := C_NoteReader) (t.f_refuse_other_many P w base) t.b_len
  have G_number_drafted := ok_number_drafted (g := Gx.mk P w K mg base) (k := 2) (C_NoteReader := C_NoteReader) (t.f_number_drafted P w base) (G_is_number_word.mono (by decide)) (G_lone_word.mono (by decide)) t.b_int
  have G_place_of_note := ok_place_of_note (g := Gx.mk P w K mg base) (k := 3) (C_NoteReader := C_NoteReader) (t.f_place_of_note P w base) (G_number_drafted.mono (by decide)) (t.c_LAST_PLACE P w base)
  have G_term_of_word := ok_term_of_word (g := Gx.mk P w K mg base) (k := 2) (C_NoteReader := C_NoteReader) (t.f_term_of_word P w base) (G_is_number_word.mono (by decide)) t.b_int
  have G_part_of_notes_0 := ok_part_of_notes (g := Gx.mk P w K mg base) (m := 0) (k := 4) (C_NoteReader := C_NoteReader) (t.f_part_of_notes P w base) (G_refuse_other_many.mono (by decide)) (G_place_of_note.mono (by decide)) ((t.f_term_of_note P w base).none (fun _ _ _ _ h => no_ton h))
  have G_one_of_notes_0 := ok_one_of_notes (g := Gx.mk P w K mg base) (m := 0) (k := 4) (C_NoteReader := C_NoteReader) (t.f_one_of_notes P w base) (G_refuse_other_many.mono (by decide)) ((t.f_term_of_note P w base).none (fun _ _ _ _ h => no_ton h))
  have G_several_of_notes_0 := ok_several_of_notes (g := Gx.mk P w K mg base) (m := 0) (k := 4) (C_NoteReader := C_NoteReader) (t.f_several_of_notes P w base) (G_refuse_other_many.mono (by decide)) ((t.f_term_of_note P w base).none (fun _ _ _ _ h => no_ton h)) t.b_tuple
  have G_term_of_note_1 := ok_term_of_note (g := Gx.mk P w K mg base) (m := 0) (k := 5) (C_NoteReader := C_NoteReader) (t.f_term_of_note P w base) (G_part_of_notes_0.mono (by decide)) (G_one_of_notes_0.mono (by decide)) (G_several_of_notes_0.mono (by decide)) (G_term_of_word.mono (by decide)) (t.c_OF_ONE_TERM P w base) (t.c_OF_TWO_TERMS P w base)
  have G_part_of_notes_1 := ok_part_of_notes (g := Gx.mk P w K mg base) (m := 1) (k := 6) (C_NoteReader := C_NoteReader) (t.f_part_of_notes P w base) (G_refuse_other_many.mono (by decide)) (G_place_of_note.mono (by decide)) (G_term_of_note_1.mono (by decide))
  have G_one_of_notes_1 := ok_one_of_notes (g := Gx.mk P w K mg base) (m := 1) (k := 6) (C_NoteReader := C_NoteReader) (t.f_one_of_notes P w base) (G_refuse_other_many.mono (by decide)) (G_term_of_note_1.mono (by decide))
  have G_several_of_notes_1 := ok_several_of_notes (g := Gx.mk P w K mg base) (m := 1) (k := 6) (C_NoteReader := C_NoteReader) (t.f_several_of_notes P w base) (G_refuse_other_many.mono (by decide)) (G_term_of_note_1.mono (by decide)) t.b_tuple
  have G_term_of_note_2 := ok_term_of_note (g := Gx.mk P w K mg base) (m := 1) (k := 7) (C_NoteReader := C_NoteReader) (t.f_term_of_note P w base) (G_part_of_notes_1.mono (by decide)) (G_one_of_notes_1.mono (by decide)) (G_several_of_notes_1.mono (by decide)) (G_term_of_word.mono (by decide)) (t.c_OF_ONE_TERM P w base) (t.c_OF_TWO_TERMS P w base)
  have G_part_of_notes_2 := ok_part_of_notes (g := Gx.mk P w K mg base) (m := 2) (k := 8) (C_NoteReader := C_NoteReader) (t.f_part_of_notes P w base) (G_refuse_other_many.mono (by decide)) (G_place_of_note.mono (by decide)) (G_term_of_note_2.mono (by decide))
  have G_one_of_notes_2 := ok_one_of_notes (g := Gx.mk P w K mg base) (m := 2) (k := 8) (C_NoteReader := C_NoteReader) (t.f_one_of_notes P w base) (G_refuse_other_many.mono (by decide)) (G_term_of_note_2.mono (by decide))
  have G_several_of_notes_2 := ok_several_of_notes (g := Gx.mk P w K mg base) (m := 2) (k := 8) (C_NoteReader := C_NoteReader) (t.f_several_of_notes P w base) (G_refuse_other_many.mono (by decide)) (G_term_of_note_2.mono (by decide)) t.b_tuple
  have G_term_of_note_3 := ok_term_of_note (g := Gx.mk P w K mg base) (m := 2) (k := 9) (C_NoteReader := C_NoteReader) (t.f_term_of_note P w base) (G_part_of_notes_2.mono (by decide)) (G_one_of_notes_2.mono (by decide)) (G_several_of_notes_2.mono (by decide)) (G_term_of_word.mono (by decide)) (t.c_OF_ONE_TERM P w base) (t.c_OF_TWO_TERMS P w base)
  have G_part_of_notes_3 := ok_part_of_notes (g := Gx.mk P w K mg base) (m := 3) (k := 10) (C_NoteReader := C_NoteReader) (t.f_part_of_notes P w base) (G_refuse_other_many.mono (by decide)) (G_place_of_note.mono (by decide)) (G_term_of_note_3.mono (by decide))
  have G_one_of_notes_3 := ok_one_of_notes (g := Gx.mk P w K mg base) (m := 3) (k := 10) (C_NoteReader := C_NoteReader) (t.f_one_of_notes P w base) (G_refuse_other_many.mono (by decide)) (G_term_of_note_3.mono (by decide))
  have G_several_of_notes_3 := ok_several_of_notes (g := Gx.mk P w K mg base) (m := 3) (k := 10) (C_NoteReader := C_NoteReader) (t.f_several_of_notes P w base) (G_refuse_other_many.mono (by decide)) (G_term_of_note_3.mono (by decide)) t.b_tuple
  have G_term_of_note_4 := ok_term_of_note (g := Gx.mk P w K mg base) (m := 3) (k := 11) (C_NoteReader := C_NoteReader) (t.f_term_of_note P w base) (G_part_of_notes_3.mono (by decide)) (G_one_of_notes_3.mono (by decide)) (G_several_of_notes_3.mono (by decide)) (G_term_of_word.mono (by decide)) (t.c_OF_ONE_TERM P w base) (t.c_OF_TWO_TERMS P w base)
  have G_part_of_notes_4 := ok_part_of_notes (g := Gx.mk P w K mg base) (m := 4) (k := 12) (C_NoteReader := C_NoteReader) (t.f_part_of_notes P w base) (G_refuse_other_many.mono (by decide)) (G_place_of_note.mono (by decide)) (G_term_of_note_4.mono (by decide))
  have G_one_of_notes_4 := ok_one_of_notes (g := Gx.mk P w K mg base) (m := 4) (k := 12) (C_NoteReader := C_NoteReader) (t.f_one_of_notes P w base) (G_refuse_other_many.mono (by decide)) (G_term_of_note_4.mono (by decide))
  have G_several_of_notes_4 := ok_several_of_notes (g := Gx.mk P w K mg base) (m := 4) (k := 12) (C_NoteReader := C_NoteReader) (t.f_several_of_notes P w base) (G_refuse_other_many.mono (by decide)) (G_term_of_note_4.mono (by decide)) t.b_tuple
  have G_term_of_note_5 := ok_term_of_note (g := Gx.mk P w K mg base) (m := 4) (k := 13) (C_NoteReader := C_NoteReader) (t.f_term_of_note P w base) (G_part_of_notes_4.mono (by decide)) (G_one_of_notes_4.mono (by decide)) (G_several_of_notes_4.mono (by decide)) (G_term_of_word.mono (by decide)) (t.c_OF_ONE_TERM P w base) (t.c_OF_TWO_TERMS P w base)
  have G_part_of_notes_5 := ok_part_of_notes (g := Gx.mk P w K mg base) (m := 5) (k := 14) (C_NoteReader := C_NoteReader) (t.f_part_of_notes P w base) (G_refuse_other_many.mono (by decide)) (G_place_of_note.mono (by decide)) (G_term_of_note_5.mono (by decide))
  have G_one_of_notes_5 := ok_one_of_notes (g := Gx.mk P w K mg base) (m := 5) (k := 14) (C_NoteReader := C_NoteReader) (t.f_one_of_notes P w base) (G_refuse_other_many.mono (by decide)) (G_term_of_note_5.mono (by decide))
  have G_several_of_notes_5 := ok_several_of_notes (g := Gx.mk P w K mg base) (m := 5) (k := 14) (C_NoteReader := C_NoteReader) (t.f_several_of_notes P w base) (G_refuse_other_many.mono (by decide)) (G_term_of_note_5.mono (by decide)) t.b_tuple
  have G_term_of_note_6 := ok_term_of_note (g := Gx.mk P w K mg base) (m := 5) (k := 15) (C_NoteReader := C_NoteReader) (t.f_term_of_note P w base) (G_part_of_notes_5.mono (by decide)) (G_one_of_notes_5.mono (by decide)) (G_several_of_notes_5.mono (by decide)) (G_term_of_word.mono (by decide)) (t.c_OF_ONE_TERM P w base) (t.c_OF_TWO_TERMS P w base)
  have G_part_of_notes_6 := ok_part_of_notes (g := Gx.mk P w K mg base) (m := 6) (k := 16) (C_NoteReader := C_NoteReader) (t.f_part_of_notes P w base) (G_refuse_other_many.mono (by decide)) (G_place_of_note.mono (by decide)) (G_term_of_note_6.mono (by decide))
  have G_one_of_notes_6 := ok_one_of_notes (g := Gx.mk P w K mg base) (m := 6) (k := 16) (C_NoteReader := C_NoteReader) (t.f_one_of_notes P w base) (G_refuse_other_many.mono (by decide)) (G_term_of_note_6.mono (by decide))
  have G_several_of_notes_6 := ok_several_of_notes (g := Gx.mk P w K mg base) (m := 6) (k := 16) (C_NoteReader := C_NoteReader) (t.f_several_of_notes P w base) (G_refuse_other_many.mono (by decide)) (G_term_of_note_6.mono (by decide)) t.b_tuple
  have G_term_of_note_7 := ok_term_of_note (g := Gx.mk P w K mg base) (m := 6) (k := 17) (C_NoteReader := C_NoteReader) (t.f_term_of_note P w base) (G_part_of_notes_6.mono (by decide)) (G_one_of_notes_6.mono (by decide)) (G_several_of_notes_6.mono (by decide)) (G_term_of_word.mono (by decide)) (t.c_OF_ONE_TERM P w base) (t.c_OF_TWO_TERMS P w base)
  have G_part_of_notes_7 := ok_part_of_notes (g := Gx.mk P w K mg base) (m := 7) (k := 18) (C_NoteReader := C_NoteReader) (t.f_part_of_notes P w base) (G_refuse_other_many.mono (by decide)) (G_place_of_note.mono (by decide)) (G_term_of_note_7.mono (by decide))
  have G_one_of_notes_7 := ok_one_of_notes (g := Gx.mk P w K mg base) (m := 7) (k := 18) (C_NoteReader := C_NoteReader) (t.f_one_of_notes P w base) (G_refuse_other_many.mono (by decide)) (G_term_of_note_7.mono (by decide))
  have G_several_of_notes_7 := ok_several_of_notes (g := Gx.mk P w K mg base) (m := 7) (k := 18) (C_NoteReader := C_NoteReader) (t.f_several_of_notes P w base) (G_refuse_other_many.mono (by decide)) (G_term_of_note_7.mono (by decide)) t.b_tuple
  have G_term_of_note := ok_term_of_note (g := Gx.mk P w K mg base) (m := 7) (k := 19) (C_NoteReader := C_NoteReader) (t.f_term_of_note P w base) (G_part_of_notes_7.mono (by decide)) (G_one_of_notes_7.mono (by decide)) (G_several_of_notes_7.mono (by decide)) (G_term_of_word.mono (by decide)) (t.c_OF_ONE_TERM P w base) (t.c_OF_TWO_TERMS P w base)
  have G_read_term := ok_read_term (g := Gx.mk P w K mg base) (k := 20) (C_NoteReader := C_NoteReader) (t.f_read_term P w base) (G_read_note.mono (by decide)) (G_term_of_note.mono (by decide))
  have G_law_take := ok_law_take (g := Gx.mk P w K mg base) (C_NoteReader := C_NoteReader) (t.f_law_take P w base) 
  have G_law_term_1 := ok_law_term (g := Gx.mk P w K mg base) (m := 0) (k := 1) (C_NoteReader := C_NoteReader) (t.f_law_term P w base) (G_law_take.mono (by decide)) ((t.f_law_term P w base).none (fun _ _ _ _ h => no_term h)) t.b_range t.b_tuple
  have G_law_term_2 := ok_law_term (g := Gx.mk P w K mg base) (m := 1) (k := 2) (C_NoteReader := C_NoteReader) (t.f_law_term P w base) (G_law_take.mono (by decide)) (G_law_term_1.mono (by decide)) t.b_range t.b_tuple
  have G_law_term_3 := ok_law_term (g := Gx.mk P w K mg base) (m := 2) (k := 3) (C_NoteReader := C_NoteReader) (t.f_law_term P w base) (G_law_take.mono (by decide)) (G_law_term_2.mono (by decide)) t.b_range t.b_tuple
  have G_law_term_4 := ok_law_term (g := Gx.mk P w K mg base) (m := 3) (k := 4) (C_NoteReader := C_NoteReader) (t.f_law_term P w base) (G_law_take.mono (by decide)) (G_law_term_3.mono (by decide)) t.b_range t.b_tuple
  have G_law_term_5 := ok_law_term (g := Gx.mk P w K mg base) (m := 4) (k := 5) (C_NoteReader := C_NoteReader) (t.f_law_term P w base) (G_law_take.mono (by decide)) (G_law_term_4.mono (by decide)) t.b_range t.b_tuple
  have G_law_term_6 := ok_law_term (g := Gx.mk P w K mg base) (m := 5) (k := 6) (C_NoteReader := C_NoteReader) (t.f_law_term P w base) (G_law_take.mono (by decide)) (G_law_term_5.mono (by decide)) t.b_range t.b_tuple
  have G_law_term := ok_law_term (g := Gx.mk P w K mg base) (m := 6) (k := 7) (C_NoteReader := C_NoteReader) (t.f_law_term P w base) (G_law_take.mono (by decide)) (G_law_term_6.mono (by decide)) t.b_range t.b_tuple
  exact body_law (g := Gx.mk P w K mg base) (k := 21) (C_NoteReader := C_NoteReader) (G_read_term.mono (by decide)) (G_show_term.mono (by decide)) (G_law_term.mono (by decide)) (G_law_text.mono (by decide)) (G_law_same.mono (by decide)) t.b_list
end KW
open PySem PySem.W PyProof.Rows
set_option maxRecDepth 100000 in
set_option maxHeartbeats 0 in
theorem PySem.Challenge.cw_countgen_k50_terms_read_holds : PySem.Challenge.rw_countgen_k50_terms_read.Holds := by
  w_on; o_law; k_head; (case hw => w_witness2)
  k_fill
  refine L2.walk_gx (l := PySem.Challenge.rw_countgen_k50_terms_read) 21 "_law_script" KW.s_law ["_law_script", "_law_term_here", "_law_text_here"] rfl rfl ⟨rfl, by decide, by decide⟩ KW.sc_law (fun w h Y => by first | exact PySem.W.kIn_of Y | exact PySem.W.km_in_of Y) ?F
  case F =>
    intro w mg h KX G
    refine' ⟨L2.lawRaw_mk KX G ?a ?l ?c ?k (fun _ _ _ _ _ _ _ _ => .of_eq rfl), fun base => KW.law_body ⟨?f_is_figure, ?f_is_small_letter, ?f_is_letter_or_figure, ?f_is_word_sign, ?f_is_label, ?f_NoteReader___init__, ?f_NoteReader_sign_here, ?f_NoteReader_takes, ?f_NoteReader_word_signs, ?f_NoteReader_labelled_note, ?f_NoteReader_bracketed_notes, ?f_NoteReader_at_end, ?f_refuse_crowded, ?f_read_note, ?f_inner_terms, ?f_show_term, ?f_law_text, ?f_law_same, ?f_is_number_word, ?f_lone_word, ?f_refuse_other_many, ?f_number_drafted, ?f_place_of_note, ?f_term_of_word, ?f_part_of_notes, ?f_one_of_notes, ?f_several_of_notes, ?f_term_of_note, ?f_read_term, ?f_law_take, ?f_law_term, ?cl_NoteReader, ?n_NoteReader_text, ?n_NoteReader_place, ?c_LAST_PLACE, ?c_LONGEST_LABEL, ?c_LONGEST_WORD, ?c_MOST_BRACKETS, ?c_MOST_FIGURES, ?c_MOST_SIGNS, ?c_OF_ONE_TERM, ?c_OF_TWO_TERMS, ?b_all, ?b_bool, ?b_int, ?b_isinstance, ?b_len, ?b_list, ?b_range, ?b_str, ?b_tuple, ?b_zip⟩ _ w base⟩
    (case a => k_is)
    (case l => k_is)
    (case c => k_is)
    (case k => k_is)
    case f_NoteReader___init__ =>
      refine' L2.rawI_mk KX G ["self", "text"] ?aC ?mk ?kc ?a ?i ?l ?c ?k (fun _ _ _ _ _ _ us hl => match us, hl with | [_, _], _ => rfl)
      (case aC => k_is)
      (case mk => k_is)
      (case kc => k_is)
      (case a => k_is)
      (case i => k_is)
      (case l => k_is)
      (case c => k_is)
      (case k => k_is)
    case f_is_figure =>
      refine' L2.raw_mk KX G ["sign"] ?a ?l ?c ?k (fun _ _ _ _ _ _ us hl => match us, hl with | [_], _ => rfl)
      (case a => k_is)
      (case l => k_is)
      (case c => k_is)
      (case k => k_is)
    case f_is_small_letter =>
      refine' L2.raw_mk KX G ["sign"] ?a ?l ?c ?k (fun _ _ _ _ _ _ us hl => match us, hl with | [_], _ => rfl)
      (case a => k_is)
      (case l => k_is)
      (case c => k_is)
      (case k => k_is)
    case f_is_letter_or_figure =>
      refine' L2.raw_mk KX G ["sign"] ?a ?l ?c ?k (fun _ _ _ _ _ _ us hl => match us, hl with | [_], _ => rfl)
      (case a => k_is)
      (case l => k_is)
      (case c => k_is)
      (case k => k_is)
    case f_is_word_sign =>
      refine' L2.raw_mk KX G ["sign"] ?a ?l ?c ?k (fun _ _ _ _ _ _ us hl => match us, hl with | [_], _ => rfl)
      (case a => k_is)
      (case l => k_is)
      (case c => k_is)
      (case k => k_is)
    case f_is_label =>
      refine' L2.raw_mk KX G ["text"] ?a ?l ?c ?k (fun _ _ _ _ _ _ us hl => match us, hl with | [_], _ => rfl)
      (case a => k_is)
      (case l => k_is)
      (case c => k_is)
      (case k => k_is)
    case f_NoteReader_sign_here =>
      refine' L2.rawM_mk KX G ["self"] ?a ?i ?l ?c ?k (fun _ _ _ _ _ _ us hl => match us, hl with | [_], _ => rfl)
      (case a => k_is)
      (case i => k_is)
      (case l => k_is)
      (case c => k_is)
      (case k => k_is)
    case f_NoteReader_takes =>
      refine' L2.rawM_mk KX G ["self", "sign"] ?a ?i ?l ?c ?k (fun _ _ _ _ _ _ us hl => match us, hl with | [_, _], _ => rfl)
      (case a => k_is)
      (case i => k_is)
      (case l => k_is)
      (case c => k_is)
      (case k => k_is)
    case f_NoteReader_word_signs =>
      refine' L2.rawM_mk KX G ["self"] ?a ?i ?l ?c ?k (fun _ _ _ _ _ _ us hl => match us, hl with | [_], _ => rfl)
      (case a => k_is)
      (case i => k_is)
      (case l => k_is)
      (case c => k_is)
      (case k => k_is)
    case f_NoteReader_labelled_note =>
      refine' L2.rawM_mk KX G ["self"] ?a ?i ?l ?c ?k (fun _ _ _ _ _ _ us hl => match us, hl with | [_], _ => rfl)
      (case a => k_is)
      (case i => k_is)
      (case l => k_is)
      (case c => k_is)
      (case k => k_is)
    case f_NoteReader_bracketed_notes =>
      refine' L2.rawM_mk KX G ["self"] ?a ?i ?l ?c ?k (fun _ _ _ _ _ _ us hl => match us, hl with | [_], _ => rfl)
      (case a => k_is)
      (case i => k_is)
      (case l => k_is)
      (case c => k_is)
      (case k => k_is)
    case f_NoteReader_at_end =>
      refine' L2.rawM_mk KX G ["self"] ?a ?i ?l ?c ?k (fun _ _ _ _ _ _ us hl => match us, hl with | [_], _ => rfl)
      (case a => k_is)
      (case i => k_is)
      (case l => k_is)
      (case c => k_is)
      (case k => k_is)
    case f_refuse_crowded =>
      refine' L2.raw_mk KX G ["text"] ?a ?l ?c ?k (fun _ _ _ _ _ _ us hl => match us, hl with | [_], _ => rfl)
      (case a => k_is)
      (case l => k_is)
      (case c => k_is)
      (case k => k_is)
    case f_read_note =>
      refine' L2.raw_mk KX G ["text"] ?a ?l ?c ?k (fun _ _ _ _ _ _ us hl => match us, hl with | [_], _ => rfl)
      (case a => k_is)
      (case l => k_is)
      (case c => k_is)
      (case k => k_is)
    case f_inner_terms =>
      refine' L2.raw_mk KX G ["term"] ?a ?l ?c ?k (fun _ _ _ _ _ _ us hl => match us, hl with | [_], _ => rfl)
      (case a => k_is)
      (case l => k_is)
      (case c => k_is)
      (case k => k_is)
    case f_show_term =>
      refine' L2.raw_mk KX G ["term"] ?a ?l ?c ?k (fun _ _ _ _ _ _ us hl => match us, hl with | [_], _ => rfl)
      (case a => k_is)
      (case l => k_is)
      (case c => k_is)
      (case k => k_is)
    case f_law_text =>
      refine' L2.raw_mk KX G ["_law_term_here"] ?a ?l ?c ?k (fun _ _ _ _ _ _ us hl => match us, hl with | [_], _ => rfl)
      (case a => k_is)
      (case l => k_is)
      (case c => k_is)
      (case k => k_is)
    case f_law_same =>
      refine' L2.raw_mk KX G ["_law_found", "_law_due"] ?a ?l ?c ?k (fun _ _ _ _ _ _ us hl => match us, hl with | [_, _], _ => rfl)
      (case a => k_is)
      (case l => k_is)
      (case c => k_is)
      (case k => k_is)
    case f_is_number_word =>
      refine' L2.raw_mk KX G ["word"] ?a ?l ?c ?k (fun _ _ _ _ _ _ us hl => match us, hl with | [_], _ => rfl)
      (case a => k_is)
      (case l => k_is)
      (case c => k_is)
      (case k => k_is)
    case f_lone_word =>
      refine' L2.raw_mk KX G ["note"] ?a ?l ?c ?k (fun _ _ _ _ _ _ us hl => match us, hl with | [_], _ => rfl)
      (case a => k_is)
      (case l => k_is)
      (case c => k_is)
      (case k => k_is)
    case f_refuse_other_many =>
      refine' L2.raw_mk KX G ["notes", "many"] ?a ?l ?c ?k (fun _ _ _ _ _ _ us hl => match us, hl with | [_, _], _ => rfl)
      (case a => k_is)
      (case l => k_is)
      (case c => k_is)
      (case k => k_is)
    case f_number_drafted =>
      refine' L2.raw_mk KX G ["note"] ?a ?l ?c ?k (fun _ _ _ _ _ _ us hl => match us, hl with | [_], _ => rfl)
      (case a => k_is)
      (case l => k_is)
      (case c => k_is)
      (case k => k_is)
    case f_place_of_note =>
      refine' L2.raw_mk KX G ["note"] ?a ?l ?c ?k (fun _ _ _ _ _ _ us hl => match us, hl with | [_], _ => rfl)
      (case a => k_is)
      (case l => k_is)
      (case c => k_is)
      (case k => k_is)
    case f_term_of_word =>
      refine' L2.raw_mk KX G ["word"] ?a ?l ?c ?k (fun _ _ _ _ _ _ us hl => match us, hl with | [_], _ => rfl)
      (case a => k_is)
      (case l => k_is)
      (case c => k_is)
      (case k => k_is)
    case f_part_of_notes =>
      refine' L2.raw_mk KX G ["notes"] ?a ?l ?c ?k (fun _ _ _ _ _ _ us hl => match us, hl with | [_], _ => rfl)
      (case a => k_is)
      (case l => k_is)
      (case c => k_is)
      (case k => k_is)
    case f_one_of_notes =>
      refine' L2.raw_mk KX G ["mark", "notes"] ?a ?l ?c ?k (fun _ _ _ _ _ _ us hl => match us, hl with | [_, _], _ => rfl)
      (case a => k_is)
      (case l => k_is)
      (case c => k_is)
      (case k => k_is)
    case f_several_of_notes =>
      refine' L2.raw_mk KX G ["mark", "notes", "many"] ?a ?l ?c ?k (fun _ _ _ _ _ _ us hl => match us, hl with | [_, _, _], _ => rfl)
      (case a => k_is)
      (case l => k_is)
      (case c => k_is)
      (case k => k_is)
    case f_term_of_note =>
      refine' L2.raw_mk KX G ["note"] ?a ?l ?c ?k (fun _ _ _ _ _ _ us hl => match us, hl with | [_], _ => rfl)
      (case a => k_is)
      (case l => k_is)
      (case c => k_is)
      (case k => k_is)
    case f_read_term =>
      refine' L2.raw_mk KX G ["text"] ?a ?l ?c ?k (fun _ _ _ _ _ _ us hl => match us, hl with | [_], _ => rfl)
      (case a => k_is)
      (case l => k_is)
      (case c => k_is)
      (case k => k_is)
    case f_law_take =>
      refine' L2.raw_mk KX G ["_law_cells", "_law_many"] ?a ?l ?c ?k (fun _ _ _ _ _ _ us hl => match us, hl with | [_, _], _ => rfl)
      (case a => k_is)
      (case l => k_is)
      (case c => k_is)
      (case k => k_is)
    case f_law_term =>
      refine' L2.raw_mk KX G ["_law_cells", "_law_left"] ?a ?l ?c ?k (fun _ _ _ _ _ _ us hl => match us, hl with | [_, _], _ => rfl)
      (case a => k_is)
      (case l => k_is)
      (case c => k_is)
      (case k => k_is)
    case cl_NoteReader =>
      refine' ⟨?a, ?b, ?c, ?d⟩
      (case a => k_is)
      (case b => k_is)
      (case c => k_is)
      (case d => k_is)
    case n_NoteReader_text =>
      refine' L2.noattr_mk ?a
      (case a => k_is)
    case n_NoteReader_place =>
      refine' L2.noattr_mk ?a
      (case a => k_is)
    case c_LAST_PLACE =>
      refine' L2.conI_mk KX G ?a
      (case a => k_is)
    case c_LONGEST_LABEL =>
      refine' L2.conI_mk KX G ?a
      (case a => k_is)
    case c_LONGEST_WORD =>
      refine' L2.conI_mk KX G ?a
      (case a => k_is)
    case c_MOST_BRACKETS =>
      refine' L2.conI_mk KX G ?a
      (case a => k_is)
    case c_MOST_FIGURES =>
      refine' L2.conI_mk KX G ?a
      (case a => k_is)
    case c_MOST_SIGNS =>
      refine' L2.conI_mk KX G ?a
      (case a => k_is)
    case c_OF_ONE_TERM =>
      refine' L2.conT_mk KX G ?a ?l ?z ?r
      (case a => k_is)
      (case l => k_is)
      (case z => decide)
      (case r => exact (.cons ⟨_, rfl⟩ (.cons ⟨_, rfl⟩ (.cons ⟨_, rfl⟩ (.cons ⟨_, rfl⟩ .nil)))))
    case c_OF_TWO_TERMS =>
      refine' L2.conT_mk KX G ?a ?l ?z ?r
      (case a => k_is)
      (case l => k_is)
      (case z => decide)
      (case r => exact (.cons ⟨_, rfl⟩ (.cons ⟨_, rfl⟩ (.cons ⟨_, rfl⟩ (.cons ⟨_, rfl⟩ (.cons ⟨_, rfl⟩ (.cons ⟨_, rfl⟩ (.cons ⟨_, rfl⟩ .nil))))))))
    case b_all =>
      refine' PySem.W.mg_none_of KX G ?a
      (case a => k_is)
    case b_bool =>
      refine' PySem.W.mg_none_of KX G ?a
      (case a => k_is)
    case b_int =>
      refine' PySem.W.mg_none_of KX G ?a
      (case a => k_is)
    case b_isinstance =>
      refine' PySem.W.mg_none_of KX G ?a
      (case a => k_is)
    case b_len =>
      refine' PySem.W.mg_none_of KX G ?a
      (case a => k_is)
    case b_list =>
      refine' PySem.W.mg_none_of KX G ?a
      (case a => k_is)
    case b_range =>
      refine' PySem.W.mg_none_of KX G ?a
      (case a => k_is)
    case b_str =>
      refine' PySem.W.mg_none_of KX G ?a
      (case a => k_is)
    case b_tuple =>
      refine' PySem.W.mg_none_of KX G ?a
      (case a => k_is)
    case b_zip =>
      refine' PySem.W.mg_none_of KX G ?a
      (case a => k_is)
