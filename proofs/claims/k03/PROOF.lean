import PyProof.Rows.All
import Wide.All
import OpenK.AllK
import Wide.FinOn
import Lean
import PyProof.EqAt
import PyProof.EqKinds
import PyProof.TupleCall
import PyProof.NeData
import KE.KTryMore
import PyProof.ExcBaseAll.ValueError
import PyProof.ExcArgsOwn
import KE.KIntText
import PyProof.Rows.SetFrom
import PyProof.SetRoads
import PyProof.StrWalks
import PyProof.ListStr
import PySem.Challenge.RW_countgen_k03_numbers_and_signs
set_option Elab.async false
set_option linter.all false
set_option maxRecDepth 100000
/-! THE HAND LAYER, for ints, bools, texts, own classes, LISTS and tuples (index, slices, in, append, pop ..), calls, loops. Paste it whole ahead of your own text; what your proof does not reach may be deleted. -/
namespace L2
open PySem PySem.Spec PyProof.Rows

/-- a key: an int or a str -/
abbrev Key := Sum Int Str
def keyIs : Key → Value → Bool
  | .inl k, v => Value.isInt k v
  | .inr x, v => Value.isStrOf x v
def keyH (w : World) : Key → Int
  | .inl k => hashInt k
  | .inr x => hashStr w x
theorem keyIs_shape : ∀ {k : Key} {v : Value}, keyIs k v = true → (∃ i t, k = Sum.inl i ∧ v = Value.int i t) ∨ (∃ x t, k = Sum.inr x ∧ v = Value.str x t)
  | .inl i, v, h => by
    obtain ⟨t, e⟩ := Value.isInt_shape (k := i) (v := v) h
    exact .inl ⟨i, t, rfl, e⟩
  | .inr x, v, h => by
    obtain ⟨t, e⟩ := Value.isStrOf_shape (x := x) (v := v) h
    exact .inr ⟨x, t, rfl, e⟩
theorem key_ll (a b : Int) : decide ((Sum.inl a : Key) = Sum.inl b) = (a == b) := by
  by_cases e : a = b
  · subst e; simp
  · have h : ¬ (Sum.inl a : Key) = Sum.inl b := fun q => e (Sum.inl.inj q)
    rw [decide_eq_false h]
    exact (beq_eq_false_iff_ne.mpr e).symm
theorem key_rr (a b : Str) : decide ((Sum.inr a : Key) = Sum.inr b) = decide (a = b) := by
  by_cases e : a = b
  · subst e; simp
  · have h : ¬ (Sum.inr a : Key) = Sum.inr b := fun q => e (Sum.inr.inj q)
    rw [decide_eq_false h, decide_eq_false e]
theorem key_lr (a : Int) (b : Str) : decide ((Sum.inl a : Key) = Sum.inr b) = false := decide_eq_false (fun q => nomatch q)
theorem key_rl (a : Str) (b : Int) : decide ((Sum.inr a : Key) = Sum.inl b) = false := decide_eq_false (fun q => nomatch q)

def mixKind (prog : Program) (w : World) : PySem.KeyKind prog w Key where
  is := keyIs
  hash := keyH w
  inj := fun v a b ha hb => by
    rcases keyIs_shape ha with ⟨i, t, rfl, rfl⟩ | ⟨x, t, rfl, rfl⟩
    · rcases keyIs_shape hb with ⟨j, u, rfl, e⟩ | ⟨y, u, rfl, e⟩
      · injection e with e1 _; rw [e1]
      · exact nomatch e
    · rcases keyIs_shape hb with ⟨j, u, rfl, e⟩ | ⟨y, u, rfl, e⟩
      · exact nomatch e
      · injection e with e1 _; rw [e1]
  byValue := fun k v h => by
    rcases keyIs_shape h with ⟨i, t, rfl, rfl⟩ | ⟨x, t, rfl, rfl⟩ <;> rfl
  pyHash := fun hv h => by
    rcases keyIs_shape hv with ⟨i, t, rfl, rfl⟩ | ⟨x, t, rfl, rfl⟩
    · exact wpAny_pyHash_int h
    · exact wpAny_pyHash_str h
  eqBool := fun hu hv h => by
    rcases keyIs_shape hu with ⟨i, t, rfl, rfl⟩ | ⟨x, t, rfl, rfl⟩
    · rcases keyIs_shape hv with ⟨j, u, rfl, rfl⟩ | ⟨y, u, rfl, rfl⟩
      · rw [key_ll] at h; exact wpAny_eqBool_int h
      · rw [key_lr] at h; exact SeqAt.EqAt.int_str i t y u _ _ _ _ h
    · rcases keyIs_shape hv with ⟨j, u, rfl, rfl⟩ | ⟨y, u, rfl, rfl⟩
      · rw [key_rl] at h; exact SeqAt.EqAt.str_int x t j u _ _ _ _ h
      · rw [key_rr] at h; exact wpAny_eqBool_str h
  «strs» := fun k x t v h => by
    rcases keyIs_shape h with ⟨i, u, rfl, e⟩ | ⟨y, u, rfl, e⟩
    · exact nomatch e
    · injection e with e1 _
      subst e1
      cases v <;> rfl

end L2

namespace L2
open PySem PySem.Spec PyProof.Rows

/-- a value, without the heap -/
inductive V where
  | non | bl (b : Bool) | int (i : Int) | str (x : Str) | byt (b : Array UInt8) | flt (b : UInt64) | ref (a : Addr) | ty (n : String)
  deriving DecidableEq

def RelV : V → Value → Prop
  | .non, u => u = Value.none
  | .bl b, u => u = Value.bool b
  | .int i, u => ∃ t, u = Value.int i t
  | .str x, u => ∃ t, u = Value.str x t
  | .byt b, u => ∃ t, u = Value.bytes b t
  | .flt b, u => ∃ t, u = Value.float b t
  | .ref a, u => u = Value.ref a
  | .ty n, u => u = Value.type n

abbrev Vals : List V → List Value → Prop := Paired RelV
theorem Vals.length {xs : List V} {us : List Value} (r : Vals xs us) : xs.length = us.length := Paired.length r
theorem Vals.get : ∀ {xs : List V} {us : List Value} {i : Nat} {x : V}, Vals xs us → xs[i]? = some x → ∃ u, us[i]? = some u ∧ RelV x u
  | _, _, _, _, .nil, e => by simp at e
  | _, _, 0, _, .cons r _, e => by simp at e; subst e; exact ⟨_, rfl, r⟩
  | _, _, i + 1, x, .cons _ t, e => by
    obtain ⟨u, h1, h2⟩ := Vals.get (i := i) (x := x) t (by simpa using e)
    exact ⟨u, by simpa using h1, h2⟩
theorem Vals.set {x : V} {u : Value} (r : RelV x u) : ∀ {xs : List V} {us : List Value} (i : Nat), Vals xs us → Vals (xs.set i x) (us.set i u)
  | _, _, _, .nil => .nil
  | _, _, 0, .cons _ t => .cons r t
  | _, _, i + 1, .cons q t => .cons q (Vals.set r i t)
theorem Vals.append : ∀ {xs ys : List V} {us ws : List Value}, Vals xs us → Vals ys ws → Vals (xs ++ ys) (us ++ ws)
  | _, _, _, _, .nil, s => s
  | _, _, _, _, .cons r t, s => .cons r (Vals.append t s)
def RelO : Option V → Option Value → Prop
  | some v, some u => RelV v u
  | none, none => True
  | _, _ => False
def KV {κ : Type} : List (κ × V) → List (κ × Value) → Prop := Paired fun (p : κ × V) (q : κ × Value) => p.1 = q.1 ∧ RelV p.2 q.2

/-- a key of a dict (00_mix): an int or a text -/
def kV : Key → V
  | .inl i => .int i
  | .inr x => .str x

/-- what stands at a tracked address -/
inductive HO where
  /-- a list -/
  | lst (xs : List V)
  /-- a tuple (never changes) -/
  | tup (xs : List V)
  /-- a dict whose keys are ints and texts; one whose keys are tuples of ints and texts (the empty one is both) -/
  | dK (kvs : List (Key × V)) | dT (kvs : List (List Key × V))
  /-- a set of ints: its members, its size -/
  | set (S : Int → Bool) (n : Nat)
  /-- an instance of the class at C, its dict at dx, its attributes -/
  | ins (C dx : Addr) (fs : List (Str × V))
  /-- the dict of the instance at x -/
  | own (x : Addr)
  /-- the dict of an exception -/
  | xd (fs : List (Str × V))
  /-- a bound method, f of x -/
  | met (f x : Addr)
  /-- a range object lo, lo + 1, .. below hi -/
  | rng (lo hi : Int)
  /-- a thing that is known to the object (the script; a dict while a loop walks it): read, never written while it is so -/
  | frz (o : Obj) (u : HO)
  /-- a code object's table -/
  | tbl (ps : Array Value)
  /-- any other thing, by what is true of its one object (a def of one's own: SetO a S n := HO.ext fun h => ..) -/
  | ext (φ : Heap → Prop)

abbrev Hp := Addr → Option HO
def upd (H : Hp) (a : Addr) (o : HO) : Hp := fun b => if b = a then some o else H b
theorem upd_same {H : Hp} {a : Addr} {o : HO} : upd H a o a = some o := by unfold upd; rw [if_pos rfl]
theorem upd_ne {H : Hp} {a b : Addr} {o : HO} (h : b ≠ a) : upd H a o b = H b := by unfold upd; rw [if_neg h]
theorem upd_upd {H : Hp} {a : Addr} {o u : HO} : upd (upd H a o) a u = upd H a u := by
  funext b; unfold upd; split <;> rfl
/-- two objects of different content stand apart -/
theorem ne_of {H : Hp} {a b : Addr} {o u : HO} (h : H a = some o) (h' : H b = some u) (d : o ≠ u) : a ≠ b := by
  intro e; subst e; rw [h] at h'; exact d (Option.some.inj h')
theorem ne_of_none {H : Hp} {a b : Addr} {o : HO} (h : H a = some o) (h' : H b = none) : a ≠ b := by
  intro e; subst e; rw [h] at h'; cases h'

section
variable (P : Program) (w : World)
def ObjOk (H : Hp) (h : Heap) (a : Addr) : HO → Prop
  | .lst xs => xs.length ≤ sizeLine ∧ ∃ (its : List Value) (n : Nat), Vals xs its ∧ h.get? a = some { cls := .type "list", data := .seq its.toArray n }
  | .tup xs => xs.length ≤ sizeLine ∧ ∃ its : List Value, Vals xs its ∧ IsTup h a its.toArray
  | .dK kvs => kvs.length ≤ sizeLine ∧ (a == sysModules) = false ∧ ∃ vs, KV kvs vs ∧ h.DictOf (mixKind P w) a vs
  | .dT kvs => kvs.length ≤ sizeLine ∧ (a == sysModules) = false ∧ ∃ xs : List (List Key × Addr × Value),
      Paired (fun (p : List Key × V) (q : List Key × Addr × Value) => p.1 = q.1 ∧ H q.2.1 = some (.tup (p.1.map kV)) ∧ RelV p.2 q.2.2) kvs xs ∧
      ∃ o es ep, h.get? a = some o ∧ o.ExactDict ∧ o.data = .dict es ep ∧ es.toList = xs.map (entryOfKey (tupleKind (mixKind P w))) ∧ (xs.map (·.1)).Nodup
  | .set S n => h.SetOf (intKind P w) a S n
  | .ins C dx fs => H dx = some (.own a) ∧ fs.length ≤ 1000 ∧ dx ≠ a ∧ h.get? a = some (PySem.W.instObj C dx) ∧
      ∃ mA, h.Ns1 dx mA ∧ (∀ f, RelO (fs.lookup f) (mA f)) ∧ PySem.Within mA (fs.map (·.1))
  | .own _ => ∃ o, h.get? a = some o
  | .xd fs => ∃ mA, h.Ns1 a mA ∧ ∀ f, RelO (fs.lookup f) (mA f)
  | .rng lo hi => ∃ t u v, h.get? a = some { cls := .type "range", data := .fields #[.int lo t, .int hi u, .int 1 v] }
  | .frz o u => h.get? a = some o ∧ ObjOk H h a u
  | .tbl ps => h.get? a = some { cls := .none, data := .fields ps }
  | .met f x => h.get? a = some (PySem.W.methodObj (.ref f) (.ref x))
  | .ext φ => φ h ∧ (∃ o, h.get? a = some o) ∧ ∀ h1 h2 : Heap, φ h1 → (∀ o, h1.get? a = some o → h2.get? a = some o) → φ h2
/-- the abstract heap is held -/
def HOk (H : Hp) (h : Heap) : Prop := ∀ a o, H a = some o → ObjOk P w H h a o
end

section
variable {P : Program} {w : World} {H H' : Hp} {h h' : Heap} {a : Addr} {o : HO}
theorem ObjOk.lt (x : ObjOk P w H h a o) : a < h.objs.size := by
  cases o with
  | lst xs => obtain ⟨_, _, _, _, e⟩ := x; exact Heap.lt_size e
  | tup xs => obtain ⟨_, _, _, p⟩ := x; exact p.lt
  | dK kvs => obtain ⟨_, _, _, _, o, _, _, e, _⟩ := x; exact Heap.lt_size e
  | dT kvs => obtain ⟨_, _, _, _, o, _, _, e, _⟩ := x; exact Heap.lt_size e
  | set S n => obtain ⟨o, _, _, _, e, _⟩ := x; exact Heap.lt_size e
  | ins C dx fs => obtain ⟨_, _, _, e, _⟩ := x; exact Heap.lt_size e
  | own y => obtain ⟨_, e⟩ := x; exact Heap.lt_size e
  | xd fs => obtain ⟨_, ⟨_, _, _, e, _⟩, _⟩ := x; exact Heap.lt_size e
  | rng lo hi => obtain ⟨_, _, _, e⟩ := x; exact Heap.lt_size e
  | frz ob u => obtain ⟨e, _⟩ := x; exact Heap.lt_size e
  | tbl ps => exact Heap.lt_size (show h.get? a = some _ from x)
  | met f y => exact Heap.lt_size (show h.get? a = some _ from x)
  | ext φ => obtain ⟨_, ⟨_, e⟩, _⟩ := x; exact Heap.lt_size e
theorem Paired.mapP {α β : Type} {F G : α → β → Prop} : ∀ {l₁ : List α} {l₂ : List β}, Paired F l₁ l₂ → (∀ a b, F a b → G a b) → Paired G l₁ l₂
  | _, _, .nil, _ => .nil
  | _, _, .cons r t, f => .cons (f _ _ r) (Paired.mapP t f)
/-- what an object's description leans on: its own object, its own dict, the tuples -/
theorem ObjOk.stay (x : ObjOk P w H h a o) (k : ∀ b u, (b = a ∨ H b = some (.own a)) → h.get? b = some u → h'.get? b = some u)
    (ho : ∀ b, H b = some (.own a) → H' b = some (.own a)) (ht : ∀ b xs, H b = some (.tup xs) → H' b = some (.tup xs)) : ObjOk P w H' h' a o := by
  induction o with
  | lst xs => obtain ⟨z, its, n, r, e⟩ := x; exact ⟨z, its, n, r, k _ _ (.inl rfl) e⟩
  | tup xs => obtain ⟨z, its, r, ob, e, c⟩ := x; exact ⟨z, its, r, ob, k _ _ (.inl rfl) e, c⟩
  | dK kvs => obtain ⟨z, y, vs, r, ob, es, ep, e, c⟩ := x; exact ⟨z, y, vs, r, ob, es, ep, k _ _ (.inl rfl) e, c⟩
  | dT kvs =>
    obtain ⟨z, y, xs, r, ob, es, ep, e, c⟩ := x
    exact ⟨z, y, xs, Paired.mapP r fun p q z => ⟨z.1, ht _ _ z.2.1, z.2.2⟩, ob, es, ep, k _ _ (.inl rfl) e, c⟩
  | set S n => obtain ⟨ob, es, ep, t, e, c⟩ := x; exact ⟨ob, es, ep, t, k _ _ (.inl rfl) e, c⟩
  | ins C dx fs =>
    obtain ⟨d, z, ne, e, mA, ⟨od, es, ep, e2, c⟩, r⟩ := x
    exact ⟨ho _ d, z, ne, k _ _ (.inl rfl) e, mA, ⟨od, es, ep, k _ _ (.inr d) e2, c⟩, r⟩
  | own y => obtain ⟨ob, e⟩ := x; exact ⟨ob, k _ _ (.inl rfl) e⟩
  | xd fs => obtain ⟨mA, ⟨od, es, ep, e, c⟩, r⟩ := x; exact ⟨mA, ⟨od, es, ep, k _ _ (.inl rfl) e, c⟩, r⟩
  | rng lo hi => obtain ⟨t, u, v, e⟩ := x; exact ⟨t, u, v, k _ _ (.inl rfl) e⟩
  | frz ob u ih => obtain ⟨e, q⟩ := x; exact ⟨k _ _ (.inl rfl) e, ih q⟩
  | tbl ps =>
    have e : h.get? a = some { cls := .none, data := .fields ps } := x
    show h'.get? a = some { cls := .none, data := .fields ps }
    exact k a _ (.inl rfl) e
  | met f y =>
    have e : h.get? a = some (PySem.W.methodObj (.ref f) (.ref y)) := x
    show h'.get? a = some (PySem.W.methodObj (.ref f) (.ref y))
    exact k a _ (.inl rfl) e
  | ext φ => obtain ⟨p, ⟨o, e⟩, st⟩ := x; exact ⟨st _ _ p fun o q => k _ _ (.inl rfl) q, ⟨o, k _ _ (.inl rfl) e⟩, st⟩
theorem HOk.lt (x : HOk P w H h) (e : H a = some o) : a < h.objs.size := (x a o e).lt
theorem HOk.fresh (x : HOk P w H h) (e : h.objs.size ≤ a) : H a = none := by
  cases q : H a with
  | none => rfl
  | some u => exact absurd (Nat.lt_of_lt_of_le (x.lt q) e) (Nat.lt_irrefl _)
/-- every object of the heap is kept -/
theorem HOk.kept (x : HOk P w H h) (k : ∀ b u, h.get? b = some u → h'.get? b = some u) : HOk P w H h' := fun a o e =>
  (x a o e).stay (fun b u _ q => k b u q) (fun _ q => q) fun _ _ q => q
/-- a new object is laid and tracked -/
theorem HOk.laid (x : HOk P w H h) (k : ∀ b u, h.get? b = some u → h'.get? b = some u) (hp : h.objs.size ≤ a) (new : ObjOk P w (upd H a o) h' a o) : HOk P w (upd H a o) h' := fun b u e => by
  have hn := x.fresh hp
  by_cases hb : b = a
  · subst hb; rw [upd_same] at e; cases e; exact new
  · rw [upd_ne hb] at e
    exact (x b u e).stay (fun c v _ q => k c v q) (fun c q => by rw [upd_ne (ne_of_none q hn)]; exact q) fun c xs q => by rw [upd_ne (ne_of_none q hn)]; exact q
end

/-- what may be read as u: it is u, or a known u -/
def Rd (H : Hp) (a : Addr) (u : HO) : Prop := H a = some u ∨ ∃ o, H a = some (.frz o u)
theorem Rd.ok {P : Program} {w : World} {H : Hp} {h : Heap} {a : Addr} {u : HO} (r : Rd H a u) (x : HOk P w H h) : ObjOk P w H h a u := by
  rcases r with r | ⟨o, r⟩
  · exact x a u r
  · obtain ⟨_, q⟩ := x a _ r
    exact q
/-- what may be written -/
def Mut : Option HO → Prop
  | some (.lst _) => True
  | some (.dK _) => True
  | some (.dT _) => True
  | some (.set _ _) => True
  | some (.ins _ _ _) => True
  | some (.ext _) => True
  | _ => False
section
variable {P : Program} {w : World} {H : Hp} {h h' : Heap} {x e : Addr} {o' : HO}
/-- the object at e is changed: x itself, or the dict of the instance x -/
theorem HOk.write (ok : HOk P w H h) (mu : Mut (H x)) (he : e = x ∨ H e = some (.own x)) (k : ∀ b u, b ≠ e → h.get? b = some u → h'.get? b = some u) (heo : ∃ u, h'.get? e = some u)
    (new : ObjOk P w (upd H x o') h' x o') : HOk P w (upd H x o') h' := fun b u q => by
  have nown : ∀ c y, H c = some (.own y) → c ≠ x := fun c y r z => by subst z; rw [r] at mu; exact mu
  have ntup : ∀ c xs, H c = some (.tup xs) → c ≠ x := fun c xs r z => by subst z; rw [r] at mu; exact mu
  by_cases hb : b = x
  · subst hb; rw [upd_same] at q; cases q; exact new
  · rw [upd_ne hb] at q
    by_cases hbe : b = e
    · have q' : H b = some (.own x) := by
        rcases he with z | z
        · exact absurd (hbe.trans z) hb
        · rw [hbe]; exact z
      rw [q] at q'; cases q'
      obtain ⟨v, hv⟩ := heo
      exact ⟨v, by rw [hbe]; exact hv⟩
    · refine (ok b u q).stay (fun c v hc r => k c v ?_ r) (fun c r => by rw [upd_ne (nown c b r)]; exact r) fun c xs r => by rw [upd_ne (ntup c xs r)]; exact r
      rcases hc with rfl | hc
      · exact hbe
      · rintro rfl
        rcases he with z | z
        · exact nown c b hc z
        · rw [hc] at z; cases z; exact hb rfl
end

/-! ### kept unless tracked; of the frames at fs (the callers') the slots may change (an exception that passes writes there); of the records at ex (iterators) nothing is said -/
structure Un (fs ex : List Addr) (H H' : Hp) (h h' : Heap) : Prop where
  keep : ∀ b o, h.get? b = some o → H b = none → b ∉ fs → b ∉ ex → h'.get? b = some o
  slot : ∀ b o, h.get? b = some o → H b = none → b ∈ fs → b ∉ ex → ∃ sl, h'.get? b = some { o with slots := sl }
  free : ∀ b o, h.get? b = some o → H b = none → b ∉ ex → H' b = none
  there : ∀ b o, h.get? b = some o → b ∉ ex → ∃ o', h'.get? b = some o'
  tups : ∀ b xs, H b = some (.tup xs) → H' b = some (.tup xs)
  frzs : ∀ b o u, H b = some (.frz o u) → H' b = some (.frz o u)
  tbls : ∀ b ps, H b = some (.tbl ps) → ∃ more, H' b = some (.tbl (ps ++ more))
section
variable {fs fs' ex ex' : List Addr} {H H1 H2 : Hp} {h h1 h2 h' : Heap} {a x e : Addr} {o : HO}
theorem Un.any (u : Un fs ex H H1 h h1) {b : Addr} {ob : Obj} (q : h.get? b = some ob) (n : H b = none) (hx : b ∉ ex) : ∃ sl, h1.get? b = some { ob with slots := sl } := by
  by_cases hb : b ∈ fs
  · exact u.slot b ob q n hb hx
  · exact ⟨ob.slots, u.keep b ob q n hb hx⟩
theorem Un.kept (k : ∀ b u, h.get? b = some u → h'.get? b = some u) : Un fs ex H H h h' :=
  ⟨fun b ob q _ _ _ => k b ob q, fun b ob q _ _ _ => ⟨ob.slots, k b ob q⟩, fun _ _ _ n _ => n, fun b ob q _ => ⟨ob, k b ob q⟩, fun _ _ q => q, fun _ _ _ q => q, fun _ ps q => ⟨#[], by rw [q]; simp⟩⟩
theorem Un.refl : Un fs ex H H h h := Un.kept fun _ _ q => q
theorem Un.laid (k : ∀ b u, h.get? b = some u → h'.get? b = some u) (hp : h.objs.size ≤ a) (hn : H a = none) : Un fs ex H (upd H a o) h h' where
  keep := fun b u q _ _ _ => k b u q
  slot := fun b u q _ _ _ => ⟨u.slots, k b u q⟩
  free := fun b u q n _ => by rw [upd_ne (Nat.ne_of_lt (Nat.lt_of_lt_of_le (Heap.lt_size q) hp))]; exact n
  there := fun b u q _ => ⟨u, k b u q⟩
  tups := fun b xs q => by rw [upd_ne (ne_of_none q hn)]; exact q
  frzs := fun b u xs q => by rw [upd_ne (ne_of_none q hn)]; exact q
  tbls := fun b ps q => ⟨#[], by rw [upd_ne (ne_of_none q hn), q]; simp⟩
theorem Un.write (mu : Mut (H x)) (he : e = x ∨ H e = some (.own x)) (k : ∀ b u, b ≠ e → h.get? b = some u → h'.get? b = some u) (heo : ∃ u, h'.get? e = some u) : Un fs ex H (upd H x o) h h' := by
  have hx : ∀ b, H b = none → b ≠ x := fun b n z => by subst z; rw [n] at mu; exact mu
  have hb : ∀ b, H b = none → b ≠ e := fun b n z => by
    subst z
    rcases he with r | r
    · exact hx b n r
    · rw [n] at r; cases r
  have hm : ∀ b u, H b = some u → ¬ Mut (some u) → b ≠ x := fun b u q nm z => by subst z; rw [q] at mu; exact nm mu
  refine ⟨fun b u q n _ _ => k b u (hb b n) q, fun b u q n _ _ => ⟨u.slots, k b u (hb b n) q⟩, fun b u q n _ => by rw [upd_ne (hx b n)]; exact n, fun b u q _ => ?_,
    fun b xs q => by rw [upd_ne (hm b _ q fun z => z)]; exact q, fun b u xs q => by rw [upd_ne (hm b _ q fun z => z)]; exact q, fun b ps q => ⟨#[], by rw [upd_ne (hm b _ q fun z => z), q]; simp⟩⟩
  by_cases hbe : b = e
  · subst hbe; exact heo
  · exact ⟨u, k b u hbe q⟩
end

/-! ### the heap without what is tracked -/
def trk (h : Heap) (H : Hp) : List Addr := (List.range h.objs.size).filter fun a => (H a).isSome
def hidT (h : Heap) (H : Hp) : Heap := PySem.W.hideAll h (trk h H)
theorem hidT_size (h : Heap) (H : Hp) : (hidT h H).objs.size = h.objs.size := PySem.W.hideAll_size _ _
theorem hidT_get {h : Heap} {H : Hp} {b : Addr} {o : Obj} (e : h.get? b = some o) (n : H b = none) : (hidT h H).get? b = some o :=
  PySem.W.hideAll_get _ e fun hm => by
    have q : (H b).isSome = true := (List.mem_filter.mp hm).2
    rw [n] at q; simp at q
theorem of_hidT {h : Heap} {H : Hp} {b : Addr} {o : Obj} (e : (hidT h H).get? b = some o) : h.get? b = some o ∧ H b = none := by
  have e' : h.get? b = some o := PySem.W.of_hideAll (trk h H) e
  refine ⟨e', ?_⟩
  cases q : H b with
  | none => rfl
  | some x =>
    have hm : b ∈ trk h H := List.mem_filter.mpr ⟨List.mem_range.mpr (Heap.lt_size e'), by simp [q]⟩
    have z : (hidT h H).get? b = none := PySem.W.hideAll_none (trk h H) hm
    rw [z] at e; cases e

/-! ### OpenK's ledger, filled with every new object but one -/
def allNews (g h : Heap) (L : Addr) : List (Addr × Obj) := (List.range h.objs.size).filterMap fun a => if a = L ∨ (g.get? a).isSome = true then none else (h.get? a).map fun o => (a, o)
def rest (g h : Heap) (L d : Addr) : List (Addr × Obj) := (allNews g h L).filter fun p => decide (p.1 ≠ d)
end L2

namespace L2
open PySem PySem.Spec PyProof.Rows

/-- the module's facts, over the base: the heap at the law's entry without what is tracked there -/
structure Mod (K : PySem.W.Frag) (mg : Str → Option Value) (base : Heap) : Prop where
  kin : K.In base
  glob : base.Ns mainGlobals mg
  blt : ∃ mb, base.Ns builtinsNs mb ∧ ∀ x : Str, x ≠ "__name__" → mb x = bootBuiltins x
  nolimit : base.NoLimit

/-- the context: a def's body (or a comprehension's block) running. base: fixed through the whole law; s₀, H₀: the entry; outer: the frames whose slots others may change (a def's callers); stack: all frames that run;
   ex: iterators that were made ahead of the entry and are walked here (a comprehension's); fn: the names whose cells were made at the entry (a def: all; a comprehension's block: its own); calm: not within an except suite; pn: pins that every state bears; xe: what is wanted of an exception that leaves the code -/
structure Cx where
  prog : Program
  w : World
  K : PySem.W.Frag
  mg : Str → Option Value
  base : Heap
  A : Around
  N : List Str
  s₀ : Shared
  H₀ : Hp
  env : Env
  outer : List Env
  stack : List Env
  ex : List Addr
  fn : Str → Bool
  calm : Bool
  pn : List (Addr × Obj)
  xe : Value → Shared → Prop
/-- the callers' frames -/
def frs (l : List Env) : List Addr := l.filterMap (·.frame)
abbrev Cx.fs (X : Cx) : List Addr := frs X.outer

def Vis (sc : Scope) (x : Str) : Prop := sc.names.lookup x = some .local ∨ sc.names.lookup x = some .cell ∨ sc.names.lookup x = some .free
def Loc (sc : Scope) (x : Str) : Prop := sc.names.lookup x = some .local ∨ sc.names.lookup x = some .cell
def Look (env : Env) (h : Heap) (m : Str → Option Value) (x : Str) (u : Value) : Prop :=
  (env.kindOf x = some .local ∧ m x = some u) ∨ ((env.kindOf x = some .cell ∨ env.kindOf x = some .free) ∧ ∃ c, env.cells.lookup x = some c ∧ h.IsCell c (some u))

structure Cx.Ok (X : Cx) : Prop where
  mod : Mod X.K X.mg X.base
  kind : X.env.scope.kind = .function
  glob : X.env.globals = mainGlobals
  blt : X.env.builtins = builtinsNs
  above : X.s₀.heap.objs.size ≤ X.env.locals
  inj : ∀ x y c, X.env.cells.lookup x = some c → X.env.cells.lookup y = some c → x = y
  has : ∀ x, (X.env.kindOf x = some .cell ∨ X.env.kindOf x = some .free) → ∃ c, X.env.cells.lookup x = some c
  cab : ∀ x c, X.fn x = true → X.env.cells.lookup x = some c → X.s₀.heap.objs.size ≤ c
  hd : X.calm = true → X.A.handled = none
  frames : X.A.frames = some X.stack
  stk : X.stack = X.outer ∨ (X.stack = X.env :: X.outer ∧ X.env.frame = some X.env.locals)
  exf : ∀ b ∈ X.ex, b ≠ X.env.locals ∧ ∀ x c, X.env.cells.lookup x = some c → c ≠ b
  bs : ∀ b o, X.base.get? b = some o → X.s₀.heap.get? b = some o ∧ X.H₀ b = none
  bsz : X.base.objs.size ≤ X.s₀.heap.objs.size
  noex : ∀ b o, X.base.get? b = some o → b ∉ X.ex
  exfs : ∀ b ∈ X.ex, b ∉ X.fs
  funs : X.s₀.heap.FunFrames X.base X.outer
  frf : ∀ b ∈ X.fs, X.H₀ b = none

structure Inv (X : Cx) (pins : List (Addr × Obj)) (σ : List (Option V)) (H : Hp) (s : Shared) : Prop where
  ok : X.Ok
  os : s.os = X.s₀.os
  bare : AllBare s.gens
  base : Un X.fs X.ex X.H₀ H X.s₀.heap s.heap
  loc : ∃ m, s.heap.Ns X.env.locals m ∧ ∀ (i : Nat) (x : Str) (v : V), X.N[i]? = some x → σ[i]? = some (some v) → Vis X.env.scope x → ∃ u, RelV v u ∧ Look X.env s.heap m x u
  cell : ∀ x c, X.env.cells.lookup x = some c → ∃ v, s.heap.IsCell c v
  free : H X.env.locals = none
  freeC : ∀ x c, X.env.cells.lookup x = some c → H c = none
  pin : ∀ p ∈ X.pn ++ pins, s.heap.get? p.1 = some p.2 ∧ H p.1 = none ∧ p.1 ≠ X.env.locals ∧ p.1 ∉ X.fs ∧ ∀ v, p.2.data ≠ .cell v
  hok : HOk X.prog X.w H s.heap
  len : σ.length = X.N.length

section
variable {X : Cx} {pins : List (Addr × Obj)} {σ : List (Option V)} {H H' : Hp} {s : Shared} {h' : Heap}

theorem Cx.Ok.nofr (ok : X.Ok) {b : Addr} {o : Obj} (e : X.base.get? b = some o) : b ∉ X.fs := fun hb => by
  have := (ok.funs.mem hb).1
  rw [e] at this; cases this
theorem Inv.bs (I : Inv X pins σ H s) : ∀ b o, X.base.get? b = some o → s.heap.get? b = some o ∧ H b = none := fun b o e =>
  ⟨I.base.keep b o (I.ok.bs b o e).1 (I.ok.bs b o e).2 (I.ok.nofr e) (I.ok.noex b o e), I.base.free b o (I.ok.bs b o e).1 (I.ok.bs b o e).2 (I.ok.noex b o e)⟩
theorem Inv.bk (I : Inv X pins σ H s) : ∀ b o, X.base.get? b = some o → s.heap.get? b = some o := fun b o e => (I.bs b o e).1
theorem Inv.mod (I : Inv X pins σ H s) : Mod X.K X.mg X.base := I.ok.mod
theorem Inv.kIn (I : Inv X pins σ H s) : X.K.In s.heap := I.ok.mod.kin.keeps I.bk
theorem Inv.lt (I : Inv X pins σ H s) : X.env.locals < s.heap.objs.size := let ⟨_, hn, _⟩ := I.loc; hn.lt
theorem Inv.sz (I : Inv X pins σ H s) : X.s₀.heap.objs.size ≤ s.heap.objs.size := Nat.le_trans I.ok.above (Nat.le_of_lt I.lt)
theorem Inv.nofs (I : Inv X pins σ H s) {a : Addr} (h : s.heap.objs.size ≤ a) : a ∉ X.fs := fun hb => by
  obtain ⟨_, o, ho, _⟩ := I.ok.funs.mem hb
  exact absurd (Nat.lt_of_lt_of_le (Heap.lt_size ho) (Nat.le_trans I.sz h)) (Nat.lt_irrefl _)
theorem Inv.cne (I : Inv X pins σ H s) : ∀ x c, X.env.cells.lookup x = some c → c ≠ X.env.locals := fun x c e z => by
  obtain ⟨v, o, ho, hd⟩ := I.cell x c e
  obtain ⟨m, ⟨o', es, ep, ho', hd', _⟩, _⟩ := I.loc
  rw [z, ho'] at ho; cases ho; rw [hd'] at hd; cases hd
theorem Inv.funs (I : Inv X pins σ H s) : s.heap.FunFrames X.base X.outer := by
  have all : ∀ (l : List Env), (∀ b ∈ frs l, b ∈ X.fs) → X.s₀.heap.FunFrames X.base l → s.heap.FunFrames X.base l := by
    intro l
    induction l with
    | nil => intro _ _; trivial
    | cons env r ih =>
      intro hs hl
      obtain ⟨hk, ⟨L, o, hf, hn, ho, hd⟩, hr⟩ := hl
      have hL : L ∈ X.fs := hs L (by unfold frs; rw [List.filterMap_cons, hf]; exact List.mem_cons_self)
      obtain ⟨sl, e⟩ := I.base.slot L o ho (I.ok.frf L hL) hL fun z => I.ok.exfs L z hL
      exact ⟨hk, ⟨L, _, hf, hn, e, hd⟩, ih (fun b hb => hs b (by unfold frs; rw [List.filterMap_cons, hf]; exact List.mem_cons_of_mem _ hb)) hr⟩
  exact all X.outer (fun _ hb => hb) I.ok.funs

/-- the frames that run, for a call -/
theorem Inv.stack (I : Inv X pins σ H s) : s.heap.FunFrames X.base X.stack := by
  rcases I.ok.stk with e | ⟨e, hf⟩
  · rw [e]; exact I.funs
  · rw [e]
    obtain ⟨m, hn, _⟩ := I.loc
    refine .cons (by rw [I.ok.kind]; decide) hf hn ?_ I.funs
    exact Heap.get?_none_of_le (Nat.le_trans I.ok.bsz I.ok.above)
theorem Inv.stkSub (I : Inv X pins σ H s) : ∀ b ∈ frs X.stack, b ∈ X.env.locals :: X.fs := fun b hb => by
  rcases I.ok.stk with e | ⟨e, hf⟩
  · rw [e] at hb; exact List.mem_cons_of_mem _ hb
  · rw [e] at hb
    unfold frs at hb
    rw [List.filterMap_cons, hf] at hb
    exact hb
theorem Inv.stkFree (I : Inv X pins σ H s) : ∀ b ∈ frs X.stack, H b = none := fun b hb => by
  rcases List.mem_cons.mp (I.stkSub b hb) with e | hb
  · rw [e]; exact I.free
  · obtain ⟨_, o, ho, _⟩ := I.ok.funs.mem hb
    exact I.base.free b o ho (I.ok.frf b hb) fun z => I.ok.exfs b z hb

/-- THE STEP: the untracked objects but the frame and the records at ch are kept (the callers' frames up to slots), the frame's map is kept, the new abstract heap is held -/
theorem Inv.step {g' : Array GenState} {t' : Nat} {d' : Drawn} {ch : List Addr} (I : Inv X pins σ H s)
    (hch : ∀ b ∈ ch, (b ∈ X.ex ∨ X.s₀.heap.objs.size ≤ b) ∧ b ≠ X.env.locals ∧ (∀ x c, X.env.cells.lookup x = some c → c ≠ b) ∧ ∀ p ∈ X.pn ++ pins, p.1 ≠ b)
    (keep : ∀ b o, b ≠ X.env.locals → b ∉ X.fs → b ∉ ch → s.heap.get? b = some o → H b = none → h'.get? b = some o)
    (slot : ∀ b o, b ≠ X.env.locals → b ∈ X.fs → b ∉ ch → s.heap.get? b = some o → H b = none → ∃ sl, h'.get? b = some { o with slots := sl }) (free : ∀ b o, b ∉ ch → s.heap.get? b = some o → H b = none → H' b = none)
    (there : ∀ b o, b ∉ ch → s.heap.get? b = some o → ∃ o', h'.get? b = some o')
    (tups : ∀ b xs, H b = some (.tup xs) → H' b = some (.tup xs)) (frzs : ∀ b o u, H b = some (.frz o u) → H' b = some (.frz o u)) (tbls : ∀ b ps, H b = some (.tbl ps) → ∃ more, H' b = some (.tbl (ps ++ more)))
    (ns : ∀ m, s.heap.Ns X.env.locals m → h'.Ns X.env.locals m) (hok : HOk X.prog X.w H' h') (hg : AllBare g') :
    Inv X pins σ H' { s with heap := h', gens := g', drawn := d', toks := t' } := by
  have neL : ∀ b o, X.s₀.heap.get? b = some o → b ≠ X.env.locals := fun b o e => Nat.ne_of_lt (Nat.lt_of_lt_of_le (Heap.lt_size e) I.ok.above)
  have neC : ∀ b o, X.s₀.heap.get? b = some o → b ∉ X.ex → b ∉ ch := fun b o e hx hb => by
    rcases (hch b hb).1 with z | z
    · exact hx z
    · exact absurd (Nat.lt_of_lt_of_le (Heap.lt_size e) z) (Nat.lt_irrefl _)
  have cellK : ∀ x c, X.env.cells.lookup x = some c → ∀ v, s.heap.IsCell c v → h'.IsCell c v := fun x c e v ⟨o, ho, hd⟩ => by
    have nch : c ∉ ch := fun z => (hch c z).2.2.1 x c e rfl
    by_cases hc : c ∈ X.fs
    · obtain ⟨sl, q⟩ := slot c o (I.cne x c e) hc nch ho (I.freeC x c e)
      exact ⟨_, q, hd⟩
    · exact ⟨o, keep c o (I.cne x c e) hc nch ho (I.freeC x c e), hd⟩
  refine ⟨I.ok, I.os, hg, ⟨fun b o e n hb hx => ?_, fun b o e n hb hx => ?_, fun b o e n hx => ?_, fun b o e hx => ?_, fun b xs e => tups b xs (I.base.tups b xs e), fun b o xs e => frzs b o xs (I.base.frzs b o xs e), fun b ps e => ?_⟩, ?_, fun x c e => ?_, ?_, fun x c e => ?_, fun p hp => ?_, hok, I.len⟩
  · exact keep b o (neL b o e) hb (neC b o e hx) (I.base.keep b o e n hb hx) (I.base.free b o e n hx)
  · obtain ⟨sl, e1⟩ := I.base.slot b o e n hb hx
    obtain ⟨sl', e2⟩ := slot b _ (neL b o e) hb (neC b o e hx) e1 (I.base.free b o e n hx)
    exact ⟨sl', e2⟩
  · obtain ⟨o', e1⟩ := I.base.there b o e hx
    exact free b o' (neC b o e hx) e1 (I.base.free b o e n hx)
  · obtain ⟨o', e1⟩ := I.base.there b o e hx
    exact there b o' (neC b o e hx) e1
  · obtain ⟨m1, e1⟩ := I.base.tbls b ps e
    obtain ⟨m2, e2⟩ := tbls b _ e1
    exact ⟨m1 ++ m2, by rw [e2, Array.append_assoc]⟩
  · obtain ⟨m, hn, hl⟩ := I.loc
    refine ⟨m, ns m hn, fun i x v e1 e2 e3 => ?_⟩
    obtain ⟨u, r, l⟩ := hl i x v e1 e2 e3
    refine ⟨u, r, ?_⟩
    rcases l with l | ⟨k, c, e, z⟩
    · exact .inl l
    · exact .inr ⟨k, c, e, cellK x c e _ z⟩
  · obtain ⟨v, z⟩ := I.cell x c e
    exact ⟨v, cellK x c e v z⟩
  · obtain ⟨m, ⟨o, _, _, ho, _⟩, _⟩ := I.loc
    exact free _ o (fun z => (hch _ z).2.1 rfl) ho I.free
  · obtain ⟨v, o, ho, hd⟩ := I.cell x c e
    exact free c o (fun z => (hch c z).2.2.1 x c e rfl) ho (I.freeC x c e)
  · obtain ⟨e, n, ne, nf, d⟩ := I.pin p hp
    have nch : p.1 ∉ ch := fun z => (hch p.1 z).2.2.2 p hp rfl
    exact ⟨keep p.1 p.2 ne nf nch e n, free p.1 p.2 nch e n, ne, nf, d⟩
/-- .. where the frame's own object is kept too -/
theorem Inv.un {t' : Nat} (I : Inv X pins σ H s) (u : Un X.fs [] H H' s.heap h') (hok : HOk X.prog X.w H' h') : Inv X pins σ H' { s with heap := h', toks := t' } := by
  obtain ⟨m, ⟨o, es, ep, ho, r⟩, _⟩ := id I.loc
  obtain ⟨sl, hL⟩ := u.any ho I.free (by simp)
  exact I.step (g' := s.gens) (d' := s.drawn) (ch := []) (fun _ z => nomatch z) (fun b o _ hb _ e n => u.keep b o e n hb (by simp)) (fun b o _ hb _ e n => u.slot b o e n hb (by simp)) (fun b o _ e n => u.free b o e n (by simp)) (fun b o _ e => u.there b o e (by simp)) u.tups u.frzs u.tbls (fun m' hm => by
    obtain ⟨o', es', ep', ho', r'⟩ := hm
    rw [ho] at ho'; cases ho'
    exact ⟨_, es', ep', hL, r'⟩) hok I.bare
/-- behind a call (or a comprehension's block): the slots of this frame may have changed too, the records at ch may have turned -/
theorem Inv.call {g' : Array GenState} {t' : Nat} {d' : Drawn} {ch : List Addr} (I : Inv X pins σ H s) (u : Un (frs X.stack) ch H H' s.heap h') (hok : HOk X.prog X.w H' h') (hg : AllBare g')
    (hch : ∀ b ∈ ch, (b ∈ X.ex ∨ X.s₀.heap.objs.size ≤ b) ∧ b ≠ X.env.locals ∧ (∀ x c, X.env.cells.lookup x = some c → c ≠ b) ∧ ∀ p ∈ X.pn ++ pins, p.1 ≠ b) :
    Inv X pins σ H' { s with heap := h', gens := g', drawn := d', toks := t' } := by
  obtain ⟨m, ⟨o, es, ep, ho, r⟩, _⟩ := id I.loc
  obtain ⟨sl, hL⟩ := u.any ho I.free fun z => (hch _ z).2.1 rfl
  exact I.step (ch := ch) hch (fun b o hL hb hc e n => u.keep b o e n (fun z => (List.mem_cons.mp (I.stkSub b z)).elim hL hb) hc) (fun b o _ _ hc e n => u.any e n hc) (fun b o hc e n => u.free b o e n hc) (fun b o hc e => u.there b o e hc) u.tups u.frzs u.tbls (fun m' hm => by
    obtain ⟨o', es', ep', ho', r'⟩ := hm
    rw [ho] at ho'; cases ho'
    exact ⟨_, es', ep', hL, r'⟩) hok hg
/-- an untracked record of ours (an iterator) has turned -/
theorem Inv.turned {t' : Nat} {it : Addr} (I : Inv X pins σ H s) (k : ∀ b o, b ≠ it → s.heap.get? b = some o → h'.get? b = some o) (hn : H it = none) (hL : it ≠ X.env.locals)
    (h1 : it ∈ X.ex ∨ X.s₀.heap.objs.size ≤ it) (h2 : ∀ x c, X.env.cells.lookup x = some c → c ≠ it) (h3 : ∀ p ∈ X.pn ++ pins, p.1 ≠ it) : Inv X pins σ H { s with heap := h', toks := t' } := by
  have nit : ∀ b u, H b = some u → b ≠ it := fun b u e z => by rw [z, hn] at e; cases e
  refine I.step (g' := s.gens) (d' := s.drawn) (ch := [it]) (fun b hb => ?_) (fun b o _ _ hc e _ => k b o (fun z => hc (by simp [z])) e) (fun b o _ _ hc e _ => ⟨o.slots, k b o (fun z => hc (by simp [z])) e⟩) (fun _ _ _ _ n => n)
    (fun b o hc e => ⟨o, k b o (fun z => hc (by simp [z])) e⟩) (fun _ _ e => e) (fun _ _ _ e => e) (fun b ps e => ⟨#[], by rw [e]; simp⟩) (fun m hm => ?_) (fun b u e => ?_) I.bare
  · have e : b = it := by simpa using hb
    subst e
    exact ⟨h1, hL, h2, h3⟩
  · obtain ⟨o, es, ep, ho, r⟩ := hm
    exact ⟨o, es, ep, k _ o (Ne.symm hL) ho, r⟩
  · refine (I.hok b u e).stay (fun c v hc q => k c v ?_ q) (fun _ q => q) fun _ _ q => q
    rcases hc with z | z
    · rw [z]; exact nit b u e
    · exact nit c _ z
theorem Inv.tok (I : Inv X pins σ H s) (t : Nat) : Inv X pins σ H { s with toks := t } := I.un (h' := s.heap) (t' := t) Un.refl I.hok
/-- all objects kept -/
theorem Inv.kept {t' : Nat} (I : Inv X pins σ H s) (k : ∀ b u, s.heap.get? b = some u → h'.get? b = some u) : Inv X pins σ H { s with heap := h', toks := t' } := I.un (Un.kept k) (I.hok.kept k)
/-- a new object laid and tracked -/
theorem Inv.laid {a : Addr} {o : HO} {t' : Nat} (I : Inv X pins σ H s) (k : ∀ b u, s.heap.get? b = some u → h'.get? b = some u) (hp : s.heap.objs.size ≤ a) (new : ObjOk X.prog X.w (upd H a o) h' a o) :
    Inv X pins σ (upd H a o) { s with heap := h', toks := t' } := I.un (Un.laid k hp (I.hok.fresh hp)) (I.hok.laid k hp new)
/-- an object written -/
theorem Inv.write {x e : Addr} {o : HO} {t' : Nat} (I : Inv X pins σ H s) (mu : Mut (H x)) (he : e = x ∨ H e = some (.own x)) (k : ∀ b u, b ≠ e → s.heap.get? b = some u → h'.get? b = some u) (heo : ∃ u, h'.get? e = some u)
    (new : ObjOk X.prog X.w (upd H x o) h' x o) : Inv X pins σ (upd H x o) { s with heap := h', toks := t' } := I.un (Un.write mu he k heo) (I.hok.write mu he k heo new)
theorem Inv.pins_of {pins' : List (Addr × Obj)} (I : Inv X pins σ H s) (h : ∀ p ∈ pins', s.heap.get? p.1 = some p.2 ∧ H p.1 = none ∧ p.1 ≠ X.env.locals ∧ p.1 ∉ X.fs ∧ ∀ v, p.2.data ≠ .cell v) : Inv X pins' σ H s :=
  ⟨I.ok, I.os, I.bare, I.base, I.loc, I.cell, I.free, I.freeC, fun p hp => (List.mem_append.mp hp).elim (fun z => I.pin p (List.mem_append_left _ z)) (h p), I.hok, I.len⟩

theorem nodup_ix {N : List Str} (hN : N.Nodup) {i j : Nat} {x : Str} (a : N[i]? = some x) (b : N[j]? = some x) : i = j := by
  obtain ⟨h1, e1⟩ := List.getElem?_eq_some_iff.mp a
  obtain ⟨h2, e2⟩ := List.getElem?_eq_some_iff.mp b
  exact (List.getElem_inj hN).mp (e1.trans e2.symm)

/-- a name is stored; what changed -/
theorem store_ok2 {M : Model} {A : Around} {E : Value → Shared → Prop} {i : Nat} {x : Str} {v : V} {u : Value} {Q : Unit → Shared → Prop} (I : Inv X pins σ H s) (hN : X.N.Nodup) (hi : X.N[i]? = some x) (hx : Loc X.env.scope x) (r : RelV v u)
    (h : ∀ s', Inv X pins (σ.set i (some v)) H s' → (∃ a, Heap.SameBut a s.heap s'.heap ∧ (a = X.env.locals ∨ X.env.cells.lookup x = some a)) → Q () s') (hf : X.fn x = true ∨ X.env.scope.names.lookup x = some .local := by first | exact .inl rfl | exact .inr rfl | assumption) : wpAny M A (storeName X.env x u) Q E s := by
  obtain ⟨m, hn, hl⟩ := id I.loc
  have hcls : (X.env.scope.kind == .class || (X.env.scope.kind == .module && X.env.locals != X.env.globals)) = false := by rw [I.ok.kind]; rfl
  have hiσ : i < σ.length := by rw [I.len]; exact (List.getElem?_eq_some_iff.mp hi).1
  have cne := I.cne
  have tracked : ∀ {a : Addr} {h' : Heap}, (∃ o, s.heap.get? a = some o ∧ H a = none) → Heap.SameBut a s.heap h' → HOk X.prog X.w H h' := fun {a h'} ha hs b ob e => by
    obtain ⟨_, _, hfree⟩ := ha
    refine (I.hok b ob e).stay (fun c w' hc q => (hs.2 c ?_).trans q) (fun _ q => q) fun _ _ q => q
    rintro rfl
    rcases hc with rfl | hc
    · rw [hfree] at e; cases e
    · rw [hfree] at hc; cases hc
  rcases hx with hk | hk
  · refine wpAny_storeName_local hk hn (fun h' hn' hs => ?_) hcls
    obtain ⟨oL, _, _, hoL, _⟩ := id hn
    refine h _ ⟨I.ok, I.os, I.bare, ⟨fun b o e n hb hx => ?_, fun b o e n hb hx => ?_, I.base.free, fun b o e hx => ?_, I.base.tups, I.base.frzs, I.base.tbls⟩, ⟨_, hn', fun j y v' e1 e2 e3 => ?_⟩, fun y c e => ?_, I.free, I.freeC, fun p hp => ?_, tracked ⟨oL, hoL, I.free⟩ hs, by simpa using I.len⟩ ⟨_, hs, .inl rfl⟩
    · exact (hs.2 b (Nat.ne_of_lt (Nat.lt_of_lt_of_le (Heap.lt_size e) I.ok.above))).trans (I.base.keep b o e n hb hx)
    · obtain ⟨sl, e1⟩ := I.base.slot b o e n hb hx
      exact ⟨sl, (hs.2 b (Nat.ne_of_lt (Nat.lt_of_lt_of_le (Heap.lt_size e) I.ok.above))).trans e1⟩
    · obtain ⟨o', e1⟩ := I.base.there b o e hx
      exact ⟨o', (hs.2 b (Nat.ne_of_lt (Nat.lt_of_lt_of_le (Heap.lt_size e) I.ok.above))).trans e1⟩
    · by_cases hj : j = i
      · subst hj
        rw [hi] at e1; cases e1
        rw [List.getElem?_set_self hiσ] at e2
        cases e2
        exact ⟨u, r, .inl ⟨hk, by simp⟩⟩
      · rw [List.getElem?_set_ne (Ne.symm hj)] at e2
        obtain ⟨u', r', q⟩ := hl j y v' e1 e2 e3
        refine ⟨u', r', ?_⟩
        rcases q with ⟨k, e⟩ | ⟨k, c, e, z⟩
        · refine .inl ⟨k, ?_⟩
          have : y ≠ x := fun e => hj (nodup_ix hN e1 (e ▸ hi))
          simp [this, e]
        · exact .inr ⟨k, c, e, z.sameBut hs (cne y c e)⟩
    · obtain ⟨w', z⟩ := I.cell y c e
      exact ⟨w', z.sameBut hs (cne y c e)⟩
    · obtain ⟨e, n, ne, nf, d⟩ := I.pin p hp
      exact ⟨(hs.2 p.1 ne).trans e, n, ne, nf, d⟩
  · have hfn : X.fn x = true := by
      rcases hf with z | z
      · exact z
      · rw [z] at hk; cases hk
    obtain ⟨c, hc⟩ := I.ok.has x (.inl hk)
    obtain ⟨w', z⟩ := I.cell x c hc
    refine wpAny_storeName_cell I.ok.kind hk hc z (fun h' hc' hs => ?_)
    obtain ⟨oc, hoc, hocd⟩ := id z
    refine h { s with heap := h' } ⟨I.ok, I.os, I.bare, ⟨fun b o e n hb hx => ?_, fun b o e n hb hx => ?_, I.base.free, fun b o e hx => ?_, I.base.tups, I.base.frzs, I.base.tbls⟩, ⟨m, hn.sameBut hs (Ne.symm (cne x c hc)), fun j y v' e1 e2 e3 => ?_⟩, fun y c' e => ?_, I.free, I.freeC, fun p hp => ?_, tracked ⟨oc, hoc, I.freeC x c hc⟩ hs, by simpa using I.len⟩ ⟨c, hs, .inr hc⟩
    · exact (hs.2 b (Nat.ne_of_lt (Nat.lt_of_lt_of_le (Heap.lt_size e) (I.ok.cab x c hfn hc)))).trans (I.base.keep b o e n hb hx)
    · obtain ⟨sl, e1⟩ := I.base.slot b o e n hb hx
      exact ⟨sl, (hs.2 b (Nat.ne_of_lt (Nat.lt_of_lt_of_le (Heap.lt_size e) (I.ok.cab x c hfn hc)))).trans e1⟩
    · obtain ⟨o', e1⟩ := I.base.there b o e hx
      exact ⟨o', (hs.2 b (Nat.ne_of_lt (Nat.lt_of_lt_of_le (Heap.lt_size e) (I.ok.cab x c hfn hc)))).trans e1⟩
    · by_cases hj : j = i
      · subst hj
        rw [hi] at e1; cases e1
        rw [List.getElem?_set_self hiσ] at e2
        cases e2
        exact ⟨u, r, .inr ⟨.inl hk, c, hc, hc'⟩⟩
      · rw [List.getElem?_set_ne (Ne.symm hj)] at e2
        obtain ⟨u', r', q⟩ := hl j y v' e1 e2 e3
        refine ⟨u', r', ?_⟩
        rcases q with q | ⟨k, c', e, z'⟩
        · exact .inl q
        · refine .inr ⟨k, c', e, z'.sameBut hs ?_⟩
          rintro rfl
          exact hj (nodup_ix hN e1 (I.ok.inj _ _ _ e hc ▸ hi))
    · by_cases hcc : c' = c
      · subst hcc; exact ⟨_, hc'⟩
      · obtain ⟨w2, z2⟩ := I.cell y c' e
        exact ⟨w2, z2.sameBut hs hcc⟩
    · obtain ⟨e, n, ne, nf, d⟩ := I.pin p hp
      refine ⟨(hs.2 p.1 ?_).trans e, n, ne, nf, d⟩
      intro q
      rw [q, hoc] at e
      have q' : oc = p.2 := Option.some.inj e
      exact d w' (by rw [← q']; exact hocd)
theorem store_ok {M : Model} {A : Around} {E : Value → Shared → Prop} {i : Nat} {x : Str} {v : V} {u : Value} {Q : Unit → Shared → Prop} (I : Inv X pins σ H s) (hN : X.N.Nodup) (hi : X.N[i]? = some x) (hx : Loc X.env.scope x) (r : RelV v u)
    (h : ∀ s', Inv X pins (σ.set i (some v)) H s' → Q () s') (hf : X.fn x = true ∨ X.env.scope.names.lookup x = some .local := by first | exact .inl rfl | exact .inr rfl | assumption) : wpAny M A (storeName X.env x u) Q E s :=
  store_ok2 I hN hi hx r (fun s' I' _ => h s' I') hf
/-- behind a call or a block, the state as it is -/
theorem Inv.call' {s' : Shared} {ch : List Addr} (I : Inv X pins σ H s) (ho : s'.os = s.os) (u : Un (frs X.stack) ch H H' s.heap s'.heap) (hok : HOk X.prog X.w H' s'.heap) (hg : AllBare s'.gens)
    (hch : ∀ b ∈ ch, (b ∈ X.ex ∨ X.s₀.heap.objs.size ≤ b) ∧ b ≠ X.env.locals ∧ (∀ x c, X.env.cells.lookup x = some c → c ≠ b) ∧ ∀ p ∈ X.pn ++ pins, p.1 ≠ b) : Inv X pins σ H' s' := by
  obtain ⟨h', g', d', t', o'⟩ := s'
  have e : o' = s.os := ho
  subst e
  exact I.call (g' := g') (t' := t') (d' := d') u hok hg hch
end

/-! ### the judgements -/
/-- an exception: its class, its own dict's address (where it has one), the abstract heap behind it -/
abbrev XK := Value → Option Addr → Hp → Prop
abbrev St := List (Option V)
abbrev VK := V → Hp → Prop
/-- an expression's reading; a test's; an argument list's -/
abbrev TE := St → Hp → VK → Prop
abbrev TT := St → Hp → (Bool → Hp → Prop) → Prop
abbrev TA := St → Hp → (List V → Hp → Prop) → Prop
/-- what is wanted behind a statement -/
structure Ends where
  nx : St → Hp → Prop
  rt : VK
  bk : St → Hp → Prop := fun _ _ => False
  ct : St → Hp → Prop := fun _ _ => False
abbrev TS := Ends → St → Hp → Prop

def EP (X : Cx) (pins : List (Addr × Obj)) (σ : St) (Q : VK) (u : Value) (s' : Shared) : Prop := ∃ v H', Inv X pins σ H' s' ∧ RelV v u ∧ Q v H'
def TP (X : Cx) (pins : List (Addr × Obj)) (σ : St) (Q : Bool → Hp → Prop) (b : Bool) (s' : Shared) : Prop := ∃ H', Inv X pins σ H' s' ∧ Q b H'
def AP (X : Cx) (pins : List (Addr × Obj)) (σ : St) (Q : List V → Hp → Prop) (us : List Value) (s' : Shared) : Prop := ∃ vs H', Inv X pins σ H' s' ∧ Vals vs us ∧ Q vs H'
def SP (X : Cx) (pins : List (Addr × Obj)) (D : Ends) (f : Flow) (s' : Shared) : Prop :=
  match f with
  | .next => ∃ σ' H', Inv X pins σ' H' s' ∧ D.nx σ' H'
  | .brk => ∃ σ' H', Inv X pins σ' H' s' ∧ D.bk σ' H'
  | .cont => ∃ σ' H', Inv X pins σ' H' s' ∧ D.ct σ' H'
  | .ret u => ∃ v σ' H', Inv X pins σ' H' s' ∧ RelV v u ∧ D.rt v H'

def PE (X : Cx) (e : Expr) (t : TE) : Prop :=
  ∀ (pins : List (Addr × Obj)) (s : Shared) (σ : St) (H : Hp) (Q : VK), Inv X pins σ H s → t σ H Q → wpAny (model X.prog X.w) X.A (eval e X.env) (EP X pins σ Q) X.xe s
def PT (X : Cx) (e : Expr) (t : TT) : Prop :=
  ∀ (pins : List (Addr × Obj)) (s : Shared) (σ : St) (H : Hp) (Q : Bool → Hp → Prop), Inv X pins σ H s → t σ H Q → wpAny (model X.prog X.w) X.A (isTrue e X.env (eval e X.env)) (TP X pins σ Q) X.xe s
/-- a test whatever its 'whole' is (and, or) -/
def PW (X : Cx) (e : Expr) (t : TT) : Prop :=
  ∀ (whole : Sem Value) (pins : List (Addr × Obj)) (s : Shared) (σ : St) (H : Hp) (Q : Bool → Hp → Prop), Inv X pins σ H s → t σ H Q → wpAny (model X.prog X.w) X.A (isTrue e X.env whole) (TP X pins σ Q) X.xe s
theorem PW.pt {X : Cx} {e : Expr} {t : TT} (h : PW X e t) : PT X e t := h _
/-- an argument list (no star), from the left -/
def PA (X : Cx) (es : List Expr) (t : TA) : Prop :=
  ∀ (pos : Pos) (pins : List (Addr × Obj)) (s : Shared) (σ : St) (H : Hp) (Q : List V → Hp → Prop), Inv X pins σ H s → t σ H Q → wpAny (model X.prog X.w) X.A (spliced (backTo pos (starEach es X.env))) (AP X pins σ Q) X.xe s
def PS (X : Cx) (st : Stmt) (t : TS) : Prop :=
  ∀ (pins : List (Addr × Obj)) (s : Shared) (σ : St) (H : Hp) (D : Ends), Inv X pins σ H s → t D σ H → wpAny (model X.prog X.w) X.A (exec st X.env) (SP X pins D) X.xe s
def PSs (X : Cx) (st : List Stmt) (t : TS) : Prop :=
  ∀ (pins : List (Addr × Obj)) (s : Shared) (σ : St) (H : Hp) (D : Ends), Inv X pins σ H s → t D σ H → wpAny (model X.prog X.w) X.A (execs st X.env) (SP X pins D) X.xe s
/-- weaken the end -/
theorem thn {α : Type} {t : Sem α} {Q Q' : α → Shared → Prop} {M : Model} {A : Around} {E : Value → Shared → Prop} {s : Shared} (h : wpAny M A t Q E s) (hQ : ∀ a s, Q a s → Q' a s) : wpAny M A t Q' E s := wpAny_mono h hQ fun _ _ x => x
end L2

namespace L2
open PySem PySem.Spec PyProof.Rows
section
variable {X : Cx}

/-! ### names and constants -/
def tVar (i : Nat) : TE := fun σ H Q => ∃ v, σ[i]? = some (some v) ∧ Q v H
def tC (v : V) : TE := fun _ H Q => Q v H
theorem pe_var {i : Nat} {x : Str} {pos : Pos} (hN : X.N[i]? = some x) (hv : Vis X.env.scope x) (hd : (x == ("__debug__" : Str)) = false := by decide) (hcd : (x == ("__classdict__" : Str)) = false := by decide) : PE X (.Name x pos) (tVar i) := by
  intro pins s σ H Q I h
  obtain ⟨v, e, h⟩ := h
  obtain ⟨m, hn, hl⟩ := I.loc
  obtain ⟨u, r, l⟩ := hl i x v hN e hv
  have fin : EP X pins σ Q u s := ⟨v, H, I, r, h⟩
  rcases l with ⟨hk, hm⟩ | ⟨hk, c, hc, hcell⟩
  · exact wpAny_Name (wpAny_loadName_local I.ok.kind hk hn hm fin) hd
  · rcases hk with hk | hk
    · exact wpAny_Name (wpAny_loadName_cell I.ok.kind hk hc hcell fin) hd
    · exact wpAny_Name (wpAny_loadName_free I.ok.kind hk hc hcell fin hcd) hd
theorem pe_int {i j pos} : PE X (.Constant (.int i) j pos) (tC (.int i)) := fun _ _ _ H _ I h => wpAny_Constant_int ⟨.int i, H, I.tok _, ⟨_, rfl⟩, h⟩
theorem pe_bl {b j pos} : PE X (.Constant (.bool b) j pos) (tC (.bl b)) := fun _ _ _ H _ I h => Constant_bool ⟨.bl b, H, I, rfl, h⟩
theorem pe_non {j pos} : PE X (.Constant .none j pos) (tC .non) := fun _ _ _ H _ I h => Constant_none ⟨.non, H, I, rfl, h⟩
theorem pe_str {x j pos} : PE X (.Constant (.str x) j pos) (tC (.str x)) := fun _ _ _ H _ I h => Calls.Constant_str ⟨.str x, H, I.tok _, ⟨_, rfl⟩, h⟩

/-- a global name of the def -/
def Gl (X : Cx) (x : Str) : Prop := X.env.kindOf x = some .globalImplicit
theorem ld_glob {E : Value → Shared → Prop} {pins : List (Addr × Obj)} {s : Shared} {σ : St} {H : Hp} {x : Str} {u : Value} {pos : Pos} {Q : Value → Shared → Prop} (I : Inv X pins σ H s) (hg : Gl X x) (hm : X.mg x = some u) (h : Q u s)
    (hd : (x == ("__debug__" : Str)) = false := by decide) : wpAny (model X.prog X.w) X.A (eval (.Name x pos) X.env) Q E s :=
  Calls.Name_function_global I.ok.kind hg (Calls.loadGlobal_global (by rw [I.ok.glob]; exact I.mod.glob.keeps I.bk) hm h) hd
theorem ld_blt {E : Value → Shared → Prop} {pins : List (Addr × Obj)} {s : Shared} {σ : St} {H : Hp} {x : Str} {u : Value} {pos : Pos} {Q : Value → Shared → Prop} (I : Inv X pins σ H s) (hg : Gl X x) (hm : X.mg x = none) (hv : bootBuiltins x = some u) (h : Q u s)
    (hn : x ≠ "__name__" := by decide) (hd : (x == ("__debug__" : Str)) = false := by decide) : wpAny (model X.prog X.w) X.A (eval (.Name x pos) X.env) Q E s := by
  obtain ⟨mb, h1, h2⟩ := I.mod.blt
  exact Calls.Name_function_global I.ok.kind hg (Calls.loadGlobal_builtin (by rw [I.ok.glob]; exact I.mod.glob.keeps I.bk) hm (by rw [I.ok.blt]; exact h1.keeps I.bk) ((h2 x hn).trans hv) h) hd
/-- a module's constant, a class, a function, as a value -/
theorem pe_glob {x : Str} {v : V} {u : Value} {pos : Pos} (hg : Gl X x) (hm : X.mg x = some u) (r : RelV v u) (hd : (x == ("__debug__" : Str)) = false := by decide) : PE X (.Name x pos) (tC v) :=
  fun _ _ _ H _ I h => ld_glob I hg hm ⟨v, H, I, r, h⟩ hd
theorem pe_bltn {x : Str} {v : V} {u : Value} {pos : Pos} (hg : Gl X x) (hm : X.mg x = none) (hv : bootBuiltins x = some u) (r : RelV v u) (hn : x ≠ "__name__" := by decide) (hd : (x == ("__debug__" : Str)) = false := by decide) : PE X (.Name x pos) (tC v) :=
  fun _ _ _ H _ I h => ld_blt I hg hm hv ⟨v, H, I, r, h⟩ hn hd

/-! ### arithmetic -/
/-- two ints -/
def t2I (ta tb : TE) (k : Int → Int → Hp → Prop) : St → Hp → Prop := fun σ H => ta σ H fun x H1 => tb σ H1 fun y H2 => ∃ i j, x = .int i ∧ y = .int j ∧ k i j H2
def tAdd (ta tb : TE) : TE := fun σ H Q => t2I ta tb (fun i j H2 => Q (.int (i + j)) H2) σ H
def tSub (ta tb : TE) : TE := fun σ H Q => t2I ta tb (fun i j H2 => Q (.int (i - j)) H2) σ H
/-- the left factor below 2^64 -/
def tMul (ta tb : TE) : TE := fun σ H Q => t2I ta tb (fun i j H2 => (-(2 ^ 64) < i ∧ i < 2 ^ 64) ∧ Q (.int (i * j)) H2) σ H
variable {a b : Expr} {ta tb : TE} {pos : Pos}
/-! ### comparisons -/
def PC (X : Cx) (op : CmpOp) (a b : Expr) (t : TE) : Prop :=
  ∀ (pins : List (Addr × Obj)) (s : Shared) (σ : St) (H : Hp) (Q : VK), Inv X pins σ H s → t σ H Q →
    wpAny (model X.prog X.w) X.A (eval a X.env) (fun v s₁ => wpAny (model X.prog X.w) X.A (eval b X.env) (fun u s₂ => wpAny (model X.prog X.w) X.A (compareOp op v u) (EP X pins σ Q) X.xe s₂) X.xe s₁) X.xe s
def tCmp (p : Int → Int → Bool) (ta tb : TE) : TE := fun σ H Q => t2I ta tb (fun i j H2 => Q (.bl (p i j)) H2) σ H
abbrev tLt : TE → TE → TE := tCmp fun i j => decide (i < j)
abbrev tLe : TE → TE → TE := tCmp fun i j => decide (i ≤ j)
abbrev tGt : TE → TE → TE := tCmp fun i j => decide (j < i)
abbrev tGe : TE → TE → TE := tCmp fun i j => decide (j ≤ i)
abbrev tEqI : TE → TE → TE := tCmp fun i j => decide (i = j)
abbrev tNeI : TE → TE → TE := tCmp fun i j => !decide (i = j)
/-- is None -/
def tIsN (ta : TE) : TE := fun σ H Q => ta σ H fun x H1 => Q (.bl (decide (x = .non))) H1
def tNotN (ta : TE) : TE := fun σ H Q => ta σ H fun x H1 => Q (.bl (!decide (x = .non))) H1
/-- a comparison as a value, as a test -/
def tB (t : TE) : TT := fun σ H Q => t σ H fun x H1 => ∃ c, x = .bl c ∧ Q c H1
/-- an expression whose value is a bool, as a test -/
theorem pt_val {e : Expr} {t : TE} (h : PE X e t) (he : ∀ whole, isTrue e X.env whole = (do let v ← whole; standAt e.pos; holding [v] (truthy v)) := by intro _; rfl) : PT X e (tB t) := by
  intro pins s σ H Q I hw
  refine isTrue_plain (thn (h pins s σ H _ I hw) fun v s1 ⟨x, H1, I1, r1, q1⟩ => ?_) (he _)
  obtain ⟨d, rfl, q⟩ := q1
  cases r1
  exact wpAny_truthy_bool ⟨H1, I1, q⟩

/-! ### and, or, not -/
variable {tA tB' : TT} {rest : List Expr}
def tAnd (t u : TT) : TT := fun σ H Q => t σ H fun c H1 => if c = true then u σ H1 Q else Q false H1
def tOr (t u : TT) : TT := fun σ H Q => t σ H fun c H1 => if c = true then Q true H1 else u σ H1 Q
def tNot (t : TT) : TT := fun σ H Q => t σ H fun c H1 => Q (!c) H1
theorem pw_and1 (ha : PT X a tA) : PW X (.BoolOp .And [a] pos) tA := by
  intro wh pins s σ H Q I h
  refine isTrue_and (thn (ha pins s σ H Q I h) fun c s1 e => ?_)
  cases c with
  | true => exact isTrue_and_nil e
  | false => exact e
theorem pw_or1 (ha : PT X a tA) : PW X (.BoolOp .Or [a] pos) tA := by
  intro wh pins s σ H Q I h
  refine isTrue_or (thn (ha pins s σ H Q I h) fun c s1 e => ?_)
  cases c with
  | false => exact isTrue_or_nil e
  | true => exact e
theorem pw_and (ha : PT X a tA) (hb : PW X (.BoolOp .And (b :: rest) pos) tB') : PW X (.BoolOp .And (a :: b :: rest) pos) (tAnd tA tB') := by
  intro wh pins s σ H Q I h
  refine isTrue_and (thn (ha pins s σ H _ I h) fun c s1 ⟨H1, I1, q1⟩ => ?_)
  cases c with
  | true => exact hb wh pins s1 σ H1 Q I1 q1
  | false => exact ⟨H1, I1, q1⟩
theorem pw_or (ha : PT X a tA) (hb : PW X (.BoolOp .Or (b :: rest) pos) tB') : PW X (.BoolOp .Or (a :: b :: rest) pos) (tOr tA tB') := by
  intro wh pins s σ H Q I h
  refine isTrue_or (thn (ha pins s σ H _ I h) fun c s1 ⟨H1, I1, q1⟩ => ?_)
  cases c with
  | true => exact ⟨H1, I1, q1⟩
  | false => exact hb wh pins s1 σ H1 Q I1 q1
theorem pt_not (ha : PT X a tA) : PT X (.UnaryOp .Not a pos) (tNot tA) := by
  intro pins s σ H Q I h
  exact isTrue_not (ha pins s σ H (fun c H1 => Q (!c) H1) I h)
/-- .. as values (bools) -/
def tAndV (ta tb : TE) : TE := fun σ H Q => ta σ H fun x H1 => ∃ c, x = .bl c ∧ if c = true then tb σ H1 Q else Q (.bl false) H1
def tOrV (ta tb : TE) : TE := fun σ H Q => ta σ H fun x H1 => ∃ c, x = .bl c ∧ if c = true then Q (.bl true) H1 else tb σ H1 Q
def tNotV (ta : TE) : TE := fun σ H Q => ta σ H fun x H1 => ∃ c, x = .bl c ∧ Q (.bl (!c)) H1
theorem pe_one {op} {t : TE} (h : PE X a t) : PE X (.BoolOp op [a] pos) t := fun pins s σ H Q I hw => BoolOp_one (h pins s σ H Q I hw)
theorem pe_and (ha : PE X a ta) (hb : PE X (.BoolOp .And (b :: rest) pos) tb) : PE X (.BoolOp .And (a :: b :: rest) pos) (tAndV ta tb) := by
  intro pins s σ H Q I h
  refine BoolOp_and (thn (ha pins s σ H _ I h) fun v s1 ⟨x, H1, I1, r1, q1⟩ => ?_)
  obtain ⟨c, rfl, q1⟩ := q1
  cases r1
  refine wpAny_truthy_bool ?_
  cases c with
  | true => exact hb pins s1 σ H1 Q I1 q1
  | false => exact ⟨.bl false, H1, I1, rfl, q1⟩
theorem pe_or (ha : PE X a ta) (hb : PE X (.BoolOp .Or (b :: rest) pos) tb) : PE X (.BoolOp .Or (a :: b :: rest) pos) (tOrV ta tb) := by
  intro pins s σ H Q I h
  refine BoolOp_or (thn (ha pins s σ H _ I h) fun v s1 ⟨x, H1, I1, r1, q1⟩ => ?_)
  obtain ⟨c, rfl, q1⟩ := q1
  cases r1
  refine wpAny_truthy_bool ?_
  cases c with
  | false => exact hb pins s1 σ H1 Q I1 q1
  | true => exact ⟨.bl true, H1, I1, rfl, q1⟩
/-- a if t else b -/
def tIf (t : TT) (ta tb : TE) : TE := fun σ H Q => t σ H fun c H1 => if c = true then ta σ H1 Q else tb σ H1 Q
theorem pe_ifExp {c : Expr} (hc : PT X c tA) (ha : PE X a ta) (hb : PE X b tb) : PE X (.IfExp c a b pos) (tIf tA ta tb) := by
  intro pins s σ H Q I h
  refine wpAny_IfExp (thn (hc pins s σ H _ I h) fun d s1 ⟨H1, I1, q1⟩ => ?_)
  cases d with
  | true => exact ha pins s1 σ H1 Q I1 q1
  | false => exact hb pins s1 σ H1 Q I1 q1
end
end L2

namespace L2
open PySem PySem.Spec PyProof.Rows

/-! ### a list, a tuple that is read: tracked, frozen, or an object of the module -/
def SqL (K : PySem.W.Frag) (H : Hp) (a : Addr) (xs : List V) : Prop :=
  Rd H a (.lst xs) ∨
    ∃ (o : Obj) (its : Array Value) (n : Nat), K.lookup a = some o ∧ o.cls = .type "list" ∧ o.dict = none ∧ o.data = .seq its n ∧ its.size ≤ sizeLine ∧ Vals xs its.toList
def SqT (K : PySem.W.Frag) (H : Hp) (a : Addr) (xs : List V) : Prop :=
  Rd H a (.tup xs) ∨
    ∃ (o : Obj) (its : Array Value) (n : Nat), K.lookup a = some o ∧ o.cls = .type "tuple" ∧ o.data = .seq its n ∧ its.size ≤ sizeLine ∧ Vals xs its.toList
def absV : Value → Option V
  | .none => some .non
  | .bool b => some (.bl b)
  | .int i _ => some (.int i)
  | .str x _ => some (.str x)
  | .bytes b _ => some (.byt b)
  | .float b _ => some (.flt b)
  | .ref a => some (.ref a)
  | .type n => some (.ty n)
  | _ => none
theorem RelV.abs {x : V} {u : Value} (r : RelV x u) : absV u = some x := by
  cases x with
  | non => cases r; rfl
  | bl _ => cases r; rfl
  | int _ => obtain ⟨t, rfl⟩ := r; rfl
  | str _ => obtain ⟨t, rfl⟩ := r; rfl
  | byt _ => obtain ⟨t, rfl⟩ := r; rfl
  | flt _ => obtain ⟨t, rfl⟩ := r; rfl
  | ref _ => cases r; rfl
  | ty _ => cases r; rfl
theorem RelV.inj {x y : V} {u : Value} (r : RelV x u) (q : RelV y u) : x = y := Option.some.inj (r.abs.symm.trans q.abs)
theorem Vals.inj : ∀ {xs ys : List V} {us : List Value}, Vals xs us → Vals ys us → xs = ys
  | _, _, _, .nil, .nil => rfl
  | _, _, _, .cons r t, .cons r' t' => by rw [r.inj r', Vals.inj t t']
section
variable {X : Cx} {pins : List (Addr × Obj)} {σ : St} {H : Hp} {s : Shared} {a : Addr} {xs ys : List V}
theorem SqL.of {K : PySem.W.Frag} (h : H a = some (.lst xs)) : SqL K H a xs := .inl (.inl h)
theorem SqT.of {K : PySem.W.Frag} (h : H a = some (.tup xs)) : SqT K H a xs := .inl (.inl h)
theorem Inv.list (I : Inv X pins σ H s) (h : SqL X.K H a xs) : ∃ its : List Value, Vals xs its ∧ PlainL s.heap a its.toArray ∧ xs.length ≤ sizeLine := by
  rcases h with h | ⟨o, its, n, hk, hc, hd, hs, hz, r⟩
  · obtain ⟨z, its, n, r, e⟩ := h.ok I.hok
    exact ⟨its, r, ⟨_, n, e, rfl, rfl, rfl⟩, z⟩
  · refine ⟨its.toList, r, ⟨o, n, I.kIn a o hk, hc, hd, by simpa using hs⟩, ?_⟩
    have e := r.length
    simp only [Array.length_toList] at e
    omega
theorem Inv.tuple (I : Inv X pins σ H s) (h : SqT X.K H a xs) : ∃ its : List Value, Vals xs its ∧ IsTup s.heap a its.toArray ∧ xs.length ≤ sizeLine := by
  rcases h with h | ⟨o, its, n, hk, hc, hs, hz, r⟩
  · obtain ⟨z, its, r, p⟩ := h.ok I.hok
    exact ⟨its, r, p, z⟩
  · refine ⟨its.toList, r, ⟨o, I.kIn a o hk, hc, n, by simpa using hs⟩, ?_⟩
    have e := r.length
    simp only [Array.length_toList] at e
    omega
theorem Inv.list_inj (I : Inv X pins σ H s) (h : SqL X.K H a xs) (h' : SqL X.K H a ys) : xs = ys := by
  obtain ⟨its, r, ⟨o, n, e, _, _, d⟩, _⟩ := I.list h
  obtain ⟨its', r', ⟨o', n', e', _, _, d'⟩, _⟩ := I.list h'
  rw [e] at e'; cases e'
  rw [d] at d'
  injection d' with d1 _
  have : its = its' := by simpa using congrArg Array.toList d1
  subst this
  exact r.inj r'
end

/-! ### another wish about exceptions -/
abbrev Cx.wish (X : Cx) (E : Value → Shared → Prop) : Cx := { X with xe := E }
/-- no exception leaves -/
abbrev Cx.nox (X : Cx) : Cx := X.wish fun _ _ => False
theorem Cx.Ok.wish {X : Cx} (ok : X.Ok) (E : Value → Shared → Prop) : (X.wish E).Ok :=
  ⟨ok.mod, ok.kind, ok.glob, ok.blt, ok.above, ok.inj, ok.has, ok.cab, ok.hd, ok.frames, ok.stk, ok.exf, ok.bs, ok.bsz, ok.noex, ok.exfs, ok.funs, ok.frf⟩
theorem Cx.Ok.unwish {X : Cx} {E : Value → Shared → Prop} (ok : (X.wish E).Ok) : X.Ok :=
  ⟨ok.mod, ok.kind, ok.glob, ok.blt, ok.above, ok.inj, ok.has, ok.cab, ok.hd, ok.frames, ok.stk, ok.exf, ok.bs, ok.bsz, ok.noex, ok.exfs, ok.funs, ok.frf⟩
section
variable {X : Cx} {pins : List (Addr × Obj)} {σ : St} {H : Hp} {s : Shared} {E : Value → Shared → Prop}
theorem Inv.wish (I : Inv X pins σ H s) (E : Value → Shared → Prop) : Inv (X.wish E) pins σ H s := ⟨I.ok.wish E, I.os, I.bare, I.base, I.loc, I.cell, I.free, I.freeC, I.pin, I.hok, I.len⟩
theorem Inv.unwish (I : Inv (X.wish E) pins σ H s) : Inv X pins σ H s := ⟨I.ok.unwish, I.os, I.bare, I.base, I.loc, I.cell, I.free, I.freeC, I.pin, I.hok, I.len⟩
theorem SP.unwish {D : Ends} {f : Flow} {s' : Shared} (h : SP (X.wish E) pins D f s') : SP X pins D f s' := by
  cases f with
  | next => obtain ⟨σ', H', I, q⟩ := h; exact ⟨σ', H', I.unwish, q⟩
  | brk => obtain ⟨σ', H', I, q⟩ := h; exact ⟨σ', H', I.unwish, q⟩
  | cont => obtain ⟨σ', H', I, q⟩ := h; exact ⟨σ', H', I.unwish, q⟩
  | ret u => obtain ⟨v, σ', H', I, r, q⟩ := h; exact ⟨v, σ', H', I.unwish, r, q⟩
theorem PSs.nox {st : List Stmt} {t : TS} (h : PSs X.nox st t) : PSs X st t := fun pins s σ H D I hw =>
  wpAny_mono (h pins s σ H D (I.wish _) hw) (fun _ _ q => q.unwish) fun _ _ z => False.elim z
end

/-! ### blocks and small statements -/
section
variable {X : Cx} {st : Stmt} {rest : List Stmt} {t u : TS} {e : Expr} {te : TE} {pos : Pos}
def tNext : TS := fun D σ H => D.nx σ H
def tSeq (t u : TS) : TS := fun D σ H => t { D with nx := u D } σ H
theorem pss_nil : PSs X [] tNext := fun _ _ σ H _ I h => wpAny_execs_nil ⟨σ, H, I, h⟩
theorem pss_cons (h1 : PS X st t) (h2 : PSs X rest u) : PSs X (st :: rest) (tSeq t u) := by
  intro pins s σ H D I h
  refine wpAny_execs_cons (thn (h1 pins s σ H { D with nx := u D } I h) fun f s1 q => ?_)
  cases f with
  | next =>
    obtain ⟨σ', H', I', q⟩ := q
    exact h2 pins s1 σ' H' D I' q
  | ret v => exact q
  | brk => exact q
  | cont => exact q
theorem pss_one (h1 : PS X st t) : PSs X [st] t := by
  intro pins s σ H D I h
  refine wpAny_execs_cons (thn (h1 pins s σ H D I h) fun f s1 q => ?_)
  cases f with
  | next => exact wpAny_execs_nil q
  | ret v => exact q
  | brk => exact q
  | cont => exact q
def tBreak : TS := fun D σ H => D.bk σ H
def tCont : TS := fun D σ H => D.ct σ H
/-- in a def's body nothing is shown -/
theorem Inv.quiet {pins : List (Addr × Obj)} {σ : St} {H : Hp} {s : Shared} (I : Inv X pins σ H s) : interactive X.env = false := by simp [interactive, I.ok.kind]
/-- an expression whose value is dropped -/
def tDrop (te : TE) : TS := fun D σ H => te σ H fun _ H1 => D.nx σ H1
theorem ps_expr (he : PE X e te) (hs : swapsWith e none pos.line X.env = pure false := by rfl) : PS X (.Expr e pos) (tDrop te) := by
  intro pins s σ H D I h
  exact wpAny_Expr_any (thn (he pins s σ H _ I h) fun v s1 ⟨x, H1, I1, r1, q1⟩ => ⟨σ, H1, I1, q1⟩) I.quiet hs
def tRet (te : TE) : TS := fun D σ H => te σ H D.rt
theorem ps_ret (he : PE X e te) : PS X (.Return (some e) pos) (tRet te) := by
  intro pins s σ H D I h
  exact wpAny_Return_some (thn (he pins s σ H _ I h) fun v s1 ⟨x, H1, I1, r1, q1⟩ => ⟨x, σ, H1, I1, r1, q1⟩)
def tRetN : TS := fun D _ H => D.rt .non H
def tIfS (c : TT) (t u : TS) : TS := fun D σ H => c σ H fun b H1 => if b = true then t D σ H1 else u D σ H1
theorem ps_if {c : Expr} {a b : List Stmt} {tc : TT} (hc : PT X c tc) (ha : PSs X a t) (hb : PSs X b u) : PS X (.If c a b pos) (tIfS tc t u) := by
  intro pins s σ H D I h
  refine wpAny_If (thn (hc pins s σ H _ I h) fun d s1 ⟨H1, I1, q1⟩ => ?_)
  cases d with
  | true => exact ha pins s1 σ H1 D I1 q1
  | false => exact hb pins s1 σ H1 D I1 q1
/-- code that the proof never comes to -/
def tNever : TS := fun _ _ _ => False
theorem ps_never : PS X st tNever := fun _ _ _ _ _ _ h => h.elim
end

/-! ### targets -/
abbrev TG := V → St → Hp → (St → Hp → Prop) → Prop
abbrev TGs := List V → St → Hp → (St → Hp → Prop) → Prop
def PG (X : Cx) (target : Expr) (t : TG) : Prop :=
  ∀ (pins : List (Addr × Obj)) (s : Shared) (σ : St) (H : Hp) (v : V) (u : Value) (Q : St → Hp → Prop), Inv X pins σ H s → RelV v u → t v σ H Q →
    wpAny (model X.prog X.w) X.A (assign target X.env u) (fun _ s' => ∃ σ' H', Inv X pins σ' H' s' ∧ Q σ' H') X.xe s
/-- several targets, one after another -/
def PGs (X : Cx) (ts : List Expr) (t : TGs) : Prop :=
  ∀ (pins : List (Addr × Obj)) (s : Shared) (σ : St) (H : Hp) (vs : List V) (us : List Value) (Q : St → Hp → Prop), Inv X pins σ H s → Vals vs us → t vs σ H Q →
    wpAny (model X.prog X.w) X.A (assignInOrder ((assignEach ts X.env).map (·.2)) us) (fun _ s' => ∃ σ' H', Inv X pins σ' H' s' ∧ Q σ' H') X.xe s
/-- o[i] = v, by values -/
abbrev TSet := V → V → V → Hp → (Hp → Prop) → Prop
def PSet (X : Cx) (t : TSet) : Prop :=
  ∀ (pins : List (Addr × Obj)) (s : Shared) (σ : St) (H : Hp) (o i v : V) (ov iv u : Value) (Q : Hp → Prop), Inv X pins σ H s → RelV o ov → RelV i iv → RelV v u → t o i v H Q →
    wpAny (model X.prog X.w) X.A (setItem ov iv u) (fun _ s' => ∃ H', Inv X pins σ H' s' ∧ Q H') X.xe s
/-- a op= b, by values -/
abbrev TIp := V → V → Hp → VK → Prop
def PIp (X : Cx) (op : Operator) (t : TIp) : Prop :=
  ∀ (pins : List (Addr × Obj)) (s : Shared) (σ : St) (H : Hp) (x y : V) (v u : Value) (Q : VK), Inv X pins σ H s → RelV x v → RelV y u → t x y H Q →
    wpAny (model X.prog X.w) X.A (inplaceOp op v u) (EP X pins σ Q) X.xe s
section
variable {X : Cx} {pos : Pos}
def gName (i : Nat) : TG := fun v σ H Q => Q (σ.set i (some v)) H
theorem pg_name {i : Nat} {x : Str} (hN : X.N.Nodup) (hi : X.N[i]? = some x) (hx : Loc X.env.scope x) (hf : X.fn x = true ∨ X.env.scope.names.lookup x = some .local := by first | exact .inl rfl | exact .inr rfl | assumption) : PG X (.Name x pos) (gName i) := by
  intro pins s σ H v u Q I r h
  exact wpAny_assign_Name (store_ok I hN hi hx r (fun s' I' => ⟨_, H, I', h⟩) hf)
def gNil : TGs := fun vs σ H Q => vs = [] ∧ Q σ H
def gCons (t : TG) (u : TGs) : TGs := fun vs σ H Q => ∃ v r, vs = v :: r ∧ t v σ H fun σ' H' => u r σ' H' Q
theorem pgs_nil : PGs X [] gNil := by
  intro pins s σ H vs us Q I r h
  obtain ⟨e, h⟩ := h
  subst e
  cases r
  exact assignInOrder_nil ⟨σ, H, I, h⟩
theorem pgs_cons {e : Expr} {es : List Expr} {t : TG} {u : TGs} (h1 : PG X e t) (h2 : PGs X es u)
    (hs : (assignEach (e :: es) X.env).map (·.2) = assign e X.env :: (assignEach es X.env).map (·.2) := by rfl) : PGs X (e :: es) (gCons t u) := by
  intro pins s σ H vs us Q I r h
  obtain ⟨v, vr, e1, h⟩ := h
  subst e1
  cases r with
  | cons r rr =>
    rw [hs]
    refine assignInOrder_cons (thn (h1 pins s σ H _ _ _ I r h) fun _ s1 ⟨σ1, H1, I1, q1⟩ => ?_)
    exact h2 pins s1 σ1 H1 _ _ Q I1 rr q1
/-- (a, b, ..) = a tuple of that length -/
def gTup (K : PySem.W.Frag) (n : Nat) (t : TGs) : TG := fun v σ H Q => ∃ a xs, v = .ref a ∧ SqT K H a xs ∧ xs.length = n ∧ t xs σ H Q
theorem pg_tup {es : List Expr} {k : Nat} {t : TGs} {n : Nat} (hc : X.calm = true) (h : PGs X es t)
    (hn : (assignEach es X.env).length = n := by rfl) (hst : (assignEach es X.env).findIdx? (·.1) = none := by rfl) : PG X (.Tuple es k pos) (gTup X.K n t) := by
  intro pins s σ H v u Q I r hw
  obtain ⟨a, xs, e1, hq, hl, hw⟩ := hw
  subst e1
  cases r
  obtain ⟨its, rv, ht, hz⟩ := I.tuple hq
  refine assign_Tuple_tuple (I.ok.hd hc) ht (by simp [hn, ← hl, rv.length]) hst fun h' hx => ?_
  have I1 : Inv X pins σ H { s with heap := h' } := I.kept (t' := s.toks) fun b o e => hx b o (Nat.ne_of_lt (Heap.lt_size e)) e
  exact h pins _ σ H xs _ Q I1 (by simpa using rv) hw
/-- o[i] = .. -/
def gSub (to ti : TE) (t : TSet) : TG := fun v σ H Q => to σ H fun o H1 => ti σ H1 fun i H2 => t o i v H2 fun H3 => Q σ H3
theorem pg_sub {o i : Expr} {to ti : TE} {t : TSet} (ho : PE X o to) (hi : PE X i ti) (hs : PSet X t)
    (ha : ∀ v, assign (.Subscript o i pos) X.env v = (do
      let ov ← holding [v] (eval o X.env)
      let iv ← holding [v, ov] (eval i X.env)
      standAt pos
      holding [v, ov, iv] (setItem ov iv v)
      release [v, ov, iv] []) := by intro _; rfl) : PG X (.Subscript o i pos) (gSub to ti t) := by
  intro pins s σ H v u Q I r h
  rw [ha]
  refine wpAny_bind (wpAny_holding (thn (ho pins s σ H _ I h) fun ov s1 ⟨x, H1, I1, r1, q1⟩ => ?_))
  refine wpAny_bind (wpAny_holding (thn (hi pins s1 σ H1 _ I1 q1) fun iv s2 ⟨y, H2, I2, r2, q2⟩ => ?_))
  refine wpAny_bind (wpAny_standAt (wpAny_bind (wpAny_holding (thn (hs pins s2 σ H2 x y v ov iv u _ I2 r1 r2 r q2) fun _ s3 ⟨H3, I3, q3⟩ => ?_))))
  exact wpAny_release ⟨σ, H3, I3, q3⟩
/-- target = value -/
def tAsg (te : TE) (g : TG) : TS := fun D σ H => te σ H fun x H1 => g x σ H1 D.nx
theorem ps_asg {tg e : Expr} {te : TE} {g : TG} (he : PE X e te) (hg : PG X tg g) (hs : swapsWithSole [tg] e pos.line X.env = pure false := by rfl) (hw : swappedStores [tg] e X.env = pure none := by rfl)
    (h1 : (assignEach [tg] X.env).map (·.2) = [assign tg X.env] := by rfl) : PS X (.Assign [tg] e pos) (tAsg te g) := by
  intro pins s σ H D I h
  refine wpAny_Assign_stores (thn (he pins s σ H _ I h) fun v s1 ⟨x, H1, I1, r1, q1⟩ => ?_) hs hw
  rw [h1]
  exact thn (hg pins s1 σ H1 x v _ I1 r1 q1) fun _ s2 q => q
/-- name = value -/
theorem ps_set {i : Nat} {x : Str} {e : Expr} {te : TE} {pos' : Pos} (hN : X.N.Nodup) (hi : X.N[i]? = some x) (hx : Loc X.env.scope x) (he : PE X e te) (hs : swapsWith e (some (.Name x pos')) pos.line X.env = pure false := by rfl) (hf : X.fn x = true ∨ X.env.scope.names.lookup x = some .local := by first | exact .inl rfl | exact .inr rfl | assumption) :
    PS X (.Assign [.Name x pos'] e pos) (tAsg te (gName i)) := by
  intro pins s σ H D I h
  refine wpAny_Assign_Name (thn (he pins s σ H _ I h) fun v s1 ⟨y, H1, I1, r1, q1⟩ => ?_) hs
  exact store_ok I1 hN hi hx r1 (fun s2 I2 => ⟨_, H1, I2, q1⟩) hf
/-- a, b = x, y with plain local names: stored from the right; the pair itself is not tracked (the opening rows as in PyProof/Rows/TupAssign.lean:23) -/
def tPar (i j : Nat) (ta : TA) : TS := fun D σ H => ta σ H fun vs H1 => ∃ v w, vs = [v, w] ∧ D.nx ((σ.set i (some v)).set j (some w)) H1
/-- name op= e -/
def tAug (i : Nat) (te : TE) (ti : TIp) : TS := fun D σ H => ∃ x, σ[i]? = some (some x) ∧ te σ H fun y H1 => ti x y H1 fun z H2 => D.nx (σ.set i (some z)) H2
theorem ps_aug {i : Nat} {x : Str} {e : Expr} {te : TE} {op : Operator} {ti : TIp} {pos' : Pos} (hN : X.N.Nodup) (hi : X.N[i]? = some x) (hx : Loc X.env.scope x) (he : PE X e te) (ho : PIp X op ti) (hf : X.fn x = true ∨ X.env.scope.names.lookup x = some .local := by first | exact .inl rfl | exact .inr rfl | assumption) :
    PS X (.AugAssign (.Name x pos') op e pos) (tAug i te ti) := by
  intro pins s σ H D I h
  obtain ⟨v, e1, h⟩ := h
  obtain ⟨m, hn, hl⟩ := I.loc
  have vis : Vis X.env.scope x := by rcases hx with k | k; exact .inl k; exact .inr (.inl k)
  obtain ⟨u, r, l⟩ := hl i x v hi e1 vis
  refine wpAny_AugAssign_Name ?_
  have go : wpAny (model X.prog X.w) X.A (eval e X.env) (fun w s₂ => wpAny (model X.prog X.w) X.A (inplaceOp op u w) (fun r s₃ => wpAny (model X.prog X.w) X.A (storeName X.env x r) (fun _ => SP X pins D .next) X.xe s₃) X.xe s₂) X.xe s := by
    refine thn (he pins s σ H _ I h) fun w s1 ⟨y, H1, I1, r1, q1⟩ => ?_
    refine thn (ho pins s1 σ H1 v y u w _ I1 r r1 q1) fun z s2 ⟨zv, H2, I2, r2, q2⟩ => ?_
    exact store_ok I2 hN hi hx r2 (fun s3 I3 => ⟨_, H2, I3, q2⟩) hf
  rcases l with ⟨hk, hm⟩ | ⟨hk, c, hc, hcell⟩
  · exact wpAny_loadName_local I.ok.kind hk hn hm go
  · rcases hk with hk | hk
    · exact wpAny_loadName_cell I.ok.kind hk hc hcell go
    · rcases hx with k | k
      · have : X.env.scope.names.lookup x = some .free := hk
        rw [k] at this; cases this
      · have : X.env.scope.names.lookup x = some .free := hk
        rw [k] at this; cases this
/-- o[i] op= e -/
def tAugS (to ti te : TE) (tget : V → V → Hp → VK → Prop) (tip : TIp) (tset : TSet) : TS := fun D σ H => to σ H fun o H1 => ti σ H1 fun i H2 => tget o i H2 fun x H3 => te σ H3 fun y H4 => tip x y H4 fun z H5 => tset o i z H5 fun H6 => D.nx σ H6
/-- o[i], by values -/
def PGet (X : Cx) (t : V → V → Hp → VK → Prop) : Prop :=
  ∀ (pins : List (Addr × Obj)) (s : Shared) (σ : St) (H : Hp) (o i : V) (ov iv : Value) (Q : VK), Inv X pins σ H s → RelV o ov → RelV i iv → t o i H Q →
    wpAny (model X.prog X.w) X.A (getItem ov iv) (EP X pins σ Q) X.xe s
/-- ints -/
def ipI (f : Int → Int → Int) : TIp := fun x y H Q => ∃ i j, x = .int i ∧ y = .int j ∧ Q (.int (f i j)) H
theorem ip_add : PIp X .Add (ipI fun i j => i + j) := by
  intro pins s σ H x y v u Q I r1 r2 h
  obtain ⟨i, j, e1, e2, q⟩ := h
  subst e1; subst e2
  obtain ⟨t, rfl⟩ := r1
  obtain ⟨t', rfl⟩ := r2
  exact iadd_int ⟨.int _, H, I.tok _, ⟨_, rfl⟩, q⟩
theorem ip_sub : PIp X .Sub (ipI fun i j => i - j) := by
  intro pins s σ H x y v u Q I r1 r2 h
  obtain ⟨i, j, e1, e2, q⟩ := h
  subst e1; subst e2
  obtain ⟨t, rfl⟩ := r1
  obtain ⟨t', rfl⟩ := r2
  exact isub_int ⟨.int _, H, I.tok _, ⟨_, rfl⟩, q⟩
end

/-! ### while -/
section
variable {X : Cx} {pos : Pos}
/-- the invariant W with its measure -/
def tWhile (c : TT) (tb : TS) : TS := fun D σ H => ∃ W : Nat → St → Hp → Prop, (∃ m, W m σ H) ∧ ∀ m σ H, W m σ H →
  c σ H fun b H1 => if b = true then ∃ N : St → Hp → Prop, (∀ σ' H', N σ' H' → ∃ m', m' < m ∧ W m' σ' H') ∧ tb { D with nx := N, ct := N, bk := D.nx } σ H1 else D.nx σ H1
theorem ps_while {c : Expr} {body : List Stmt} {tc : TT} {tb : TS} (hp : PassesOwn (model X.prog X.w) X.A X.env X.xe) (hc : PT X c tc) (hb : PSs X body tb) : PS X (.While c body [] pos) (tWhile tc tb) := by
  intro pins s σ H D I h
  obtain ⟨W, ⟨m0, w0⟩, turn⟩ := h
  refine wpAny_While (codeAny_whileLoop (fun n s' => ∃ σ' H', Inv X pins σ' H' s' ∧ W n σ' H') ?_ m0 ⟨σ, H, I, w0⟩)
  rintro n s1 ⟨σ1, H1, I1, w1⟩
  refine wpAny_passesOwn hp (thn (hc pins s1 σ1 H1 _ I1 (turn n σ1 H1 w1)) fun b s2 ⟨H2, I2, q2⟩ => ?_)
  cases b with
  | true =>
    obtain ⟨N, hN, q2⟩ := q2
    rw [if_pos rfl]
    refine wpAny_passesOwn hp (thn (hb pins s2 σ1 H2 _ I2 q2) fun f s3 q3 => ?_)
    cases f with
    | next =>
      obtain ⟨σ3, H3, I3, n3⟩ := q3
      obtain ⟨m', hm, w3⟩ := hN σ3 H3 n3
      exact ⟨m', hm, σ3, H3, I3, w3⟩
    | cont =>
      obtain ⟨σ3, H3, I3, n3⟩ := q3
      obtain ⟨m', hm, w3⟩ := hN σ3 H3 n3
      exact ⟨m', hm, σ3, H3, I3, w3⟩
    | brk => exact q3
    | ret v => exact q3
  | false =>
    rw [if_neg Bool.false_ne_true]
    exact wpAny_execs_nil ⟨σ1, H2, I2, q2⟩
end

/-! ### what a loop or a comprehension walks -/
/-- at turn i: it yields x (the heap may grow), or it stops -/
structure It where
  go : Nat → Hp → Prop
  yld : Nat → Hp → V → Hp → Prop
  stop : Nat → Hp → Prop
/-- the iterator's own objects may turn: they are not the frame's, not pinned, younger than the entry (or a comprehension's own) -/
def FpOk (X : Cx) (pins : List (Addr × Obj)) (H : Hp) (b : Addr) : Prop :=
  H b = none ∧ b ≠ X.env.locals ∧ b ∉ X.fs ∧ (b ∈ X.ex ∨ X.s₀.heap.objs.size ≤ b) ∧ (∀ x c, X.env.cells.lookup x = some c → c ≠ b) ∧ ∀ p ∈ X.pn ++ pins, p.1 ≠ b
theorem Inv.fpOk {X : Cx} {pins : List (Addr × Obj)} {σ : St} {H H' : Hp} {s : Shared} {b : Addr} (I : Inv X pins σ H s) (hb : s.heap.objs.size ≤ b) (hn : H' b = none) : FpOk X pins H' b := by
  refine ⟨hn, Nat.ne_of_gt (Nat.lt_of_lt_of_le I.lt hb), I.nofs hb, .inr (Nat.le_trans I.sz hb), fun x c e z => ?_, fun p hp z => ?_⟩
  · obtain ⟨v, q⟩ := I.cell x c e
    exact absurd (Nat.lt_of_lt_of_le q.lt (by rw [z]; exact hb)) (Nat.lt_irrefl _)
  · exact absurd (Nat.lt_of_lt_of_le (Heap.lt_size (I.pin p hp).1) (by rw [z]; exact hb)) (Nat.lt_irrefl _)
structure Turn (P : Program) (w : World) (K : PySem.W.Frag) (tg : Expr) (J : It) (fp : List Addr) (it : Addr) (tn : Nat → Heap → Prop) : Prop where
  mem : it ∈ fp
  obj : ∀ i h, tn i h → ∀ b ∈ fp, ∃ o, h.get? b = some o ∧ ∀ v, o.data ≠ .cell v
  keep : ∀ i h h', tn i h → (∀ b ∈ fp, ∀ o, h.get? b = some o → h'.get? b = some o) → tn i h'
  item : ∀ (X : Cx), X.prog = P → X.w = w → X.K = K → X.calm = true → ∀ (i : Nat) (pins : List (Addr × Obj)) (s : Shared) (σ : St) (H : Hp) (E : Value → Shared → Prop), Inv X pins σ H s → (∀ b ∈ fp, FpOk X pins H b) → tn i s.heap → J.go i H →
    wpAny (model P w) X.A (pyNext (.ref it)) (fun r s1 => ∃ u, r = some u ∧
      wpAny (model P w) X.A (letOwnedTupleGo tg (.ref it) u) (fun _ s2 => ∃ x H', Inv X pins σ H' s2 ∧ RelV x u ∧ J.yld i H x H' ∧ tn (i + 1) s2.heap ∧ ∀ b ∈ fp, H' b = none) E s1) E s
  done : ∀ (X : Cx), X.prog = P → X.w = w → X.K = K → X.calm = true → ∀ (i : Nat) (pins : List (Addr × Obj)) (s : Shared) (σ : St) (H : Hp) (E : Value → Shared → Prop), Inv X pins σ H s → (∀ b ∈ fp, FpOk X pins H b) → tn i s.heap → J.stop i H →
    wpAny (model P w) X.A (pyNext (.ref it)) (fun r s1 => r = none ∧ Inv X pins σ H s1) E s
  self : ∀ (A : Around) (i : Nat) (s : Shared) (Q : Value → Shared → Prop) (E : Value → Shared → Prop), tn i s.heap → Q (.ref it) s → wpAny (model P w) A (pyIter (.ref it)) Q E s
abbrev TI := St → Hp → (It → Hp → Prop) → Prop
/-- an iterator has come -/
def PIE (X : Cx) (pins : List (Addr × Obj)) (σ : St) (tg : Expr) (R : It → Hp → Prop) (itv : Value) (s2 : Shared) : Prop :=
  ∃ (it : Addr) (fp : List Addr) (tn : Nat → Heap → Prop) (J : It) (H' : Hp), itv = .ref it ∧ Inv X pins σ H' s2 ∧ Turn X.prog X.w X.K tg J fp it tn ∧ tn 0 s2.heap ∧ (∀ b ∈ fp, FpOk X pins H' b) ∧ R J H'
def PI (X : Cx) (tg iter : Expr) (wi : TI) : Prop :=
  ∀ (pins : List (Addr × Obj)) (s : Shared) (σ : St) (H : Hp) (R : It → Hp → Prop), Inv X pins σ H s → wi σ H R →
    wpAny (model X.prog X.w) X.A (eval iter X.env) (fun v s1 => wpAny (model X.prog X.w) X.A (pyIter v) (PIE X pins σ tg R) X.xe s1) X.xe s

/-- the step ahead of the store is nothing for an iterator that keeps no tuple -/
theorem go_of {M : Model} {A : Around} {E : Value → Shared → Prop} {s : Shared} {tg : Expr} {it : Addr} {u : Value} {o : Obj} {n : String} {vs : Array Value} {Q : Unit → Shared → Prop} (ho : s.heap.get? it = some o) (hc : o.cls = .type n) (hd : o.data = .fields vs)
    (hn : ["enumerate", "zip", "dict_itemiterator", "dict_reverseitemiterator", "odict_iterator", "itertools.zip_longest", "itertools.pairwise"].contains n = false) (hQ : Q () s) : wpAny M A (letOwnedTupleGo tg (.ref it) u) Q E s := by
  unfold letOwnedTupleGo
  cases tg <;> first
    | exact wpAny_pure hQ
    | (cases u <;> first
        | exact wpAny_pure hQ
        | (refine wpAny_bind (wpAny_load ho ?_)
           rw [hc, hd]
           show wpAny M A (if (["enumerate", "zip", "dict_itemiterator", "dict_reverseitemiterator", "odict_iterator", "itertools.zip_longest", "itertools.pairwise"].contains n && vs[0]? == some (rawInt _)) = true then _ else _) Q E s
           rw [if_neg (by intro h; rw [hn, Bool.false_and] at h; cases h)]
           exact wpAny_pure hQ))

/-- the list at a, as it stands at each turn (a loop may append to it) -/
def Itl (K : PySem.W.Frag) (a : Addr) : It :=
  ⟨fun i H => ∃ xs x, SqL K H a xs ∧ xs[i]? = some x, fun i H x H' => H' = H ∧ ∀ xs, SqL K H a xs → xs[i]? = some x, fun i H => ∃ xs, SqL K H a xs ∧ xs.length ≤ i⟩
def Itt (K : PySem.W.Frag) (a : Addr) : It :=
  ⟨fun i H => ∃ xs x, SqT K H a xs ∧ xs[i]? = some x, fun i H x H' => H' = H ∧ ∀ xs, SqT K H a xs → xs[i]? = some x, fun i H => ∃ xs, SqT K H a xs ∧ xs.length ≤ i⟩
/-- lo, lo + 1, .. (n of them) -/
def Itr (lo : Int) (n : Nat) : It := ⟨fun i _ => i < n, fun i H x H' => H' = H ∧ x = .int (lo + i), fun i _ => n ≤ i⟩
theorem turn_list {P : Program} {w : World} {K : PySem.W.Frag} {tg : Expr} (a it : Addr) : Turn P w K tg (Itl K a) [it] it (fun i h => h.IsListIter it a i) where
  mem := by simp
  obj := fun i h st b hb => by
    have e : b = it := by simpa using hb
    subst e
    obtain ⟨o, e, c, d⟩ := st
    exact ⟨o, e, fun v z => by rw [d] at z; cases z⟩
  keep := fun i h h' st k => st.at fun o e => k it (by simp) o e
  item := by
    intro X hP hw hK hc i pins s σ H E I hf st hg
    subst hP hw hK
    obtain ⟨xs, x, hq, hx⟩ := hg
    obtain ⟨its, rv, p, hz⟩ := I.list hq
    obtain ⟨u, hu, ru⟩ := rv.get hx
    obtain ⟨f0, f1, f2, f3, f4, f5⟩ := hf it (by simp)
    refine wpAny_pyNext_list_item st p.isList (x := u) (by simpa using hu) fun h' st' sb => ?_
    have I1 : Inv X pins σ H { s with heap := h' } := I.turned (t' := s.toks) (fun b o hb e => (sb.2 b hb).trans e) f0 f1 f3 f4 f5
    obtain ⟨o, e, c, d⟩ := id st'
    exact ⟨u, rfl, go_of (s := { s with heap := h' }) e c d (by decide) ⟨x, H, I1, ru, ⟨rfl, fun ys hy => by rw [I.list_inj hy hq]; exact hx⟩, st', fun b hb => (hf b hb).1⟩⟩
  done := by
    intro X hP hw hK hc i pins s σ H E I hf st hg
    subst hP hw hK
    obtain ⟨xs, hq, hx⟩ := hg
    obtain ⟨its, rv, p, hz⟩ := I.list hq
    obtain ⟨f0, f1, f2, f3, f4, f5⟩ := hf it (by simp)
    have hl := rv.length
    exact wpAny_pyNext_list_end (I.ok.hd hc) st p.isList (by simp; omega) fun h' eb => ⟨rfl, I.turned (t' := s.toks) (fun b o hb e => eb b o hb e) f0 f1 f3 f4 f5⟩
  self := fun _ _ _ _ _ st h => wpAny_pyIter_listiter st h
theorem turn_range {P : Program} {w : World} {K : PySem.W.Frag} {tg : Expr} (it : Addr) (lo : Int) (n : Nat) : Turn P w K tg (Itr lo n) [it] it (fun i h => IsRangeIter h it (lo + (i : Nat) * 1) ((n : Int) - (i : Nat)) 1) where
  mem := by simp
  obj := fun i h st b hb => by
    have e : b = it := by simpa using hb
    subst e
    exact ⟨_, st, fun v z => by
      have z' : Data.fields _ = Data.cell v := z
      cases z'⟩
  keep := fun i h h' st k => k it (by simp) _ st
  item := by
    intro X hP hw hK hc i pins s σ H E I hf st hg
    subst hP hw hK
    obtain ⟨f0, f1, f2, f3, f4, f5⟩ := hf it (by simp)
    have W := Walks.range (prog := X.prog) (w := X.w) (I.ok.hd hc) it lo 1 n
    refine W.item i s _ _ hg st fun v h' tk hv st' kk => ?_
    obtain ⟨t, rfl⟩ := hv
    have I1 : Inv X pins σ H { s with heap := h', toks := tk } := I.turned (fun b o hb e => kk b o (by simpa using hb) e) f0 f1 f3 f4 f5
    refine ⟨_, rfl, go_of (s := { s with heap := h', toks := tk }) (n := "range_iterator") st' rfl rfl (by decide) ⟨.int (lo + i), H, I1, ⟨t, ?_⟩, ⟨rfl, rfl⟩, st', fun b hb => (hf b hb).1⟩⟩
    rw [Int.mul_one]
  done := by
    intro X hP hw hK hc i pins s σ H E I hf st hg
    subst hP hw hK
    obtain ⟨f0, f1, f2, f3, f4, f5⟩ := hf it (by simp)
    exact wpAny_pyNext_range_end (I.ok.hd hc) st (by have : n ≤ i := hg; omega) fun h' eb => ⟨rfl, I.turned (t' := s.toks) (fun b o hb e => eb b o hb e) f0 f1 f3 f4 f5⟩
  self := fun _ _ _ _ _ st h => wpAny_pyIter_rangeiter st h
end L2

namespace L2
open PySem PySem.Spec PyProof.Rows
section
variable {X : Cx} {tg : Expr}
def iList (K : PySem.W.Frag) (tl : TE) : TI := fun σ H R => tl σ H fun x H1 => ∃ a, x = .ref a ∧ (∃ xs, SqL K H1 a xs) ∧ R (Itl K a) H1
def iTup (K : PySem.W.Frag) (tl : TE) : TI := fun σ H R => tl σ H fun x H1 => ∃ a, x = .ref a ∧ (∃ xs, SqT K H1 a xs) ∧ R (Itt K a) H1
theorem pi_list {l : Expr} {tl : TE} (hl : PE X l tl) : PI X tg l (iList X.K tl) := by
  intro pins s σ H R I h
  refine thn (hl pins s σ H _ I h) fun v s1 ⟨x, H1, I1, r1, q1⟩ => ?_
  obtain ⟨a, e, ⟨xs, hq⟩, q⟩ := q1
  subst e
  cases r1
  obtain ⟨its, rv, p, hz⟩ := I1.list hq
  refine wpAny_pyIter_list p.isList ?_
  refine ⟨s1.heap.objs.size, [s1.heap.objs.size], _, _, H1, rfl, I1.kept (t' := s1.toks) fun b o e => Heap.get?_push_of_some _ e, turn_list a _, ⟨_, Heap.get?_push_size _ rfl, rfl, rfl⟩, fun b hb => ?_, q⟩
  have e : b = s1.heap.objs.size := by simpa using hb
  subst e
  exact I1.fpOk (Nat.le_refl _) (I1.hok.fresh (Nat.le_refl _))
/-- a range object just made, walked -/
theorem range_it {pins : List (Addr × Obj)} {σ : St} {H : Hp} {s : Shared} {R : It → Hp → Prop} {E : Value → Shared → Prop} {lo hi : Int} {t u v : Tok} {tk : Nat} (I : Inv X pins σ H s) (h1 : -(2 ^ 62) ≤ lo) (h2 : lo < 2 ^ 62) (h3 : -(2 ^ 62) ≤ hi) (h4 : hi < 2 ^ 62)
    (q : R (Itr lo (hi - lo).toNat) H) : wpAny (model X.prog X.w) X.A (pyIter (.ref s.heap.objs.size)) (PIE X pins σ tg R) E { s with heap := s.heap.push { cls := .type "range", data := .fields #[.int lo t, .int hi u, .int 1 v] }, toks := tk } := by
  refine wpAny_pyIter_range (IsRange.new ..) (small_one h1 h2 h3 h4) ?_
  have I1 : Inv X pins σ H { s with heap := s.heap.push { cls := .type "range", data := .fields #[.int lo t, .int hi u, .int 1 v] }, toks := tk } := I.kept fun b o e => Heap.get?_push_of_some _ e
  refine ⟨(s.heap.push { cls := .type "range", data := .fields #[.int lo t, .int hi u, .int 1 v] }).objs.size, [(s.heap.push { cls := .type "range", data := .fields #[.int lo t, .int hi u, .int 1 v] }).objs.size], _, _, H, rfl,
    I1.kept (t' := tk) fun b o e => Heap.get?_push_of_some _ e, turn_range _ lo (hi - lo).toNat, ?_, fun b hb => ?_, q⟩
  · have e1 : lo + ((0 : Nat) : Int) * 1 = lo := by simp
    have e2 : (((hi - lo).toNat : Nat) : Int) - ((0 : Nat) : Int) = Builtin.Range.rangeSize lo hi 1 := by rw [rangeSize_one]; split <;> omega
    show IsRangeIter _ _ (lo + ((0 : Nat) : Int) * 1) ((((hi - lo).toNat : Nat) : Int) - ((0 : Nat) : Int)) 1
    rw [e1, e2]
    exact Heap.get?_push_size _ rfl
  · have e : b = (s.heap.push { cls := .type "range", data := .fields #[.int lo t, .int hi u, .int 1 v] }).objs.size := by simpa using hb
    subst e
    exact I1.fpOk (Nat.le_refl _) (I1.hok.fresh (Nat.le_refl _))
def iRng1 (ta : TA) : TI := fun σ H R => ta σ H fun vs H1 => ∃ j : Int, vs = [.int j] ∧ -(2 ^ 62) ≤ j ∧ j < 2 ^ 62 ∧ R (Itr 0 j.toNat) H1
def iRng2 (ta : TA) : TI := fun σ H R => ta σ H fun vs H1 => ∃ i j : Int, vs = [.int i, .int j] ∧ (-(2 ^ 62) ≤ i ∧ i < 2 ^ 62 ∧ -(2 ^ 62) ≤ j ∧ j < 2 ^ 62) ∧ R (Itr i (j - i).toNat) H1
theorem pi_range1 {a : Expr} {ta : TA} {p pos : Pos} (hg : Gl X "range") (hm : X.mg "range" = none) (ha : PA X [a] ta) (hs : starEach [a] X.env = [(false, eval a X.env)] := by rfl) : PI X tg (.Call (.Name "range" p) [a] [] pos) (iRng1 ta) := by
  intro pins s σ H R I h
  refine Call_ (ld_blt I hg hm boot_range (PyProof.Rows.callWith_type1 (thn (ha pos pins s σ H _ I h) fun us s1 ⟨vs, H1, I1, r1, q1⟩ => ?_) hs rfl))
  obtain ⟨j, e, q1, q2, q⟩ := q1
  subst e
  cases r1 with
  | cons r rr =>
    cases rr
    obtain ⟨t, rfl⟩ := r
    exact call_range_1 (range_it I1 (by omega) (by omega) q1 q2 (by simpa using q))
/-! ### for -/
/-- W: the invariant by the turn and a measure; N: what the body is to reach -/
def tFor (wi : TI) (g : TG) (tb : TS) : TS := fun D σ H => wi σ H fun J H1 => ∃ W : Nat → Nat → St → Hp → Prop, (∃ m, W 0 m σ H1) ∧ ∀ i m σ H, W i m σ H →
  (J.stop i H ∧ D.nx σ H) ∨ (J.go i H ∧ ∃ N : St → Hp → Prop, (∀ σ' H', N σ' H' → ∃ m', m' < m ∧ W (i + 1) m' σ' H') ∧ ∀ x H', J.yld i H x H' → g x σ H' fun σ2 H2 => tb { D with nx := N, ct := N, bk := D.nx } σ2 H2)
/-- the records at fp as they stand -/
def pinsAt (fp : List Addr) (h : Heap) : List (Addr × Obj) := fp.filterMap fun b => (h.get? b).map fun o => (b, o)
theorem mem_pinsAt {fp : List Addr} {h : Heap} {b : Addr} {o : Obj} (hb : b ∈ fp) (e : h.get? b = some o) : (b, o) ∈ pinsAt fp h := List.mem_filterMap.mpr ⟨b, hb, by rw [e]; rfl⟩
theorem of_pinsAt {fp : List Addr} {h : Heap} {p : Addr × Obj} (hp : p ∈ pinsAt fp h) : p.1 ∈ fp ∧ h.get? p.1 = some p.2 := by
  obtain ⟨b, hb, e⟩ := List.mem_filterMap.mp hp
  cases q : h.get? b with
  | none => rw [q] at e; cases e
  | some o =>
    rw [q] at e
    have e' : (b, o) = p := Option.some.inj e
    subst e'
    exact ⟨hb, q⟩
theorem Inv.pinned {pins : List (Addr × Obj)} {σ : St} {H : Hp} {s : Shared} {fp : List Addr} (I : Inv X pins σ H s) (hf : ∀ b ∈ fp, FpOk X pins H b) (ho : ∀ b ∈ fp, ∃ o, s.heap.get? b = some o ∧ ∀ v, o.data ≠ .cell v) : Inv X (pins ++ pinsAt fp s.heap) σ H s :=
  I.pins_of fun p hp => (List.mem_append.mp hp).elim (fun z => I.pin p (List.mem_append_right _ z)) fun z => by
    obtain ⟨hb, e⟩ := of_pinsAt z
    obtain ⟨f0, f1, f2, _⟩ := hf p.1 hb
    obtain ⟨o, e', d⟩ := ho p.1 hb
    rw [e] at e'; cases e'
    exact ⟨e, f0, f1, f2, d⟩
theorem Inv.unpinned {pins pl : List (Addr × Obj)} {σ : St} {H : Hp} {s : Shared} (I : Inv X (pins ++ pl) σ H s) : Inv X pins σ H s := I.pins_of fun p hp => I.pin p (List.mem_append_right _ (List.mem_append_left _ hp))
theorem ps_for {iter : Expr} {body : List Stmt} {wi : TI} {g : TG} {tb : TS} {pos : Pos} (hp : PassesOwn (model X.prog X.w) X.A X.env X.xe) (hc : X.calm = true) (hi : PI X tg iter wi) (hg : PG X tg g) (hb : PSs X body tb)
    (hs : ∀ x, foldedSetIterable iter X.env x = pure x := by intro _; rfl) : PS X (.For tg iter body [] pos) (tFor wi g tb) := by
  intro pins s σ H D I h
  refine wpAny_For (thn (hi pins s σ H _ I h) fun v s1 h1 => thn h1 fun itv s2 h2 => ?_) hs
  obtain ⟨it, fp, tn, J, H2, e, I2, T, st2, f2, W, ⟨m0, w0⟩, turn⟩ := h2
  subst e
  -- what stays true of the iterator's objects through the loop
  have stat : ∀ {H' : Hp}, (∀ b ∈ fp, H' b = none) → ∀ b ∈ fp, FpOk X pins H' b := fun hn b hb => ⟨hn b hb, (f2 b hb).2⟩
  refine codeAny_forLoop_any (fun n s' => ∃ i σ' H', Inv X pins σ' H' s' ∧ tn i s'.heap ∧ (∀ b ∈ fp, H' b = none) ∧ W i n σ' H') ?_ m0 ⟨0, σ, H2, I2, st2, fun b hb => (f2 b hb).1, w0⟩
  rintro n s3 ⟨i, σ3, H3, I3, st3, fr3, w3⟩
  rcases turn i n σ3 H3 w3 with ⟨stop, qn⟩ | ⟨go, N, hN, step⟩
  · refine wpAny_passesOwn hp (thn (T.done X rfl rfl rfl hc i pins s3 σ3 H3 X.xe I3 (stat fr3) st3 stop) fun r s4 ⟨hr, I4⟩ => ?_)
    subst hr
    exact wpAny_execs_nil ⟨σ3, H3, I4, qn⟩
  · refine wpAny_passesOwn hp (thn (T.item X rfl rfl rfl hc i pins s3 σ3 H3 X.xe I3 (stat fr3) st3 go) fun r s4 ⟨u, hr, h4⟩ => ?_)
    subst hr
    refine wpAny_passesOwn hp (thn h4 fun _ s5 ⟨x, H5, I5, r5, y5, st5, fr5⟩ => ?_)
    have I5' := I5.pinned (stat fr5) (T.obj _ _ st5)
    refine wpAny_passesOwn hp (thn (hg _ s5 σ3 H5 x u _ I5' r5 (step x H5 y5)) fun _ s6 ⟨σ6, H6, I6, q6⟩ => ?_)
    refine wpAny_passesOwn hp (thn (hb _ s6 σ6 H6 _ I6 q6) fun f s7 q7 => ?_)
    have again : ∀ {σ7 : St} {H7 : Hp}, Inv X (pins ++ pinsAt fp s5.heap) σ7 H7 s7 → N σ7 H7 → ∃ m, m < n ∧ ∃ i σ' H', Inv X pins σ' H' s7 ∧ tn i s7.heap ∧ (∀ b ∈ fp, H' b = none) ∧ W i m σ' H' := fun {σ7 H7} I7 n7 => by
      obtain ⟨m', hm, w7⟩ := hN σ7 H7 n7
      refine ⟨m', hm, i + 1, σ7, H7, I7.unpinned, T.keep _ _ _ st5 fun b hb o e => (I7.pin (b, o) (List.mem_append_right _ (List.mem_append_right _ (mem_pinsAt hb e)))).1, fun b hb => ?_, w7⟩
      obtain ⟨o, e, d⟩ := T.obj _ _ st5 b hb
      exact (I7.pin (b, o) (List.mem_append_right _ (List.mem_append_right _ (mem_pinsAt hb e)))).2.1
    cases f with
    | next => obtain ⟨σ7, H7, I7, n7⟩ := q7; exact again I7 n7
    | cont => obtain ⟨σ7, H7, I7, n7⟩ := q7; exact again I7 n7
    | brk => obtain ⟨σ7, H7, I7, q7⟩ := q7; exact ⟨σ7, H7, I7.unpinned, q7⟩
    | ret v => obtain ⟨x7, σ7, H7, I7, r7, q7⟩ := q7; exact ⟨x7, σ7, H7, I7.unpinned, r7, q7⟩
end

/-! ### the forms one uses -/
/-- over a list that the body leaves as it is -/
theorem for_list {K : PySem.W.Frag} {a : Addr} {xs : List V} {g : TG} {tb : TS} {D : Ends} {σ : St} {H : Hp} (Pv : Nat → St → Hp → Prop) (h0 : Pv 0 σ H) (hl : ∀ i σ H, i ≤ xs.length → Pv i σ H → SqL K H a xs)
    (hs : ∀ i x σ H, xs[i]? = some x → Pv i σ H → g x σ H fun σ2 H2 => tb { D with nx := Pv (i + 1), ct := Pv (i + 1), bk := D.nx } σ2 H2) (hd : ∀ σ H, Pv xs.length σ H → D.nx σ H) :
    ∃ W : Nat → Nat → St → Hp → Prop, (∃ m, W 0 m σ H) ∧ ∀ i m σ H, W i m σ H →
      ((Itl K a).stop i H ∧ D.nx σ H) ∨ ((Itl K a).go i H ∧ ∃ N : St → Hp → Prop, (∀ σ' H', N σ' H' → ∃ m', m' < m ∧ W (i + 1) m' σ' H') ∧ ∀ x H', (Itl K a).yld i H x H' → g x σ H' fun σ2 H2 => tb { D with nx := N, ct := N, bk := D.nx } σ2 H2) := by
  refine ⟨fun i m σ H => m = xs.length - i ∧ i ≤ xs.length ∧ Pv i σ H, ⟨xs.length, by simp, Nat.zero_le _, h0⟩, ?_⟩
  rintro i m σ H ⟨rfl, hi, p⟩
  have q := hl i σ H hi p
  by_cases hlt : i < xs.length
  · refine .inr ⟨⟨xs, xs[i], q, by simp [hlt]⟩, Pv (i + 1), fun σ' H' p' => ⟨xs.length - (i + 1), by omega, rfl, hlt, p'⟩, fun x H' y => ?_⟩
    obtain ⟨e, y⟩ := y
    subst e
    exact hs i x σ _ (y xs q) p
  · have e : i = xs.length := by omega
    subst e
    exact .inl ⟨⟨xs, q, Nat.le_refl _⟩, hd σ H p⟩
theorem for_range {lo : Int} {n : Nat} {g : TG} {tb : TS} {D : Ends} {σ : St} {H : Hp} (Pv : Nat → St → Hp → Prop) (h0 : Pv 0 σ H)
    (hs : ∀ i σ H, i < n → Pv i σ H → g (.int (lo + i)) σ H fun σ2 H2 => tb { D with nx := Pv (i + 1), ct := Pv (i + 1), bk := D.nx } σ2 H2) (hd : ∀ σ H, Pv n σ H → D.nx σ H) :
    ∃ W : Nat → Nat → St → Hp → Prop, (∃ m, W 0 m σ H) ∧ ∀ i m σ H, W i m σ H →
      ((Itr lo n).stop i H ∧ D.nx σ H) ∨ ((Itr lo n).go i H ∧ ∃ N : St → Hp → Prop, (∀ σ' H', N σ' H' → ∃ m', m' < m ∧ W (i + 1) m' σ' H') ∧ ∀ x H', (Itr lo n).yld i H x H' → g x σ H' fun σ2 H2 => tb { D with nx := N, ct := N, bk := D.nx } σ2 H2) := by
  refine ⟨fun i m σ H => m = n - i ∧ i ≤ n ∧ Pv i σ H, ⟨n, by simp, Nat.zero_le _, h0⟩, ?_⟩
  rintro i m σ H ⟨rfl, hi, p⟩
  by_cases hlt : i < n
  · refine .inr ⟨hlt, Pv (i + 1), fun σ' H' p' => ⟨n - (i + 1), by omega, rfl, hlt, p'⟩, fun x H' y => ?_⟩
    obtain ⟨e, y⟩ := y
    subst e y
    exact hs i σ _ hlt p
  · have e : i = n := by omega
    subst e
    exact .inl ⟨Nat.le_refl _, hd σ H p⟩
end L2

namespace L2
open PySem PySem.Spec PyProof.Rows

abbrev R2 := V → V → Hp → VK → Prop
/-- a two-place operation on values: f is binaryOp op, inplaceOp op or compareOp op -/
def OpR (X : Cx) (f : Value → Value → Sem Value) (r : R2) : Prop :=
  ∀ (pins : List (Addr × Obj)) (s : Shared) (σ : St) (H : Hp) (x y : V) (v u : Value) (Q : VK), Inv X pins σ H s → RelV x v → RelV y u → r x y H Q →
    wpAny (model X.prog X.w) X.A (f v u) (EP X pins σ Q) X.xe s
/-- a one-place operation -/
def UnR (X : Cx) (f : Value → Sem Value) (r : V → Hp → VK → Prop) : Prop :=
  ∀ (pins : List (Addr × Obj)) (s : Shared) (σ : St) (H : Hp) (x : V) (v : Value) (Q : VK), Inv X pins σ H s → RelV x v → r x H Q →
    wpAny (model X.prog X.w) X.A (f v) (EP X pins σ Q) X.xe s
/-- a call of a value that is known (a builtin, a type) with values -/
def CallR (X : Cx) (f : Value) (r : List V → Hp → VK → Prop) : Prop :=
  ∀ (pins : List (Addr × Obj)) (s : Shared) (σ : St) (H : Hp) (xs : List V) (us : List Value) (Q : VK), Inv X pins σ H s → Vals xs us → r xs H Q →
    wpAny (model X.prog X.w) X.A (call f us) (EP X pins σ Q) X.xe s
/-- a value's truth -/
def TruR (X : Cx) (r : V → Hp → (Bool → Hp → Prop) → Prop) : Prop :=
  ∀ (pins : List (Addr × Obj)) (s : Shared) (σ : St) (H : Hp) (x : V) (v : Value) (Q : Bool → Hp → Prop), Inv X pins σ H s → RelV x v → r x H Q →
    wpAny (model X.prog X.w) X.A (truthy v) (TP X pins σ Q) X.xe s

def tOp (r : R2) (ta tb : TE) : TE := fun σ H Q => ta σ H fun x H1 => tb σ H1 fun y H2 => r x y H2 Q
def tUn (r : V → Hp → VK → Prop) (ta : TE) : TE := fun σ H Q => ta σ H fun x H1 => r x H1 Q
/-- ints in, under C, and a value out -/
def rI (C : Int → Int → Prop) (g : Int → Int → V) : R2 := fun x y H Q => ∃ i j, x = .int i ∧ y = .int j ∧ C i j ∧ Q (g i j) H
def rI0 (g : Int → Int → V) : R2 := fun x y H Q => ∃ i j, x = .int i ∧ y = .int j ∧ Q (g i j) H
def rU (g : Int → V) : V → Hp → VK → Prop := fun x H Q => ∃ i, x = .int i ∧ Q (g i) H

section
variable {X : Cx} {a b c : Expr} {ta tb tc : TE} {pos : Pos}

theorem binT (ha : PE X a ta) (hb : PE X b tb) {pins : List (Addr × Obj)} {s : Shared} {σ : St} {H : Hp} {R : V → V → Hp → Prop} (I : Inv X pins σ H s)
    (h : ta σ H fun x H1 => tb σ H1 fun y H2 => R x y H2) {Q : Value → Shared → Prop} {f : Value → Value → Sem Value}
    (hf : ∀ v u s2 x y H2, Inv X pins σ H2 s2 → RelV x v → RelV y u → R x y H2 → wpAny (model X.prog X.w) X.A (f v u) Q X.xe s2) :
    wpAny (model X.prog X.w) X.A (eval a X.env) (fun v s₁ => wpAny (model X.prog X.w) X.A (eval b X.env) (fun u s₂ => wpAny (model X.prog X.w) X.A (f v u) Q X.xe s₂) X.xe s₁) X.xe s := by
  refine thn (ha pins s σ H _ I h) fun v s1 ⟨x, H1, I1, r1, q1⟩ => ?_
  refine thn (hb pins s1 σ H1 _ I1 q1) fun u s2 ⟨y, H2, I2, r2, q2⟩ => ?_
  exact hf v u s2 x y H2 I2 r1 r2 q2

theorem pe_op {op : Operator} {r : R2} (ho : OpR X (binaryOp op) r) (ha : PE X a ta) (hb : PE X b tb) : PE X (.BinOp a op b pos) (tOp r ta tb) := by
  intro pins s σ H Q I h
  exact wpAny_BinOp (binT ha hb I h fun v u s2 x y H2 I2 rx ry q => ho pins s2 σ H2 x y v u Q I2 rx ry q)
theorem pe_un {op : UnaryOp} {r : V → Hp → VK → Prop} (ho : UnR X (unaryOp op) r) (ha : PE X a ta) : PE X (.UnaryOp op a pos) (tUn r ta) := by
  intro pins s σ H Q I h
  exact UnaryOp_ (thn (ha pins s σ H _ I h) fun v s1 ⟨x, H1, I1, r1, q1⟩ => ho pins s1 σ H1 x v Q I1 r1 q1)
/-! ### ints -/
theorem opI {f : Value → Value → Sem Value} {C : Int → Int → Prop} {g : Int → Int → Int}
    (rule : ∀ (i j : Int) (t u : Tok) (s : Shared) (Q : Value → Shared → Prop) (E : Value → Shared → Prop), C i j → Q (.int (g i j) s.toks) { s with toks := s.toks + 1 } → wpAny (model X.prog X.w) X.A (f (.int i t) (.int j u)) Q E s) :
    OpR X f (rI C fun i j => .int (g i j)) := by
  intro pins s σ H x y v u Q I rx ry h
  obtain ⟨i, j, rfl, rfl, hc, q⟩ := h
  obtain ⟨t, rfl⟩ := rx
  obtain ⟨t', rfl⟩ := ry
  exact rule i j t t' s _ _ hc ⟨.int (g i j), H, I.tok _, ⟨_, rfl⟩, q⟩
theorem opI0 {f : Value → Value → Sem Value} {g : Int → Int → Int}
    (rule : ∀ (i j : Int) (t u : Tok) (s : Shared) (Q : Value → Shared → Prop) (E : Value → Shared → Prop), Q (.int (g i j) s.toks) { s with toks := s.toks + 1 } → wpAny (model X.prog X.w) X.A (f (.int i t) (.int j u)) Q E s) :
    OpR X f (rI0 fun i j => .int (g i j)) := by
  intro pins s σ H x y v u Q I rx ry h
  obtain ⟨i, j, rfl, rfl, q⟩ := h
  obtain ⟨t, rfl⟩ := rx
  obtain ⟨t', rfl⟩ := ry
  exact rule i j t t' s _ _ ⟨.int (g i j), H, I.tok _, ⟨_, rfl⟩, q⟩
theorem opB0 {f : Value → Value → Sem Value} {g : Int → Int → Bool}
    (rule : ∀ (i j : Int) (t u : Tok) (s : Shared) (Q : Value → Shared → Prop) (E : Value → Shared → Prop), Q (.bool (g i j)) s → wpAny (model X.prog X.w) X.A (f (.int i t) (.int j u)) Q E s) :
    OpR X f (rI0 fun i j => .bl (g i j)) := by
  intro pins s σ H x y v u Q I rx ry h
  obtain ⟨i, j, rfl, rfl, q⟩ := h
  obtain ⟨t, rfl⟩ := rx
  obtain ⟨t', rfl⟩ := ry
  exact rule i j t t' s _ _ ⟨.bl (g i j), H, I, rfl, q⟩

def CDiv (i j : Int) : Prop := 0 < j ∧ j < 1073741824
def CDivN (i j : Int) : Prop := j ≠ 0 ∧ j.natAbs < 1073741824
def CPow (i j : Int) : Prop := 0 ≤ j ∧ j ≤ 1000000 ∧ i.natAbs < 2 ^ 64
def CMul (i j : Int) : Prop := (-(2 ^ 64) < i ∧ i < 2 ^ 64) ∨ (-(2 ^ 64) < j ∧ j < 2 ^ 64)
theorem CMul.ok {i j : Int} (h : CMul i j) : IntMulOk i j := by
  rcases h with ⟨h1, h2⟩ | ⟨h1, h2⟩
  · exact .of_left (intBits_le_64 h1 h2)
  · exact .of_right (intBits_le_64 h1 h2)
theorem op_add : OpR X (binaryOp .Add) (rI0 fun i j => .int (i + j)) := opI0 fun _ _ _ _ _ _ _ q => add_int q
theorem op_sub : OpR X (binaryOp .Sub) (rI0 fun i j => .int (i - j)) := opI0 fun _ _ _ _ _ _ _ q => sub_int q
/-- % by a positive divisor of any size -/
theorem op_mod : OpR X (binaryOp .Mod) (rI (fun _ j => 0 < j) fun i j => .int (i % j)) := opI fun i j _ _ _ _ _ hc q => by
  have h1 : (0 : Int) < j := hc
  exact mod_int' (by omega) (by rw [Int.fmod_eq_emod_of_nonneg i (by omega)]; exact q)
theorem op_pow : OpR X (binaryOp .Pow) (rI CPow fun i j => .int (i ^ j.toNat)) := opI fun _ _ _ _ _ _ _ hc q => pow_int_small hc.1 hc.2.1 hc.2.2 q
theorem unI {f : Value → Sem Value} {g : Int → Int}
    (rule : ∀ (i : Int) (t : Tok) (s : Shared) (Q : Value → Shared → Prop) (E : Value → Shared → Prop), Q (.int (g i) s.toks) { s with toks := s.toks + 1 } → wpAny (model X.prog X.w) X.A (f (.int i t)) Q E s) :
    UnR X f (rU fun i => .int (g i)) := by
  intro pins s σ H x v Q I rx h
  obtain ⟨i, rfl, q⟩ := h
  obtain ⟨t, rfl⟩ := rx
  exact rule i t s _ _ ⟨.int (g i), H, I.tok _, ⟨_, rfl⟩, q⟩
theorem un_neg : UnR X (unaryOp .USub) (rU fun i => .int (-i)) := unI fun _ _ _ _ _ q => neg_int q
/-! ### bools among ints: n += (a < b) -/
end

/-! ### comparisons -/
/-- the scalars that == tells apart as data does -/
def scal : V → V → Bool
  | .non, .non => true | .non, .int _ => true | .int _, .non => true | .non, .bl _ => true | .bl _, .non => true | .non, .str _ => true | .str _, .non => true
  | .int _, .int _ => true | .bl _, .bl _ => true | .str _, .str _ => true | .byt _, .byt _ => true
  | .int _, .str _ => true | .str _, .int _ => true | .bl _, .str _ => true | .str _, .bl _ => true
  | _, _ => false
def rEq : R2 := fun x y H Q => scal x y = true ∧ Q (.bl (decide (x = y))) H
def rNe : R2 := fun x y H Q => scal x y = true ∧ Q (.bl (!decide (x = y))) H

theorem dec_int {i j : Int} : decide (V.int i = V.int j) = (i == j) := by
  rw [Bool.eq_iff_iff]
  simp
theorem dec_bl {i j : Bool} : decide (V.bl i = V.bl j) = (i == j) := by
  rw [Bool.eq_iff_iff]
  simp
theorem dec_str {i j : Str} : decide (V.str i = V.str j) = (i == j) := by
  rw [Bool.eq_iff_iff]
  simp
theorem dec_byt {i j : Array UInt8} : decide (V.byt i = V.byt j) = (i.toList == j.toList) := by
  rw [Bool.eq_iff_iff]
  cases i
  cases j
  simp

section
variable {X : Cx} {a b c : Expr} {ta tb tc : TE} {pos : Pos}
theorem fin_bl {pins : List (Addr × Obj)} {σ : St} {H : Hp} {s : Shared} {Q : VK} {k k' : Bool} (I : Inv X pins σ H s) (q : Q (.bl k) H) (e : k = k') : EP X pins σ Q (.bool k') s := by
  subst e
  exact ⟨.bl k, H, I, rfl, q⟩
theorem op_eq : OpR X (compareOp .Eq) rEq := by
  intro pins s σ H x y v u Q I rx ry h
  obtain ⟨hs, q⟩ := h
  cases x with
  | non =>
    cases rx
    cases y with
    | non => cases ry; exact PySem.EqNone.eq_none_none (fin_bl I q (by simp))
    | bl j => cases ry; exact PySem.EqNone.eq_none_bool (fin_bl I q (by simp))
    | int j => obtain ⟨t', rfl⟩ := ry; exact PySem.EqNone.eq_none_int (fin_bl I q (by simp))
    | str j => obtain ⟨t', rfl⟩ := ry; exact PySem.EqNone.eq_none_str (fin_bl I q (by simp))
    | _ => exact absurd (show false = true from hs) Bool.false_ne_true
  | bl i =>
    cases rx
    cases y with
    | non => cases ry; exact PySem.EqNone.eq_bool_none (fin_bl I q (by simp))
    | bl j => cases ry; exact eq_bool (fin_bl I q dec_bl)
    | str j => obtain ⟨t', rfl⟩ := ry; exact PySem.EqMixed.eq_bool_str (fin_bl I q (by simp))
    | _ => exact absurd (show false = true from hs) Bool.false_ne_true
  | int i =>
    obtain ⟨t, rfl⟩ := rx
    cases y with
    | non => cases ry; exact PySem.EqNone.eq_int_none (fin_bl I q (by simp))
    | int j => obtain ⟨t', rfl⟩ := ry; exact eq_int (fin_bl I q dec_int)
    | str j => obtain ⟨t', rfl⟩ := ry; exact PySem.EqMixed.eq_int_str (fin_bl I q (by simp))
    | _ => exact absurd (show false = true from hs) Bool.false_ne_true
  | str i =>
    obtain ⟨t, rfl⟩ := rx
    cases y with
    | non => cases ry; exact PySem.EqNone.eq_str_none (fin_bl I q (by simp))
    | bl j => cases ry; exact PySem.EqMixed.eq_str_bool (fin_bl I q (by simp))
    | int j => obtain ⟨t', rfl⟩ := ry; exact PySem.EqMixed.eq_str_int (fin_bl I q (by simp))
    | str j => obtain ⟨t', rfl⟩ := ry; exact eq_str (fin_bl I q dec_str)
    | _ => exact absurd (show false = true from hs) Bool.false_ne_true
  | byt i =>
    obtain ⟨t, rfl⟩ := rx
    cases y with
    | byt j => obtain ⟨t', rfl⟩ := ry; exact PySem.W.eq_bytes (fin_bl I q dec_byt)
    | _ => exact absurd (show false = true from hs) Bool.false_ne_true
  | _ => cases y <;> exact absurd (show false = true from hs) Bool.false_ne_true
theorem op_ne : OpR X (compareOp .NotEq) rNe := by
  intro pins s σ H x y v u Q I rx ry h
  obtain ⟨hs, q⟩ := h
  cases x with
  | non =>
    cases rx
    cases y with
    | non => cases ry; exact PySem.EqNone.ne_none_none (fin_bl I q (by simp))
    | bl j => cases ry; exact PySem.EqNone.ne_none_bool (fin_bl I q (by simp))
    | int j => obtain ⟨t', rfl⟩ := ry; exact PySem.EqNone.ne_none_int (fin_bl I q (by simp))
    | str j => obtain ⟨t', rfl⟩ := ry; exact PySem.EqNone.ne_none_str (fin_bl I q (by simp))
    | _ => exact absurd (show false = true from hs) Bool.false_ne_true
  | bl i =>
    cases rx
    cases y with
    | non => cases ry; exact PySem.EqNone.ne_bool_none (fin_bl I q (by simp))
    | bl j => cases ry; exact ne_bool (fin_bl I q (congrArg not dec_bl))
    | str j => obtain ⟨t', rfl⟩ := ry; exact PySem.EqMixed.ne_bool_str (fin_bl I q (by simp))
    | _ => exact absurd (show false = true from hs) Bool.false_ne_true
  | int i =>
    obtain ⟨t, rfl⟩ := rx
    cases y with
    | non => cases ry; exact PySem.EqNone.ne_int_none (fin_bl I q (by simp))
    | int j => obtain ⟨t', rfl⟩ := ry; exact ne_int (fin_bl I q (congrArg not dec_int))
    | str j => obtain ⟨t', rfl⟩ := ry; exact PySem.EqMixed.ne_int_str (fin_bl I q (by simp))
    | _ => exact absurd (show false = true from hs) Bool.false_ne_true
  | str i =>
    obtain ⟨t, rfl⟩ := rx
    cases y with
    | non => cases ry; exact PySem.EqNone.ne_str_none (fin_bl I q (by simp))
    | bl j => cases ry; exact PySem.EqMixed.ne_str_bool (fin_bl I q (by simp))
    | int j => obtain ⟨t', rfl⟩ := ry; exact PySem.EqMixed.ne_str_int (fin_bl I q (by simp))
    | str j => obtain ⟨t', rfl⟩ := ry; exact ne_str (fin_bl I q (congrArg not dec_str))
    | _ => exact absurd (show false = true from hs) Bool.false_ne_true
  | byt i =>
    obtain ⟨t, rfl⟩ := rx
    cases y with
    | byt j => obtain ⟨t', rfl⟩ := ry; exact PySem.W.ne_bytes (fin_bl I q (congrArg not dec_byt))
    | _ => exact absurd (show false = true from hs) Bool.false_ne_true
  | _ => cases y <;> exact absurd (show false = true from hs) Bool.false_ne_true

theorem op_lt : OpR X (compareOp .Lt) (rI0 fun i j => .bl (decide (i < j))) := opB0 fun _ _ _ _ _ _ _ q => lt_int q
theorem op_le : OpR X (compareOp .LtE) (rI0 fun i j => .bl (decide (i ≤ j))) := opB0 fun _ _ _ _ _ _ _ q => le_int q
theorem op_gt : OpR X (compareOp .Gt) (rI0 fun i j => .bl (decide (j < i))) := opB0 fun _ _ _ _ _ _ _ q => gt_int q
/-- the one string within the other -/
theorem op_in_str : OpR X (compareOp .In) (fun x y H Q => ∃ i j, x = .str i ∧ y = .str j ∧ Q (.bl (!(Builtin.Str.occurrences j i 0 j.length 1).isEmpty)) H) := by
  intro pins s σ H x y v u Q I rx ry h
  obtain ⟨i, j, rfl, rfl, q⟩ := h
  obtain ⟨t, rfl⟩ := rx
  obtain ⟨t', rfl⟩ := ry
  exact in_str (fin_bl I q rfl)

/-- is None, is not None: the right side a value none -/
theorem op_isN : OpR X (compareOp .Is) (fun x y H Q => y = .non ∧ Q (.bl (decide (x = .non))) H) := by
  intro pins s σ H x y v u Q I rx ry h
  obtain ⟨rfl, q⟩ := h
  cases ry
  refine is_none_gen (fin_bl I q ?_)
  cases x <;> first
    | (cases rx; rfl)
    | (obtain ⟨t, rfl⟩ := rx; rfl)
theorem op_notN : OpR X (compareOp .IsNot) (fun x y H Q => y = .non ∧ Q (.bl (!decide (x = .non))) H) := by
  intro pins s σ H x y v u Q I rx ry h
  obtain ⟨rfl, q⟩ := h
  cases ry
  refine isnot_none_gen (fin_bl I q ?_)
  cases x <;> first
    | (cases rx; rfl)
    | (obtain ⟨t, rfl⟩ := rx; rfl)

/-- is, is not of two objects that are tracked lists or instances -/
def isObj : HO → Bool
  | .lst _ => true
  | .ins _ _ _ => true
  | _ => false
theorem nomark (b : Expr) {op : CmpOp} (h : op ≠ .In := by decide) (h2 : op ≠ .NotIn := by decide) : behindInMarks op b = false := by
  have e1 : (op == CmpOp.In) = false := by cases op <;> first | rfl | exact absurd rfl h
  have e2 : (op == CmpOp.NotIn) = false := by cases op <;> first | rfl | exact absurd rfl h2
  cases b <;> simp [behindInMarks, e1, e2]
/-- a comparison as a value; hm: nomark b, or (for in, not in) by with_unfolding_all rfl -/
theorem pe_cmpR {op : CmpOp} {r : R2} (ho : OpR X (compareOp op) r) (ha : PE X a ta) (hb : PE X b tb) (hm : behindInMarks op b = false) : PE X (.Compare a [op] [b] pos) (tOp r ta tb) := by
  intro pins s σ H Q I h
  exact wpAny_Compare1 (binT ha hb I h fun v u s2 x y H2 I2 rx ry q => ho pins s2 σ H2 x y v u Q I2 rx ry q) hm
/-- a reading of a value as a test -/
def tTest (t : TE) : TT := fun σ H Q => t σ H fun x H' => ∃ k, x = .bl k ∧ Q k H'
theorem pt_cmpR {op : CmpOp} {r : R2} (ho : OpR X (compareOp op) r) (ha : PE X a ta) (hb : PE X b tb) (hm : behindInMarks op b = false) : PT X (.Compare a [op] [b] pos) (tTest (tOp r ta tb)) := by
  intro pins s σ H Q I h
  refine wpAny_isTrue_Compare1 (thn (ha pins s σ H _ I h) fun v s1 ⟨x, H1, I1, r1, q1⟩ => thn (hb pins s1 σ H1 _ I1 q1) fun u s2 ⟨y, H2, I2, r2, q2⟩ =>
    thn (ho pins s2 σ H2 x y v u _ I2 r1 r2 q2) fun c s3 ⟨z, H3, I3, r3, k, e, q3⟩ => ?_) hm
  subst e
  cases r3
  exact wpAny_truthy_bool ⟨H3, I3, q3⟩
/-- a op1 b op2 c -/
def tChain (r r' : R2) (ta tb tc : TE) : TE := fun σ H Q => ta σ H fun x H1 => tb σ H1 fun y H2 => r x y H2 fun z H3 => ∃ k, z = .bl k ∧
  (if k = true then tc σ H3 fun w' H4 => r' y w' H4 Q else Q (.bl false) H3)
theorem pe_chain {op op' : CmpOp} {r r' : R2} (ho : OpR X (compareOp op) r) (ho' : OpR X (compareOp op') r') (ha : PE X a ta) (hb : PE X b tb) (hc : PE X c tc)
    (hm : lastMarks [op, op'] [b, c] = false := by with_unfolding_all rfl) : PE X (.Compare a [op, op'] [b, c] pos) (tChain r r' ta tb tc) := by
  intro pins s σ H Q I h
  refine Compare_chain (thn (ha pins s σ H _ I h) fun v s1 ⟨x, H1, I1, r1, q1⟩ => chain_link (thn (hb pins s1 σ H1 _ I1 q1) fun u s2 ⟨y, H2, I2, r2, q2⟩ =>
    thn (ho pins s2 σ H2 x y v u _ I2 r1 r2 q2) fun d s3 ⟨z, H3, I3, r3, k, e, q3⟩ => ?_)) hm
  subst e
  cases r3
  refine wpAny_truthy_bool ?_
  cases k with
  | false => exact ite_ff ⟨.bl false, H3, I3, rfl, q3⟩
  | true => exact ite_tt (chain_last (thn (hc pins s3 σ H3 _ I3 q3) fun w' s4 ⟨z', H4, I4, r4, q4⟩ => ho' pins s4 σ H4 y z' u w' Q I4 r2 r4 q4))
theorem pt_chain {op op' : CmpOp} {r r' : R2} (ho : OpR X (compareOp op) r) (ho' : OpR X (compareOp op') r') (ha : PE X a ta) (hb : PE X b tb) (hc : PE X c tc)
    (hm : lastMarks [op, op'] [b, c] = false := by with_unfolding_all rfl) : PT X (.Compare a [op, op'] [b, c] pos) (tTest (tChain r r' ta tb tc)) := by
  intro pins s σ H Q I h
  refine isTrue_chain (thn (ha pins s σ H _ I h) fun v s1 ⟨x, H1, I1, r1, q1⟩ => test_link (thn (hb pins s1 σ H1 _ I1 q1) fun u s2 ⟨y, H2, I2, r2, q2⟩ =>
    thn (ho pins s2 σ H2 x y v u _ I2 r1 r2 q2) fun d s3 ⟨z, H3, I3, r3, k, e, q3⟩ => ?_)) hm
  subst e
  cases r3
  refine wpAny_truthy_bool ?_
  cases k with
  | false =>
    obtain ⟨k', e', q'⟩ := q3
    cases e'
    exact ite_ff ⟨H3, I3, q'⟩
  | true =>
    refine ite_tt (test_last (thn (hc pins s3 σ H3 _ I3 q3) fun w' s4 ⟨z', H4, I4, r4, q4⟩ => thn (ho' pins s4 σ H4 y z' u w' _ I4 r2 r4 q4) fun d' s5 ⟨z2, H5, I5, r5, k2, e2, q5⟩ => ?_))
    subst e2
    cases r5
    exact wpAny_truthy_bool ⟨H5, I5, q5⟩

/-! ### truth -/
/-- a value's truth by the abstract heap -/
def TruV (K : PySem.W.Frag) (x : V) (H : Hp) (k : Bool) : Prop :=
  match x with
  | .non => k = false
  | .bl b => k = b
  | .int i => k = (i != 0)
  | .str y => y.length ≤ sizeLine ∧ k = ((y.length : Int) != 0)
  | .byt y => y.size ≤ sizeLine ∧ k = ((y.size : Int) != 0)
  | .ref p => (∃ xs, SqL K H p xs ∧ k = !xs.isEmpty) ∨ (∃ xs, SqT K H p xs ∧ k = !xs.isEmpty) ∨ ∃ kvs, H p = some (.dK kvs) ∧ k = !kvs.isEmpty
  | _ => False
theorem line63 : (sizeLine : Nat) < 2 ^ 63 := by rw [sizeLine_eq]; decide
/-! ### strs and bytes -/
theorem op_add_str : OpR X (binaryOp .Add) (fun x y H Q => ∃ i j, x = .str i ∧ y = .str j ∧ i.length + j.length ≤ sizeLine ∧ Q (.str (i ++ j)) H) := by
  intro pins s σ H x y v u Q I rx ry h
  obtain ⟨i, j, rfl, rfl, hz, q⟩ := h
  obtain ⟨t, rfl⟩ := rx
  obtain ⟨t', rfl⟩ := ry
  exact add_str (fun t' tk => ⟨.str (i ++ j), H, I.tok _, ⟨_, rfl⟩, q⟩) hz
def PlainIxT (b : Expr) : Prop := ∀ o i, subscripted b false o i = operate [o, i] (getItem o i)
/-! ### scalar builtins, by CallR -/
theorem vals1 {x : V} {us : List Value} (r : Vals [x] us) : ∃ u, us = [u] ∧ RelV x u := by
  cases r with
  | cons r1 r2 => cases r2; exact ⟨_, rfl, r1⟩
theorem vals2 {x y : V} {us : List Value} (r : Vals [x, y] us) : ∃ u w', us = [u, w'] ∧ RelV x u ∧ RelV y w' := by
  cases r with
  | cons r1 r2 =>
    cases r2 with
    | cons r3 r4 => cases r4; exact ⟨_, _, rfl, r1, r3⟩
theorem call_str_int : CallR X (.type "str") (fun xs H Q => ∃ i, xs = [.int i] ∧ i.natAbs.log2 < 1920 ∧ Q (.str (toString i)) H) := by
  intro pins s σ H xs us Q I r h
  obtain ⟨i, rfl, hz, q⟩ := h
  obtain ⟨u, rfl, t, rfl⟩ := vals1 r
  exact PySem.P.str_of_int hz ⟨.str _, H, I.tok _, ⟨_, rfl⟩, q⟩
/-- len of a str, a bytes, a list, a tuple -/
def LenV (K : PySem.W.Frag) (x : V) (H : Hp) (n : Nat) : Prop :=
  match x with
  | .str y => y.length ≤ sizeLine ∧ n = y.length
  | .byt y => y.size ≤ sizeLine ∧ n = y.size
  | .ref p => (∃ xs, SqL K H p xs ∧ n = xs.length) ∨ ∃ xs, SqT K H p xs ∧ n = xs.length
  | _ => False
end
end L2

namespace L2
open PySem PySem.Spec PyProof.Rows

/-! ### an instance, its attributes a map -/
structure ObjM (h : Heap) (x dx C : Addr) (mA : Str → Option Value) : Prop where
  obj : h.get? x = some (PySem.W.instObj C dx)
  ns : h.Ns1 dx mA
  ne : dx ≠ x

theorem lookIn_ns {h : Heap} {dx : Addr} {mA : Str → Option Value} (n : h.Ns1 dx mA) : ∃ od, h.get? dx = some od ∧ ∀ name, PySem.W.lookIn name od = some (mA name) := by
  obtain ⟨o, es, ep, ho, hd, hk, _, hm⟩ := n
  refine ⟨o, ho, fun name => ?_⟩
  have e := hm name
  unfold nsFind findBy at e
  rw [← Array.find?_toList] at e
  unfold PySem.W.lookIn
  rw [hd]
  dsimp only
  split
  · rename_i y q
    rw [q] at e
    exact congrArg some e
  · rename_i q
    rw [q] at e
    have a : es.toList.any (·.refKey) = false := by
      rw [List.any_eq_false]
      intro y hy
      obtain ⟨z, t, hkey⟩ := hk y (Array.mem_toList_iff.mp hy)
      simp [DictEntry.refKey, hkey]
    have a' : ¬ es.toList.any (·.refKey) = true := by rw [a]; exact Bool.false_ne_true
    rw [if_neg a']
    exact congrArg some e

theorem ObjM.look {h : Heap} {x dx C : Addr} {mA : Str → Option Value} (I : ObjM h x dx C mA) : ∃ od, PySem.W.InstAt h x (PySem.W.instObj C dx) C (some od) ∧ ∀ name, PySem.W.lookIn name od = some (mA name) :=
  let ⟨od, ho, hl⟩ := lookIn_ns I.ns
  ⟨od, ⟨I.obj, rfl, rfl, ho⟩, hl⟩

section
variable {prog : Program} {w : World} {A : Around} {E : Value → Shared → Prop} {s : Shared} {K : PySem.W.Frag} {x dx C f : Addr} {mA : Str → Option Value} {name : Str} {v : Value}

theorem get_map {expr : Bool} {Q : Value → Shared → Prop} (X : K.In s.heap) (I : ObjM s.heap x dx C mA) (hg : PySem.W.plainGet K C name = true) (hh : PySem.W.hasDictIn K C = true)
    (ha : PySem.W.findIn K (.ref C) name = some none) (hv : mA name = some v) (hv' : PySem.W.handedIn v = true) (h : Q v { s with toks := s.toks + 1 }) :
    wpAny (model prog w) A (getAttr (.ref x) name expr) Q E s := by
  obtain ⟨od, J, hl⟩ := I.look
  exact PySem.W.get_value X J (PySem.W.plainGet_of hg).1 (PySem.W.findObj_own hh ha rfl (by rw [hl, hv])) hv' h

theorem get_meth {pl : Sem Bool} {Q : Value × List Value → Shared → Prop} (X : K.In s.heap) (I : ObjM s.heap x dx C mA) (hg : PySem.W.plainGet K C name = true)
    (hf : PySem.W.findIn K (.ref C) name = some (some (.ref f))) (ht : PySem.W.isFn K (.ref f) = true) (hv : mA name = none) (h : Q (.ref f, [.ref x]) s) :
    wpAny (model prog w) A (getMethod (.ref x) name pl) Q E s := by
  obtain ⟨od, J, hl⟩ := I.look
  exact PySem.W.method_fn X J (PySem.W.plainGet_of hg).1 (PySem.W.plainGet_of hg).2 hf (beq_iff_eq.mp ht) (by show (PySem.W.lookIn name od).map (·.isSome) = some false; rw [hl, hv]; rfl) h

theorem set_map {ns : List Str} {Q : Unit → Shared → Prop} (X : K.In s.heap) (I : ObjM s.heap x dx C mA)
    (hs : PySem.W.findIn K (.ref C) "__setattr__" = some (some (.builtin "object.__setattr__"))) (hp : PySem.W.plainOver K C = true) (ht : PySem.W.takerIn K C name = some none) (hh : PySem.W.hasDictIn K C = true)
    (hw : PySem.Within mA ns) (hsz : ns.length ≤ sizeLine)
    (h : ∀ h', ObjM h' x dx C (fun y => if y = name then some v else mA y) → Heap.SameBut dx s.heap h' → Q () { s with heap := h', toks := s.toks + 2 }) :
    wpAny (model prog w) A (setAttr (.ref x) name v) Q E s := by
  obtain ⟨od, J, hl⟩ := I.look
  refine PySem.W.set_plain X J hs (PySem.W.osa_open (s := { s with toks := s.toks + 1 }) (r := none) X J hp ht fun b => ?_)
  obtain ⟨cd, hc, hd'⟩ := PySem.W.any_some hh
  have hx : s.heap.get? x = some ⟨.ref C, some dx, .plain, #[]⟩ := I.obj
  refine wpAny_bind (wpAny_pure (wpAny_bind (wpAny_bind (wpAny_loadPart hx (wpAny_bind (PySem.W.Looks.here (s := { s with toks := s.toks + 1 }) (PySem.W.looks_clsIn X hc) ?_))))))
  rw [hd']
  refine wpAny_pure (a := some dx) (wpAny_bind (wpAny_pure (wpAny_bind ?_)))
  refine wpAny_nsSet1 (s := { s with toks := s.toks + 1 }) I.ns fun h' hn2 hs2 => ?_
  obtain ⟨oD, esD, epD, hoD, hdD, hcD⟩ := hn2.count (PySem.Within.cons name v hw)
  refine wpAny_bind (wpAny_lookBehind hoD (by rw [hdD]; exact pastItsLine_dict (Nat.le_trans hcD (by rw [List.length_cons]; omega))) ?_)
  exact wpAny_pure (h _ ⟨(hs2.2 _ (Ne.symm I.ne)).trans I.obj, hn2, I.ne⟩ hs2)

/-- C(..): the dict at the heap's end, the instance behind it; then its __init__ -/
theorem make_map {R : Result → Shared → Prop} {vs : List Value} {kw : List (Str × Value)} (X : K.In s.heap) (hm : PySem.W.makesIn K C = true)
    (hi : PySem.W.findIn K (.ref C) "__init__" = some (some (.ref f))) (hf : PySem.W.typeIn K (.ref f) = some (.type "function"))
    (h : codeAny (model prog w) (A.under (.builtin "type.__call__" ⟨.ref C :: vs, kw⟩)) (.call (.ref f) ⟨.ref (s.heap.objs.size + 1) :: vs, kw⟩) (PySem.W.InitBack (s.heap.objs.size + 1) R)
      { s with heap := (s.heap.push PySem.W.emptyDict).push (PySem.W.instObj C s.heap.objs.size) }) :
    codeAny (model prog w) A (.call (.ref C) ⟨vs, kw⟩) R s := by
  obtain ⟨hh, g, d, t, os⟩ := s
  exact PySem.W.make_core (PySem.W.makes_of X hm) (PySem.W.looks_findIn X hi) (fun self => PySem.W.bind_fn X self hf) (.inl rfl) h
end

/-! ### the attributes as a list of pairs -/
def putF (f : Str) (v : V) : List (Str × V) → List (Str × V)
  | [] => [(f, v)]
  | (g, x) :: r => if g = f then (g, v) :: r else (g, x) :: putF f v r
theorem lookup_putF (f g : Str) (v : V) : ∀ fs : List (Str × V), (putF f v fs).lookup g = if g = f then some v else fs.lookup g
  | [] => by
    show List.lookup g [(f, v)] = _
    by_cases h : g = f
    · have hb : (g == f) = true := beq_iff_eq.mpr h
      simp only [List.lookup, hb, if_pos h]
    · have hb : (g == f) = false := beq_eq_false_iff_ne.mpr h
      simp only [List.lookup, hb, if_neg h]
  | (k, x) :: r => by
    have ih := lookup_putF f g v r
    rw [show putF f v ((k, x) :: r) = (if k = f then (k, v) :: r else (k, x) :: putF f v r) from rfl]
    by_cases hk : k = f
    · rw [if_pos hk]
      by_cases h : g = k
      · have hb : (g == k) = true := beq_iff_eq.mpr h
        simp only [List.lookup, hb, if_pos (h.trans hk)]
      · have hb : (g == k) = false := beq_eq_false_iff_ne.mpr h
        simp only [List.lookup, hb, if_neg (fun e : g = f => h (e.trans hk.symm))]
    · rw [if_neg hk]
      by_cases h : g = k
      · have hb : (g == k) = true := beq_iff_eq.mpr h
        simp only [List.lookup, hb, if_neg (fun e : g = f => hk (h.symm.trans e))]
      · have hb : (g == k) = false := beq_eq_false_iff_ne.mpr h
        simp only [List.lookup, hb]
        exact ih
theorem keys_putF (f : Str) (v : V) : ∀ fs : List (Str × V), f ∈ (putF f v fs).map (·.1) ∧ ∀ g, g ∈ fs.map (·.1) → g ∈ (putF f v fs).map (·.1)
  | [] => ⟨by simp [putF], fun g h => by simp at h⟩
  | (k, x) :: r => by
    obtain ⟨i1, i2⟩ := keys_putF f v r
    rw [show putF f v ((k, x) :: r) = (if k = f then (k, v) :: r else (k, x) :: putF f v r) from rfl]
    by_cases hk : k = f
    · rw [if_pos hk]
      subst hk
      exact ⟨by simp, fun g h => by simpa using h⟩
    · rw [if_neg hk]
      refine ⟨?_, fun g h => ?_⟩
      · rw [List.map_cons]
        exact List.mem_cons_of_mem _ i1
      · rw [List.map_cons] at h ⊢
        rcases List.mem_cons.mp h with e | e
        · exact List.mem_cons.mpr (.inl e)
        · exact List.mem_cons_of_mem _ (i2 g e)
theorem length_putF (f : Str) (v : V) : ∀ fs : List (Str × V), (putF f v fs).length ≤ fs.length + 1
  | [] => by simp [putF]
  | (k, x) :: r => by
    have ih := length_putF f v r
    rw [show putF f v ((k, x) :: r) = (if k = f then (k, v) :: r else (k, x) :: putF f v r) from rfl]
    by_cases hk : k = f
    · rw [if_pos hk, List.length_cons, List.length_cons]; omega
    · rw [if_neg hk, List.length_cons, List.length_cons]; omega

theorem RelO.some_of {v : V} {o : Option Value} (r : RelO (some v) o) : ∃ u, o = some u ∧ RelV v u := by
  cases o with
  | none => exact (show False from r).elim
  | some u => exact ⟨u, rfl, r⟩
theorem RelO.none_of {o : Option Value} (r : RelO none o) : o = none := by
  cases o with
  | none => rfl
  | some u => exact (show False from r).elim
theorem handed_of {v : V} {u : Value} (r : RelV v u) : PySem.W.handedIn u = true := by
  cases v with
  | non => cases (show u = Value.none from r); rfl
  | bl b => cases (show u = Value.bool b from r); rfl
  | int i => obtain ⟨t, e⟩ := (show ∃ t, u = Value.int i t from r); cases e; rfl
  | str x => obtain ⟨t, e⟩ := (show ∃ t, u = Value.str x t from r); cases e; rfl
  | byt b => obtain ⟨t, e⟩ := (show ∃ t, u = Value.bytes b t from r); cases e; rfl
  | flt b => obtain ⟨t, e⟩ := (show ∃ t, u = Value.float b t from r); cases e; rfl
  | ref a => cases (show u = Value.ref a from r); rfl
  | ty n => cases (show u = Value.type n from r); rfl

section
variable {P : Program} {w : World} {H H' : Hp} {h h' : Heap} {a C dx : Addr} {fs fs' : List (Str × V)}
theorem ins_get (hok : HOk P w H h) (e : H a = some (.ins C dx fs)) : ∃ mA, ObjM h a dx C mA ∧ (∀ f, RelO (fs.lookup f) (mA f)) ∧ PySem.Within mA (fs.map (·.1)) ∧ fs.length ≤ 1000 ∧ H dx = some (.own a) := by
  obtain ⟨d, z, ne, ob, mA, n, r, q⟩ := (show ObjOk P w H h a (.ins C dx fs) from hok a _ e)
  exact ⟨mA, ⟨ob, n, ne⟩, r, q, z, d⟩
end

/-! ### what of the text a class must have -/
structure Cls (K : PySem.W.Frag) (C : Addr) : Prop where
  pg : PySem.W.plainGet K C Str.empty = true
  hd : PySem.W.hasDictIn K C = true
  po : PySem.W.plainOver K C = true
  sa : PySem.W.findIn K (.ref C) "__setattr__" = some (some (.builtin "object.__setattr__"))
theorem Cls.get {K : PySem.W.Frag} {C : Addr} (c : Cls K C) (f : Str) : PySem.W.plainGet K C f = true := c.pg
/-- no class of it has the name -/
def NoAttr (K : PySem.W.Frag) (C : Addr) (f : Str) : Prop := PySem.W.findIn K (.ref C) f = some none
theorem NoAttr.taker {K : PySem.W.Frag} {C : Addr} {f : Str} (n : NoAttr K C f) : PySem.W.takerIn K C f = some none := by
  unfold PySem.W.takerIn
  rw [show PySem.W.findIn K (.ref C) f = some none from n]
  rfl
/-- a constant of the class -/
structure Con (K : PySem.W.Frag) (C : Addr) (f : Str) (v : V) (u : Value) : Prop where
  at_ : PySem.W.findIn K (.ref C) f = some (some u)
  rel : RelV v u
  get : PySem.W.specialIn K u "__get__" = some none
  cp : PySem.W.copiedNames.contains f = false
/-- a method: a plain def of the class or of one above it -/
structure Meth (K : PySem.W.Frag) (C : Addr) (m : Str) (f : Addr) : Prop where
  at_ : PySem.W.findIn K (.ref C) m = some (some (.ref f))
  fn : PySem.W.isFn K (.ref f) = true
  kp : PySem.W.keepIn K (.ref f) = true

section
variable {X : Cx} {pins : List (Addr × Obj)} {σ : St} {H : Hp} {s : Shared} {a C dx : Addr} {fs : List (Str × V)} {f : Str} {v : V} {A : Around} {E : Value → Shared → Prop}

theorem getattr_ok {b : Bool} {Q : Value → Shared → Prop} (I : Inv X pins σ H s) (e : H a = some (.ins C dx fs)) (c : Cls X.K C) (n : NoAttr X.K C f) (l : fs.lookup f = some v)
    (h : ∀ u s', Inv X pins σ H s' → RelV v u → Q u s') : wpAny (model X.prog X.w) A (getAttr (.ref a) f b) Q E s := by
  obtain ⟨mA, O, r, _, _, _⟩ := ins_get I.hok e
  obtain ⟨u, hu, ru⟩ := RelO.some_of (v := v) (o := mA f) (by rw [← l]; exact r f)
  exact get_map I.kIn O (c.get f) c.hd n hu (handed_of ru) (h u _ (I.tok _) ru)

theorem getmeth_ok {m : Str} {g : Addr} {pl : Sem Bool} {Q : Value × List Value → Shared → Prop} (I : Inv X pins σ H s) (e : H a = some (.ins C dx fs)) (c : Cls X.K C) (k : Meth X.K C m g) (l : fs.lookup m = none)
    (h : Q (.ref g, [.ref a]) s) : wpAny (model X.prog X.w) A (getMethod (.ref a) m pl) Q E s := by
  obtain ⟨mA, O, r, _, _, _⟩ := ins_get I.hok e
  have hn : mA m = none := RelO.none_of (by rw [← l]; exact r m)
  exact get_meth I.kIn O (c.get m) k.at_ k.fn hn h

theorem setattr_ok {y : V} {u : Value} {Q : Unit → Shared → Prop} (I : Inv X pins σ H s) (e : H a = some (.ins C dx fs)) (c : Cls X.K C) (n : NoAttr X.K C f) (hl : fs.length < 1000) (ry : RelV y u)
    (h : ∀ s', Inv X pins σ (upd H a (.ins C dx (putF f y fs))) s' → Q () s') : wpAny (model X.prog X.w) A (setAttr (.ref a) f u) Q E s := by
  obtain ⟨mA, O, r, wi, _, ho⟩ := ins_get I.hok e
  have hz : (fs.map (·.1)).length ≤ sizeLine := by rw [List.length_map, sizeLine_eq]; omega
  refine set_map I.kIn O c.sa c.po n.taker c.hd wi hz fun h' O' sb => h _ ?_
  have hd : ∃ o, h'.get? dx = some o := let ⟨o, _, _, e', _⟩ := O'.ns; ⟨o, e'⟩
  refine I.write (x := a) (e := dx) (by rw [e]; exact True.intro) (.inr ho) (fun b q hb z => (sb.2 b hb).trans z) hd ?_
  refine ⟨by rw [upd_ne O.ne]; exact ho, ?_, O.ne, O'.obj, _, O'.ns, fun g => ?_, fun g hg => ?_⟩
  · have := length_putF f y fs; omega
  · show RelO ((putF f y fs).lookup g) (if g = f then some u else mA g)
    rw [lookup_putF]
    by_cases q : g = f
    · rw [if_pos q, if_pos q]; exact ry
    · rw [if_neg q, if_neg q]; exact r g
  · by_cases q : g = f
    · rw [q]; exact (keys_putF f y fs).1
    · refine (keys_putF f y fs).2 g (wi g fun z => hg ?_)
      show (if g = f then some u else mA g) = none
      rw [if_neg q]; exact z

/-- a new instance, tracked, without attributes -/
theorem Inv.made (I : Inv X pins σ H s) : Inv X pins σ (upd (upd H s.heap.objs.size (.own (s.heap.objs.size + 1))) (s.heap.objs.size + 1) (.ins C s.heap.objs.size []))
    { s with heap := (s.heap.push PySem.W.emptyDict).push (PySem.W.instObj C s.heap.objs.size) } := by
  have e1 : (s.heap.push PySem.W.emptyDict).get? s.heap.objs.size = some PySem.W.emptyDict := Heap.get?_push_size s.heap rfl
  have e2 : ((s.heap.push PySem.W.emptyDict).push (PySem.W.instObj C s.heap.objs.size)).get? (s.heap.objs.size + 1) = some (PySem.W.instObj C s.heap.objs.size) := by
    have := Heap.get?_push_size (s.heap.push PySem.W.emptyDict) (o := PySem.W.instObj C s.heap.objs.size) rfl
    rwa [Heap.size_push] at this
  have e3 : (s.heap.push PySem.W.emptyDict).Ns s.heap.objs.size (fun _ => none) := ⟨PySem.W.emptyDict, #[], _, e1, rfl, (fun e he => absurd he (by simp)), fun _ => rfl⟩
  have I1 := I.laid (a := s.heap.objs.size) (o := .own (s.heap.objs.size + 1)) (h' := s.heap.push PySem.W.emptyDict) (t' := s.toks) (fun b u q => Heap.get?_push_of_some _ q) (Nat.le_refl _) ⟨_, e1⟩
  refine I1.laid (a := s.heap.objs.size + 1) (o := .ins C s.heap.objs.size []) (t' := s.toks) (fun b u q => Heap.get?_push_of_some _ q) (Nat.le_of_eq (Heap.size_push _ _)) ?_
  have ne : s.heap.objs.size ≠ s.heap.objs.size + 1 := Nat.ne_of_lt (Nat.lt_succ_self _)
  refine ⟨by rw [upd_ne ne, upd_same], Nat.zero_le _, ne, e2, fun _ => none, (Heap.Ns1.of_empty e3).at fun o q => Heap.get?_push_of_some _ q, fun _ => True.intro, fun y hy => absurd rfl hy⟩

/-- e.f where nothing but the object is asked: through attributeBase (super) and the last hold -/
theorem attr_of {prog : Program} {w : World} {env : Env} {e : Expr} {f : Str} {pos : Pos} {s : Shared} {Q : Value → Shared → Prop} (hb : attributeBase e f env (eval e env) = eval e env)
    (h : wpAny (model prog w) A (eval e env) (fun o s₁ => wpAny (model prog w) A (getAttr o f true) Q E s₁) E s) : wpAny (model prog w) A (eval (.Attribute e f pos) env) Q E s :=
  Attribute_any_ h (by rw [arm_eval_Attribute, hb])
end

/-! ### readings and rules -/
/-- e.f, an attribute of the instance -/
def tFld (K : PySem.W.Frag) (ta : TE) (f : Str) : TE := fun σ H Q => ta σ H fun x H1 => ∃ a C dx fs v, x = .ref a ∧ H1 a = some (.ins C dx fs) ∧ Cls K C ∧ NoAttr K C f ∧ fs.lookup f = some v ∧ Q v H1
/-- e.f, a constant of the class -/
def tCon (K : PySem.W.Frag) (ta : TE) (f : Str) : TE := fun σ H Q => ta σ H fun x H1 => ∃ a C dx fs v u, x = .ref a ∧ H1 a = some (.ins C dx fs) ∧ Cls K C ∧ Con K C f v u ∧ fs.lookup f = none ∧ Q v H1
/-- e.f = value -/
def sFld (K : PySem.W.Frag) (ta tv : TE) (f : Str) : TS := fun D σ H => tv σ H fun y H1 => ta σ H1 fun x H2 => ∃ a C dx fs, x = .ref a ∧ H2 a = some (.ins C dx fs) ∧ Cls K C ∧ NoAttr K C f ∧ fs.length < 1000 ∧
  D.nx σ (upd H2 a (.ins C dx (putF f y fs)))
/-- an augmented operator on two values -/
def InOp (X : Cx) (op : Operator) (rd : V → V → Hp → VK → Prop) : Prop :=
  ∀ (pins : List (Addr × Obj)) (s : Shared) (σ : St) (H : Hp) (x y : V) (u v : Value) (Q : VK), Inv X pins σ H s → RelV x u → RelV y v → rd x y H Q → wpAny (model X.prog X.w) X.A (inplaceOp op u v) (EP X pins σ Q) X.xe s
/-- e.f op= value -/
def sFldAug (K : PySem.W.Frag) (ta tv : TE) (rd : V → V → Hp → VK → Prop) (f : Str) : TS := fun D σ H => ta σ H fun x H1 => ∃ a C dx fs v, x = .ref a ∧ H1 a = some (.ins C dx fs) ∧ Cls K C ∧ NoAttr K C f ∧ fs.lookup f = some v ∧
  tv σ H1 fun y H2 => rd v y H2 fun z H3 => ∃ dx' fs', H3 a = some (.ins C dx' fs') ∧ fs'.length < 1000 ∧ D.nx σ (upd H3 a (.ins C dx' (putF f z fs')))

section
variable {X : Cx} {o e value : Expr} {f : Str} {pos pos' tpos : Pos} {ta tv : TE}
theorem pe_fld (he : PE X e ta) (hb : attributeBase e f X.env (eval e X.env) = eval e X.env) : PE X (.Attribute e f pos) (tFld X.K ta f) := by
  intro pins s σ H Q I h
  refine attr_of hb (thn (he pins s σ H _ I h) fun u s1 ⟨x, H1, I1, rx, a, C, dx, fs, v, ex, ea, c, n, l, q⟩ => ?_)
  subst ex
  obtain rfl : u = Value.ref a := rx
  exact getattr_ok I1 ea c n l fun u' s2 I2 ru => ⟨v, H1, I2, ru, q⟩
theorem ps_fld (ha : PE X o ta) (hv : PE X value tv) (hs : swapsWith value (some (.Attribute o f pos')) pos.line X.env = pure false) : PS X (.Assign [.Attribute o f pos'] value pos) (sFld X.K ta tv f) := by
  intro pins s σ H D I h
  refine plainObj_wpAny_Assign_Attribute (thn (hv pins s σ H _ I h) fun u s1 ⟨y, H1, I1, ry, q⟩ => thn (ha pins s1 σ H1 _ I1 q) fun ov s2 ⟨x, H2, I2, rx, a, C, dx, fs, ex, ea, c, n, l, q2⟩ => ?_) hs
  subst ex
  obtain rfl : ov = Value.ref a := rx
  exact setattr_ok I2 ea c n l ry fun s3 I3 => ⟨σ, _, I3, q2⟩
theorem ps_fldaug {op : Operator} {rd : V → V → Hp → VK → Prop} (ha : PE X o ta) (hv : PE X value tv) (hop : InOp X op rd) : PS X (.AugAssign (.Attribute o f tpos) op value pos) (sFldAug X.K ta tv rd f) := by
  intro pins s σ H D I h
  refine wpAny_AugAssign_AttributeAny (thn (ha pins s σ H _ I h) fun ov s1 ⟨x, H1, I1, rx, a, C, dx, fs, v, ex, ea, c, n, l, q⟩ => ?_)
  subst ex
  obtain rfl : ov = Value.ref a := rx
  refine getattr_ok I1 ea c n l fun u s2 I2 ru => thn (hv pins s2 σ H1 _ I2 q) fun w3 s3 ⟨y, H2, I3, ry, q3⟩ => thn (hop pins s3 σ H2 v y u w3 _ I3 ru ry q3) fun w4 s4 ⟨z, H3, I4, rz, dx', fs', ea', l', q4⟩ => ?_
  exact setattr_ok I4 ea' c n l' rz fun s5 I5 => ⟨σ, _, I5, q4⟩
def rAdd : V → V → Hp → VK → Prop := fun x y H Q => ∃ i j, x = .int i ∧ y = .int j ∧ Q (.int (i + j)) H
def rSub : V → V → Hp → VK → Prop := fun x y H Q => ∃ i j, x = .int i ∧ y = .int j ∧ Q (.int (i - j)) H
theorem in_add : InOp X .Add rAdd := by
  rintro pins s σ H x y u v Q I rx ry ⟨i, j, rfl, rfl, q⟩
  obtain ⟨t, rfl⟩ := (show ∃ t, u = Value.int i t from rx)
  obtain ⟨t', rfl⟩ := (show ∃ t', v = Value.int j t' from ry)
  exact PyProof.Rows.iadd_int ⟨.int (i + j), H, I.tok _, ⟨_, rfl⟩, q⟩
end

/-! ### isinstance -/
section
variable {X : Cx} {pins : List (Addr × Obj)} {σ : St} {H : Hp} {s : Shared} {A : Around} {E : Value → Shared → Prop} {Q : Value → Shared → Prop} {c : Value} {b : Bool}
/-- the type of a value, as the fragment's deciders take it; for an instance its class -/
inductive TyOf (K : PySem.W.Frag) (H : Hp) : V → Value → Prop where
  | non : TyOf K H .non (.type "NoneType")
  | bl (x : Bool) : TyOf K H (.bl x) (.type "bool")
  | int (i : Int) : TyOf K H (.int i) (.type "int")
  | str (x : Str) : TyOf K H (.str x) (.type "str")
  | flt (x : UInt64) : TyOf K H (.flt x) (.type "float")
  | lst {a : Addr} {xs : List V} (e : H a = some (.lst xs)) : TyOf K H (.ref a) (.type "list")
  | frz {a : Addr} {o : Obj} {xs : List V} (e : H a = some (.frz o (.lst xs))) : TyOf K H (.ref a) (.type "list")
  | tup {a : Addr} {xs : List V} (e : H a = some (.tup xs)) : TyOf K H (.ref a) (.type "tuple")
  | dK {a : Addr} {kvs : List (Key × V)} (e : H a = some (.dK kvs)) : TyOf K H (.ref a) (.type "dict")
  | dT {a : Addr} {kvs : List (List Key × V)} (e : H a = some (.dT kvs)) : TyOf K H (.ref a) (.type "dict")
  | ins {a C dx : Addr} {fs : List (Str × V)} (e : H a = some (.ins C dx fs)) (cl : Cls K C) (ha : PySem.W.findIn K (.ref C) "__class__" = some (some (.builtin "object.__class__")))
      (hn : PySem.W.specialIn K (.builtin "object.__class__") "__get__" = some (some (.builtin "getset_descriptor.__get__"))) (htk : PySem.W.takesIn K (.builtin "object.__class__") = some true)
      (hm : PySem.W.mroIn K C (.type "object") = some true) : TyOf K H (.ref a) (.ref C)
/-- isinstance(x, c) for one class c, a built-in or an own one: kitOne's answer -/
theorem isinst_ok {x : V} {u t : Value} (I : Inv X pins σ H s) (rx : RelV x u) (ty : TyOf X.K H x t) (e : PySem.W.kitOne X.K t c = some b) (h : ∀ tk, Q (.bool b) { s with toks := tk }) :
    wpAny (model X.prog X.w) A (call (.builtin "isinstance") [u, c]) Q E s := by
  cases ty with
  | non => cases (show u = Value.none from rx); exact PySem.W.kia_one PySem.W.kitx_none I.kIn True.intro e (fun z => nomatch z) h
  | bl y => cases (show u = Value.bool y from rx); exact PySem.W.kia_one PySem.W.kitx_bool I.kIn True.intro e (fun z => nomatch z) h
  | int i => obtain ⟨t, q⟩ := (show ∃ t, u = Value.int i t from rx); cases q; exact PySem.W.kia_one PySem.W.kitx_int I.kIn True.intro e (fun z => nomatch z) h
  | str y => obtain ⟨t, q⟩ := (show ∃ t, u = Value.str y t from rx); cases q; exact PySem.W.kia_one PySem.W.kitx_str I.kIn True.intro e (fun z => nomatch z) h
  | flt y => obtain ⟨t, q⟩ := (show ∃ t, u = Value.float y t from rx); cases q; exact PySem.W.kia_one PySem.W.kitx_float I.kIn True.intro e (fun z => nomatch z) h
  | @lst a xs ea =>
    cases (show u = Value.ref a from rx)
    obtain ⟨_, _, n, _, h1⟩ := (show ObjOk X.prog X.w H s.heap a (.lst xs) from I.hok a _ ea)
    exact PySem.W.kia_one PySem.W.kitx_list I.kIn ⟨_, h1, rfl⟩ e (fun z => nomatch z) h
  | @frz a ob xs ea =>
    cases (show u = Value.ref a from rx)
    obtain ⟨_, _, _, n, _, h1⟩ := (show ObjOk X.prog X.w H s.heap a (.frz ob (.lst xs)) from I.hok a _ ea)
    exact PySem.W.kia_one PySem.W.kitx_list I.kIn ⟨_, h1, rfl⟩ e (fun z => nomatch z) h
  | @tup a xs ea =>
    cases (show u = Value.ref a from rx)
    obtain ⟨_, _, _, p⟩ := (show ObjOk X.prog X.w H s.heap a (.tup xs) from I.hok a _ ea)
    obtain ⟨o, h1, h2, _⟩ := p
    exact PySem.W.kia_one PySem.W.kitx_tuple I.kIn ⟨o, h1, h2⟩ e (fun z => nomatch z) h
  | @dK a kvs ea =>
    cases (show u = Value.ref a from rx)
    obtain ⟨_, _, vs, _, p⟩ := (show ObjOk X.prog X.w H s.heap a (.dK kvs) from I.hok a _ ea)
    obtain ⟨o, es, ep, h1, h2, _⟩ := p
    exact PySem.W.kia_one PySem.W.kitx_dict I.kIn ⟨o, h1, h2.1⟩ e (fun z => nomatch z) h
  | @dT a kvs ea =>
    cases (show u = Value.ref a from rx)
    obtain ⟨_, _, xs, _, o, es, ep, h1, h2, _⟩ := (show ObjOk X.prog X.w H s.heap a (.dT kvs) from I.hok a _ ea)
    exact PySem.W.kia_one PySem.W.kitx_dict I.kIn ⟨o, h1, h2.1⟩ e (fun z => nomatch z) h
  | @ins a C dx fs ea cl ha hn htk hm =>
    cases (show u = Value.ref a from rx)
    obtain ⟨mA, O, _⟩ := ins_get I.hok ea
    obtain ⟨od, J, _⟩ := O.look
    exact PySem.W.kia_one (PySem.W.kitx_own (cl.get _) cl.hd ha hn htk hm) I.kIn J e (fun z => nomatch z) h
end
end L2

namespace L2
open PySem PySem.Spec PyProof.Rows

/-! ### room -/
structure Room (k : Nat) (A : Around) : Prop where
  hd : A.handled = none
  dp : A.depth + 3 * k + 5 < recursionLimit
  un : A.units + 16 * k + 200 < cLine
theorem Room.mono {j k : Nat} {A : Around} (r : Room k A) (h : j ≤ k) : Room j A := ⟨r.hd, by have := r.dp; omega, by have := r.un; omega⟩
theorem Room.deeper {k : Nat} {A : Around} (r : Room (k + 1) A) (env : Env) : Room k (A.deeper env) :=
  ⟨r.hd, by have := r.dp; show A.depth + 1 + 3 * k + 5 < _; omega, by have := r.un; show A.units + 3 + 16 * k + 200 < _; omega⟩
theorem make_depth {A : Around} {C : Addr} {us : List Value} {kw : List (Str × Value)} : (A.under (.builtin "type.__call__" ⟨.ref C :: us, kw⟩)).depth = A.depth + 1 := by
  first | rfl | simp [Around.under, Code.weight, Code.isCreation, Code.isGuard, Code.isCaller, Code.frames, Code.isFrame, guardIds]
theorem make_units {A : Around} {C : Addr} {us : List Value} {kw : List (Str × Value)} : (A.under (.builtin "type.__call__" ⟨.ref C :: us, kw⟩)).units = A.units + 1 := by
  first | rfl | simp [Around.under, Code.cUnits, Code.frames, Code.isFrame]
theorem Room.make {k : Nat} {A : Around} (r : Room (k + 1) A) (C : Addr) (us : List Value) (kw : List (Str × Value)) : Room k (A.under (.builtin "type.__call__" ⟨.ref C :: us, kw⟩)) :=
  ⟨r.hd, by have := r.dp; rw [make_depth]; omega, by have := r.un; rw [make_units]; omega⟩
theorem Room.depth {k : Nat} {A : Around} (r : Room k A) : A.depth < recursionLimit := by have := r.dp; omega
theorem Room.units {k : Nat} {A : Around} (r : Room k A) : A.units + 64 < cLine := by have := r.un; omega
/-! ### argument lists and displays -/
def tNil : TA := fun _ H Q => Q [] H
def tCons (ta : TE) (tr : TA) : TA := fun σ H Q => ta σ H fun x H1 => tr σ H1 fun xs H2 => Q (x :: xs) H2
section
variable {X : Cx} {e : Expr} {es : List Expr} {te : TE} {t : TA} {pos : Pos}
theorem pa_nil : PA X [] tNil := fun _ _ _ _ H Q I h => Calls.spliced_nil ⟨[], H, I, .nil, h⟩
theorem pa_cons (ha : PE X e te) (hr : PA X es t) (hs : starEach (e :: es) X.env = (false, eval e X.env) :: starEach es X.env := by rfl) : PA X (e :: es) (tCons te t) := by
  intro pos pins s σ H Q I h
  rw [hs]
  show wpAny _ _ (spliced ((false, eval e X.env) :: backTo pos (starEach es X.env))) _ _ s
  refine Calls.spliced_cons (thn (ha pins s σ H _ I h) fun u s1 ⟨x, H1, I1, r1, q1⟩ => ?_)
  exact thn (hr pos pins s1 σ H1 _ I1 q1) fun us s2 ⟨xs, H2, I2, r2, q2⟩ => ⟨x :: xs, H2, I2, .cons r1 r2, q2⟩

/-- a tuple, a list of written items -/
def tTup (t : TA) : TE := fun σ H Q => t σ H fun xs H1 => xs.length ≤ sizeLine ∧ ∀ p, H1 p = none → Q (.ref p) (upd H1 p (.tup xs))
def tLst (t : TA) : TE := fun σ H Q => t σ H fun xs H1 => xs.length ≤ sizeLine ∧ ∀ p, H1 p = none → Q (.ref p) (upd H1 p (.lst xs))
theorem pe_tup {x1} (h : PA X es t) : PE X (.Tuple es x1 pos) (tTup t) := by
  intro pins s σ H Q I hq
  refine wpAny_Tuple_spliced (thn (h pos pins s σ H _ I hq) fun us s1 ⟨xs, H1, I1, r, z, q⟩ => ⟨by rw [← r.length]; exact z, ?_⟩)
  have hf : H1 s1.heap.objs.size = none := I1.hok.fresh (Nat.le_refl _)
  refine ⟨.ref s1.heap.objs.size, upd H1 s1.heap.objs.size (.tup xs), I1.laid (t' := s1.toks) (fun b u e => Heap.get?_push_of_some _ e) (Nat.le_refl _) ?_, rfl, q _ hf⟩
  exact ⟨z, us, r, ⟨_, Heap.get?_push_size _ rfl, rfl, _, rfl⟩⟩
theorem pe_lst (h : PA X es t) : PE X (.List es pos) (tLst t) := by
  intro pins s σ H Q I hq
  refine wpAny_List_spliced (thn (h pos pins s σ H _ I hq) fun us s1 ⟨xs, H1, I1, r, z, q⟩ => ⟨by rw [← r.length]; exact z, ?_⟩)
  have hf : H1 s1.heap.objs.size = none := I1.hok.fresh (Nat.le_refl _)
  refine ⟨.ref s1.heap.objs.size, upd H1 s1.heap.objs.size (.lst xs), I1.laid (t' := s1.toks) (fun b u e => Heap.get?_push_of_some _ e) (Nat.le_refl _) ?_, rfl, q _ hf⟩
  exact ⟨z, us, 0, r, Heap.get?_push_size _ rfl⟩
end

/-! ### what a def promises -/
/-- a def's promise: the bound arguments in the parameters' order, the heap, the wanted end, the wanted exception -/
abbrev Sp := List V → Hp → VK → XK → Prop
/-- how an exception lies behind a call (file 08 gives it): the callers' frames, abstract heap and state ahead of the call, the wish, the exception, the state -/
abbrev CXT := List Env → Hp → Shared → XK → Value → Shared → Prop

/-- the state at a call -/
structure Env0 (P : Program) (w : World) (K : PySem.W.Frag) (mg : Str → Option Value) (base : Heap) (A : Around) (outer : List Env) (s : Shared) (H : Hp) : Prop where
  frames : A.frames = some outer
  mod : Mod K mg base
  bs : ∀ b o, base.get? b = some o → s.heap.get? b = some o ∧ H b = none
  bsz : base.objs.size ≤ s.heap.objs.size
  funs : s.heap.FunFrames base outer
  frf : ∀ b ∈ frs outer, H b = none
  hok : HOk P w H s.heap
  bare : AllBare s.gens
/-- a call's end -/
def CE (outer : List Env) (P : Program) (w : World) (H : Hp) (s : Shared) (Q : VK) (u : Value) (s' : Shared) : Prop :=
  ∃ v H', s'.os = s.os ∧ AllBare s'.gens ∧ Un (frs outer) [] H H' s.heap s'.heap ∧ HOk P w H' s'.heap ∧ RelV v u ∧ Q v H'
def CR (CX : CXT) (outer : List Env) (P : Program) (w : World) (H : Hp) (s : Shared) (Q : VK) (E : XK) (r : Result) (s' : Shared) : Prop :=
  match r with
  | .ok (.ret u) => CE outer P w H s Q u s'
  | .ok _ => False
  | .error e => CX outer H s E e s'
structure FnOk (P : Program) (w : World) (K : PySem.W.Frag) (mg : Str → Option Value) (base : Heap) (CX : CXT) (k : Nat) (f : Addr) (fd : FuncData) (ps : List Str) (sp : Sp) : Prop where
  len : ∀ vs H Q E, sp vs H Q E → vs.length = ps.length
  run : ∀ (A : Around) (outer : List Env) (s : Shared) (H : Hp) (args : Args) (us : List Value) (vs : List V) (Q : VK) (E : XK), Room k A → Env0 P w K mg base A outer s H → BindsTo s fd args (ps.zip us) → Vals vs us → sp vs H Q E →
    codeAny (model P w) A (.call (.ref f) args) (CR CX outer P w H s Q E) s
theorem FnOk.mono {P : Program} {w : World} {K : PySem.W.Frag} {mg : Str → Option Value} {base : Heap} {CX : CXT} {j k : Nat} {f : Addr} {fd : FuncData} {ps : List Str} {sp : Sp} (F : FnOk P w K mg base CX j f fd ps sp) (h : j ≤ k) :
    FnOk P w K mg base CX k f fd ps sp := ⟨F.len, fun A outer s H args us vs Q E hr => F.run A outer s H args us vs Q E (hr.mono h)⟩
theorem Env0.make {P : Program} {w : World} {K : PySem.W.Frag} {mg : Str → Option Value} {base : Heap} {A : Around} {outer : List Env} {s : Shared} {H : Hp} (e : Env0 P w K mg base A outer s H) (C : Addr) (us : List Value) (kw : List (Str × Value)) :
    Env0 P w K mg base (A.under (.builtin "type.__call__" ⟨.ref C :: us, kw⟩)) outer s H := ⟨by first | exact e.frames | (simpa [Around.under, Code.envs, Code.isFrame, pushEnvs] using e.frames), e.mod, e.bs, e.bsz, e.funs, e.frf, e.hok, e.bare⟩
section
variable {X : Cx} {pins : List (Addr × Obj)} {σ : St} {H : Hp} {s s' : Shared}
/-- from a body: what a callee wants -/
theorem Inv.env0 (I : Inv X pins σ H s) : Env0 X.prog X.w X.K X.mg X.base X.A X.stack s H :=
  ⟨I.ok.frames, I.ok.mod, I.bs, Nat.le_trans I.ok.bsz I.sz, I.stack, I.stkFree, I.hok, I.bare⟩
/-- behind a call -/
theorem Inv.after {Q : VK} {u : Value} (I : Inv X pins σ H s) (h : CE X.stack X.prog X.w H s Q u s') : EP X pins σ Q u s' := by
  obtain ⟨v, H', os, bare, un, hok, r, q⟩ := h
  obtain ⟨hh, g, d, t, os'⟩ := s'
  obtain rfl : os' = s.os := os
  exact ⟨v, H', I.call (h' := hh) (g' := g) (d' := d) (t' := t) (ch := []) un hok bare (fun b z => absurd z (by simp)), r, q⟩
end

/-! ### calls -/
/-- f(..): the written arguments, then the defaults dvs; E: what is wanted of an exception -/
def tCall (sp : Sp) (dvs : List V) (E : XK) (t : TA) : TE := fun σ H Q => t σ H fun vs H1 => sp (vs ++ dvs) H1 Q E
/-- o.m(..) of an instance of the class at C -/
def tMeth (C : Addr) (m : Str) (sp : Sp) (dvs : List V) (E : XK) (ta : TE) (t : TA) : TE := fun σ H Q => ta σ H fun x H1 => ∃ a dx fs, x = .ref a ∧ H1 a = some (.ins C dx fs) ∧ fs.lookup m = none ∧
  t σ H1 fun vs H2 => sp (x :: (vs ++ dvs)) H2 Q E
/-- C(..): a new instance and its dict, then __init__ -/
def tMake (C : Addr) (sp : Sp) (dvs : List V) (E : XK) (t : TA) : TE := fun σ H Q => t σ H fun vs H1 => ∀ x dx, H1 x = none → H1 dx = none → dx ≠ x →
  sp (.ref x :: (vs ++ dvs)) (upd (upd H1 dx (.own x)) x (.ins C dx [])) (fun v H2 => v = .non ∧ Q (.ref x) H2) E

/-- how the parameters are bound: us the positional arguments, kw the keywords' values by name, ds the defaults that fill up -/
def Binds (K : PySem.W.Frag) (fd : FuncData) (ps : List Str) (ds : List Value) : Prop :=
  ∀ (s : Shared) (us : List Value), K.In s.heap → (us ++ ds).length = ps.length → BindsTo s fd ⟨us, []⟩ (ps.zip (us ++ ds))
/-- every parameter is given -/
theorem Binds.all {K : PySem.W.Frag} {fd : FuncData} {ps : List Str} (h : ∀ us : List Value, us.length = ps.length → bindArgs fd ⟨us, []⟩ = pure (ps.zip us)) : Binds K fd ps [] := fun s us _ hl => by
  rw [List.append_nil] at hl ⊢
  exact .of_eq (h us hl)

/-- an exception of a callee reaches what this body wants of exceptions -/
def Passes (CX : CXT) (X : Cx) (E : XK) : Prop := ∀ (pins : List (Addr × Obj)) (σ : St) (H : Hp) (s : Shared) (e : Value) (s' : Shared), Inv X pins σ H s → CX X.stack H s E e s' → X.xe e s'

section
variable {X : Cx} {CX : CXT} {k : Nat} {f C : Addr} {fd : FuncData} {ps : List Str} {sp : Sp} {dvs : List V} {ds : List Value} {E : XK} {x m : Str} {p pos apos : Pos} {e o : Expr} {es : List Expr} {ta : TE} {t : TA}

/-- the callee runs -/
theorem run_fn {pins : List (Addr × Obj)} {σ : St} {H : Hp} {s : Shared} {Q : VK} {us : List Value} {vs : List V} (F : FnOk X.prog X.w X.K X.mg X.base CX k f fd ps sp) (hr : Room k X.A) (hb : Binds X.K fd ps ds) (hd : Vals dvs ds) (hx : Passes CX X E)
    (I : Inv X pins σ H s) (r : Vals vs us) (h : sp (vs ++ dvs) H Q E) : wpAny (model X.prog X.w) X.A (call (.ref f) us) (EP X pins σ Q) X.xe s := by
  have r2 : Vals (vs ++ dvs) (us ++ ds) := r.append hd
  have hl : (us ++ ds).length = ps.length := by rw [← r2.length]; exact F.len _ _ _ _ h
  refine wpAny_call (codeAny_mono (F.run X.A X.stack s H ⟨us, []⟩ (us ++ ds) (vs ++ dvs) Q E hr I.env0 (hb s us I.kIn hl) r2 h) fun r s' hq => ?_)
  cases r with
  | error e => exact hx pins σ H s e s' I hq
  | ok fl =>
    cases fl with
    | ret u => exact I.after hq
    | next => exact False.elim hq
    | brk => exact False.elim hq
    | cont => exact False.elim hq

theorem pe_call (F : FnOk X.prog X.w X.K X.mg X.base CX k f fd ps sp) (hr : Room k X.A) (hg : Gl X x) (hm : X.mg x = some (.ref f)) (hk : PySem.W.keepIn X.K (.ref f) = true) (hb : Binds X.K fd ps ds) (hd : Vals dvs ds) (hx : Passes CX X E)
    (ha : PA X (e :: es) t) (hdb : (x == ("__debug__" : Str)) = false := by decide) (he : starEach (e :: es) X.env = (false, eval e X.env) :: starEach es X.env := by rfl) (hpl : (backTo pos (starEach es X.env)).any (·.1) = false := by rfl) :
    PE X (.Call (.Name x p) (e :: es) [] pos) (tCall sp dvs E t) := by
  intro pins s σ H Q I h
  refine wpAny_Call_Name_kw (ld_glob I hg hm ?_ hdb)
  refine PySem.W.callWith_K (h₀ := X.base) I.ok.mod.kin hk (thn (ha pos pins s σ H _ I h) fun us s1 ⟨vs, H1, I1, r, q⟩ => ⟨I1.kIn, ?_⟩) he hpl
  exact run_fn F hr hb hd hx I1 r q
/-- o.m(e, ..) -/
theorem pe_meth {pl : Sem Bool} (he : PE X o ta) (c : Cls X.K C) (hm : Meth X.K C m f) (F : FnOk X.prog X.w X.K X.mg X.base CX k f fd ps sp) (hr : Room k X.A) (hb : Binds X.K fd ps ds) (hd : Vals dvs ds) (hx : Passes CX X E) (ha : PA X (e :: es) t)
    (hst : starEach (e :: es) X.env = (false, eval e X.env) :: starEach es X.env := by rfl) (hpl : (backTo pos (starEach es X.env)).any (·.1) = false := by rfl)
    (ht : eval (.Call (.Attribute o m apos) (e :: es) [] pos) X.env = (do
      let ov ← eval o X.env
      standAt apos.atName
      let (f, first) ← holding [ov] (getMethod ov m pl)
      callWith pos f first (backTo pos (starEach (e :: es) X.env)) (backToKw pos (keywordEach [] X.env))) := by rfl) :
    PE X (.Call (.Attribute o m apos) (e :: es) [] pos) (tMeth C m sp dvs E ta t) := by
  intro pins s σ H Q I h
  refine PySem.W.methodCall_KW (pl := pl) (thn (he pins s σ H _ I h) fun u s1 ⟨x, H1, I1, rx, a, dx, fs, ex, ea, l, q⟩ => ?_) ht
  subst ex
  obtain rfl : u = Value.ref a := rx
  refine getmeth_ok I1 ea c hm l ?_
  refine PySem.W.callWith_K (first := [.ref a]) (h₀ := X.base) I.ok.mod.kin hm.kp (thn (ha pos pins s1 σ H1 _ I1 q) fun us s2 ⟨vs, H2, I2, r, q2⟩ => ⟨I2.kIn, ?_⟩) hst hpl
  exact run_fn (us := .ref a :: us) (vs := .ref a :: vs) F hr hb hd hx I2 (.cons rfl r) q2
/-- o.m() -/
theorem pe_meth0 {pl : Sem Bool} (he : PE X o ta) (c : Cls X.K C) (hm : Meth X.K C m f) (F : FnOk X.prog X.w X.K X.mg X.base CX k f fd ps sp) (hr : Room k X.A) (hb : Binds X.K fd ps ds) (hd : Vals dvs ds) (hx : Passes CX X E)
    (ht : eval (.Call (.Attribute o m apos) [] [] pos) X.env = (do
      let ov ← eval o X.env
      standAt apos.atName
      let (f, first) ← holding [ov] (getMethod ov m pl)
      callWith pos f first (backTo pos (starEach [] X.env)) (backToKw pos (keywordEach [] X.env))) := by rfl) :
    PE X (.Call (.Attribute o m apos) [] [] pos) (tMeth C m sp dvs E ta tNil) := by
  intro pins s σ H Q I h
  refine PySem.W.methodCall_KW (pl := pl) (thn (he pins s σ H _ I h) fun u s1 ⟨x, H1, I1, rx, a, dx, fs, ex, ea, l, q⟩ => ?_) ht
  subst ex
  obtain rfl : u = Value.ref a := rx
  refine getmeth_ok I1 ea c hm l ?_
  exact PySem.W.callWith_K0 (first := [.ref a]) I1.kIn hm.kp (run_fn (us := [.ref a]) (vs := [.ref a]) F hr hb hd hx I1 (.cons rfl .nil) q)

/-- what a class must have to be made -/
structure Mk (K : PySem.W.Frag) (C f : Addr) : Prop where
  makes : PySem.W.makesIn K C = true
  init : PySem.W.findIn K (.ref C) "__init__" = some (some (.ref f))
  fn : PySem.W.isFn K (.ref f) = true
  kp : PySem.W.keepIn K (.ref C) = true

theorem run_make {pins : List (Addr × Obj)} {σ : St} {H : Hp} {s : Shared} {Q : VK} {us : List Value} {vs : List V} (M : Mk X.K C f) (F : FnOk X.prog X.w X.K X.mg X.base CX k f fd ps sp) (hr : Room (k + 1) X.A) (hb : Binds X.K fd ps ds) (hd : Vals dvs ds)
    (hx : Passes CX X E) (I : Inv X pins σ H s) (r : Vals vs us)
    (h : ∀ x dx, H x = none → H dx = none → dx ≠ x → sp (.ref x :: (vs ++ dvs)) (upd (upd H dx (.own x)) x (.ins C dx [])) (fun v H2 => v = .non ∧ Q (.ref x) H2) E) :
    wpAny (model X.prog X.w) X.A (call (.ref C) us) (EP X pins σ Q) X.xe s := by
  have hq := h (s.heap.objs.size + 1) s.heap.objs.size (I.hok.fresh (Nat.le_succ _)) (I.hok.fresh (Nat.le_refl _)) (Nat.ne_of_lt (Nat.lt_succ_self _))
  have I2 := Inv.made (C := C) I
  have r2 : Vals (V.ref (s.heap.objs.size + 1) :: (vs ++ dvs)) (Value.ref (s.heap.objs.size + 1) :: (us ++ ds)) := .cons rfl (r.append hd)
  have hl : (Value.ref (s.heap.objs.size + 1) :: us ++ ds).length = ps.length := by
    have e := r2.length
    rw [F.len _ _ _ _ hq] at e
    exact e.symm
  refine wpAny_call (make_map (f := f) I.kIn M.makes M.init (beq_iff_eq.mp M.fn) (codeAny_mono (F.run _ X.stack _ _ ⟨Value.ref (s.heap.objs.size + 1) :: us, []⟩ (Value.ref (s.heap.objs.size + 1) :: (us ++ ds)) _ _ E (hr.make C us [])
    (I2.env0.make C us []) (hb _ (Value.ref (s.heap.objs.size + 1) :: us) I2.kIn hl) r2 hq) fun r s' hq' => ?_))
  cases r with
  | error e => exact hx pins σ _ _ e s' I2 hq'
  | ok fl =>
    cases fl with
    | ret u =>
      obtain ⟨v, H', I3, rv, ev, q3⟩ := I2.after hq'
      subst ev
      exact ⟨rv, ⟨V.ref (s.heap.objs.size + 1), H', I3, rfl, q3⟩⟩
    | next => exact False.elim hq'
    | brk => exact False.elim hq'
    | cont => exact False.elim hq'
theorem pe_make (M : Mk X.K C f) (F : FnOk X.prog X.w X.K X.mg X.base CX k f fd ps sp) (hr : Room (k + 1) X.A) (hg : Gl X x) (hm : X.mg x = some (.ref C)) (hb : Binds X.K fd ps ds) (hd : Vals dvs ds) (hx : Passes CX X E)
    (ha : PA X (e :: es) t) (hdb : (x == ("__debug__" : Str)) = false := by decide) (he : starEach (e :: es) X.env = (false, eval e X.env) :: starEach es X.env := by rfl) (hpl : (backTo pos (starEach es X.env)).any (·.1) = false := by rfl) :
    PE X (.Call (.Name x p) (e :: es) [] pos) (tMake C sp dvs E t) := by
  intro pins s σ H Q I h
  refine wpAny_Call_Name_kw (ld_glob I hg hm ?_ hdb)
  refine PySem.W.callWith_K (h₀ := X.base) I.ok.mod.kin M.kp (thn (ha pos pins s σ H _ I h) fun us s1 ⟨vs, H1, I1, r, q⟩ => ⟨I1.kIn, ?_⟩) he hpl
  exact run_make M F hr hb hd hx I1 r q
end

/-! ### keywords -/
/-- the values of the keywords, from the left -/
def PK (X : Cx) (kws : List Keyword) (t : TA) : Prop :=
  ∀ (pos : Pos) (pins : List (Addr × Obj)) (s : Shared) (σ : St) (H : Hp) (Q : List V → Hp → Prop), Inv X pins σ H s → t σ H Q → wpAny (model X.prog X.w) X.A (evalAll ((backToKw pos (keywordEach kws X.env)).map (·.2))) (AP X pins σ Q) X.xe s
section
variable {X : Cx} {CX : CXT} {k : Nat} {f C : Addr} {fd : FuncData} {ps ks : List Str} {sp : Sp} {E : XK} {x m : Str} {p pos apos kpos : Pos} {e o : Expr} {es : List Expr} {kws : List Keyword} {te ta : TE} {t tk : TA} {nm : Option Str}
/-- how a call with keywords binds: g puts the positional values us and the keywords' values ws (names ks) in the parameters' order, defaults among them -/
structure KBinds (K : PySem.W.Frag) (fd : FuncData) (ps ks : List Str) (g : List Value → List Value → List Value) (gV : List V → List V → List V) : Prop where
  to : ∀ (s : Shared) (us ws : List Value), K.In s.heap → (g us ws).length = ps.length → BindsTo s fd ⟨us, ks.zip ws⟩ (ps.zip (g us ws))
  rel : ∀ {vs : List V} {us : List Value} {zs : List V} {ws : List Value}, Vals vs us → Vals zs ws → Vals (gV vs zs) (g us ws)
def tCallK (sp : Sp) (gV : List V → List V → List V) (E : XK) (t tk : TA) : TE := fun σ H Q => t σ H fun vs H1 => tk σ H1 fun zs H2 => sp (gV vs zs) H2 Q E
variable {g : List Value → List Value → List Value} {gV : List V → List V → List V}
end

/-! ### a def's body keeps its promise -/
/-- names: the parameters first -/
structure FnScope (N P : List Str) (sc : Scope) : Prop where
  kind : sc.kind = .function
  co : sc.isCoroutine = false
  gen : sc.isGenerator = false
  nd : N.Nodup
  pre : N.take P.length = P
  par : ∀ x ∈ P, sc.names.lookup x = some .local ∨ sc.names.lookup x = some .cell
  nofree : ∀ y ∈ sc.names, y.2 ≠ .free

theorem bindL_out {kindOf : Str → Option NameKind} {x : Str} : ∀ {binds : List (Str × Value)} {m : Str → Option Value}, (∀ v, (x, v) ∉ binds) → bindL kindOf binds m x = m x
  | [], _, _ => rfl
  | (n, v) :: r, m, h => by
    unfold bindL
    rw [bindL_out fun w hw => h w (List.mem_cons_of_mem _ hw)]
    split
    · have : x ≠ n := by rintro rfl; exact h v List.mem_cons_self
      simp [this]
    · rfl
theorem bindC_out {kindOf : Str → Option NameKind} {x : Str} : ∀ {binds : List (Str × Value)} {m : Str → Option Value}, (∀ v, (x, v) ∉ binds) → bindC kindOf binds m x = m x
  | [], _, _ => rfl
  | (n, v) :: r, m, h => by
    unfold bindC
    rw [bindC_out fun w hw => h w (List.mem_cons_of_mem _ hw)]
    split
    · rfl
    · have : x ≠ n := by rintro rfl; exact h v List.mem_cons_self
      simp [this]
theorem bindL_get {kindOf : Str → Option NameKind} {x : Str} {v : Value} : ∀ {P : List Str} {vs : List Value} {i : Nat} {m : Str → Option Value}, P.Nodup → P[i]? = some x → vs[i]? = some v → kindOf x = some .local →
    bindL kindOf (P.zip vs) m x = some v
  | [], _, _, _, _, h, _, _ => by simp at h
  | _ :: _, [], _, _, _, _, h, _ => by simp at h
  | p :: P, w :: vs, 0, m, nd, h1, h2, hk => by
    simp at h1 h2; subst h1; subst h2
    show bindL kindOf ((p, w) :: P.zip vs) m p = _
    unfold bindL
    rw [bindL_out fun v hv => (List.nodup_cons.mp nd).1 (List.of_mem_zip hv).1, if_pos hk]
    simp
  | p :: P, w :: vs, i + 1, m, nd, h1, h2, hk => by
    show bindL kindOf ((p, w) :: P.zip vs) m x = _
    unfold bindL
    exact bindL_get (i := i) (List.nodup_cons.mp nd).2 (by simpa using h1) (by simpa using h2) hk
theorem bindC_get {kindOf : Str → Option NameKind} {x : Str} {v : Value} : ∀ {P : List Str} {vs : List Value} {i : Nat} {m : Str → Option Value}, P.Nodup → P[i]? = some x → vs[i]? = some v → kindOf x ≠ some .local →
    bindC kindOf (P.zip vs) m x = some v
  | [], _, _, _, _, h, _, _ => by simp at h
  | _ :: _, [], _, _, _, _, h, _ => by simp at h
  | p :: P, w :: vs, 0, m, nd, h1, h2, hk => by
    simp at h1 h2; subst h1; subst h2
    show bindC kindOf ((p, w) :: P.zip vs) m p = _
    unfold bindC
    rw [bindC_out fun v hv => (List.nodup_cons.mp nd).1 (List.of_mem_zip hv).1, if_neg hk]
    simp
  | p :: P, w :: vs, i + 1, m, nd, h1, h2, hk => by
    show bindC kindOf ((p, w) :: P.zip vs) m x = _
    unfold bindC
    exact bindC_get (i := i) (List.nodup_cons.mp nd).2 (by simpa using h1) (by simpa using h2) hk

/-- the names' values at the entry -/
def start (N : List Str) (vs : List V) : St := vs.map some ++ List.replicate (N.length - vs.length) none

/-- the context of a def's body, at its entry; an exception leaves the frame, then lies as CX says -/
def cxOf (CX : CXT) (P : Program) (w : World) (K : PySem.W.Frag) (mg : Str → Option Value) (base : Heap) (N : List Str) (qual : Str) (scope : Scope) (f : Addr) (cd : Value) (A : Around) (outer : List Env) (s : Shared) (H : Hp) (E : XK) : Cx where
  prog := P
  w := w
  K := K
  mg := mg
  base := base
  A := A.deeper (envOfC qual scope s.heap.objs.size f cd)
  N := N
  s₀ := s
  H₀ := H
  env := envOfC qual scope s.heap.objs.size f cd
  outer := outer
  stack := envOfC qual scope s.heap.objs.size f cd :: outer
  ex := []
  calm := true
  fn := fun _ => true
  pn := []
  xe := fun e s' => wpAny (model P w) (A.deeper (envOfC qual scope s.heap.objs.size f cd)) (leaving (envOfC qual scope s.heap.objs.size f cd) e) (fun _ s'' => CX outer H s E e s'') (fun e' s'' => CX outer H s E e' s'') s'

theorem cell_has {sc : Scope} {n : Nat} {x : Str} (h : sc.names.lookup x = some .cell) : ∃ c, (cellsFrom n sc.names []).lookup x = some c := by
  have q := PySem.W.cellsFrom_some sc.names n [] (.inl h)
  exact Option.isSome_iff_exists.mp q

theorem inv_start {CX : CXT} {P : Program} {w : World} {K : PySem.W.Frag} {mg : Str → Option Value} {base : Heap} {N ps : List Str} {qual : Str} {scope : Scope} {f : Addr} {cd : Value} {A : Around} {outer : List Env} {s s1 : Shared} {H : Hp} {E : XK} {us : List Value} {vs : List V}
    (S : FnScope N ps scope) (hd : A.handled = none) (e0 : Env0 P w K mg base A outer s H) (hl : vs.length = ps.length) (r : Vals vs us)
    (x : InCallC s s.heap.objs.size (bindL (envOfC qual scope s.heap.objs.size f cd).kindOf (ps.zip us) fun _ => none) (cellsFrom (s.heap.objs.size + 1) scope.names []) (bindC (envOfC qual scope s.heap.objs.size f cd).kindOf (ps.zip us) fun _ => none) s1) :
    Inv (cxOf CX P w K mg base N qual scope f cd A outer s H E) [] (start N vs) H s1 := by
  have hpl : ps.length ≤ N.length := by have := congrArg List.length S.pre; rw [List.length_take] at this; omega
  obtain ⟨h1, tk, rfl, hk⟩ := x.done
  have noA : ∀ b : Addr, b ∉ (cxOf CX P w K mg base N qual scope f cd A outer s H E).ex := fun b z => absurd (show b ∈ ([] : List Addr) from z) (by simp)
  refine ⟨⟨e0.mod, S.kind, rfl, rfl, Nat.le_refl _, fun y z c h1 h2 => ?_, fun y hy => ?_, fun y c _ h => ?_, fun _ => hd, Around.frames_deeper e0.frames, .inr ⟨rfl, rfl⟩, fun b z => absurd z (noA b), e0.bs, e0.bsz, fun b _ _ => noA b, fun b z => absurd z (noA b), e0.funs, e0.frf⟩,
    rfl, e0.bare, Un.kept hk, ⟨_, x.toInCall.ns, fun i y v h1 h2 h3 => ?_⟩, fun y c h => ⟨_, x.cell y c h⟩, e0.hok.fresh (Nat.le_refl _), fun y c h => ?_, fun p hp => absurd (show p ∈ ([] : List (Addr × Obj)) from hp) (by simp), e0.hok.kept hk, ?_⟩
  · exact name_of_addr x.apart (PySem.mem_of_lookup h1) (PySem.mem_of_lookup h2)
  · have hy : scope.names.lookup y = some .cell ∨ scope.names.lookup y = some .free := hy
    rcases hy with hy | hy
    · exact cell_has hy
    · exact absurd rfl (S.nofree _ (PySem.mem_of_lookup hy))
  · exact Nat.le_of_lt (x.above y c (PySem.mem_of_lookup h))
  · have hi : i < vs.length := by
      unfold start at h2
      by_cases hi : i < vs.length
      · exact hi
      · rw [List.getElem?_append_right (by simpa using hi)] at h2
        rw [List.getElem?_replicate] at h2
        split at h2 <;> cases h2
    have ha : vs[i]? = some v := by
      unfold start at h2
      rw [List.getElem?_append_left (by simpa using hi), List.getElem?_map] at h2
      cases e : vs[i]? with
      | none => rw [e] at h2; cases h2
      | some a => rw [e] at h2; cases h2; rfl
    obtain ⟨u, hu, rv⟩ := r.get ha
    have hp : ps[i]? = some y := by
      rw [← S.pre, List.getElem?_take_of_lt (by omega)]; exact h1
    have ndP : ps.Nodup := by rw [← S.pre]; exact S.nd.sublist (List.take_sublist _ _)
    refine ⟨u, rv, ?_⟩
    rcases S.par y (List.mem_of_getElem? hp) with k | k
    · exact .inl ⟨k, bindL_get ndP hp hu k⟩
    · obtain ⟨c, e⟩ := cell_has (n := s.heap.objs.size + 1) k
      refine .inr ⟨.inl k, c, e, ?_⟩
      have q := x.cell y c e
      rw [bindC_get ndP hp hu (by show scope.names.lookup y ≠ _; rw [k]; decide)] at q
      exact q
  · exact e0.hok.fresh (Nat.le_of_lt (x.above y c (PySem.mem_of_lookup h)))
  · unfold start
    show _ = N.length
    rw [List.length_append, List.length_map, List.length_replicate]
    omega

/-- THE RULE: a def (or a method) of the text, by its body. The body's reading t is chosen for each entry; it is run at the parameters' values -/
theorem fn_of {CX : CXT} {P : Program} {w : World} {K : PySem.W.Frag} {mg : Str → Option Value} {base : Heap} {k : Nat} {f : Addr} {name qual : Str} {params : Arguments} {body : List Stmt} {scope : Scope} {dV kV doc pm cdv ct oc : Value} {an od : Option Addr}
    {osl : Array (Option Value)} {N ps : List Str} {sp : Sp} (lk : K.lookup f = some ⟨oc, od, .func (PySem.W.fnOf name qual params body scope dV kV doc pm an cdv ct), osl⟩) (hcd : PySem.W.codeIn K cdv qual = true) (S : FnScope N ps scope)
    (len : ∀ vs H Q E, sp vs H Q E → vs.length = ps.length)
    (hbody : ∀ (A : Around) (outer : List Env) (s : Shared) (H : Hp) (vs : List V) (Q : VK) (E : XK), Room k (A.deeper (envOfC qual scope s.heap.objs.size f cdv)) → sp vs H Q E →
      ∃ t, PSs (cxOf CX P w K mg base N qual scope f cdv A outer s H E) body t ∧ t { nx := fun _ H' => Q .non H', rt := Q } (start N vs) H) :
    FnOk P w K mg base CX (k + 1) f (PySem.W.fnOf name qual params body scope dV kV doc pm an cdv ct) ps sp := by
  refine ⟨len, fun A outer s H args us vs Q E hr e0 hb r hsp => ?_⟩
  have hl := len _ _ _ _ hsp
  have KX : K.In s.heap := e0.mod.kin.keeps fun b o e => (e0.bs b o e).1
  have lim : s.heap.NoLimit := e0.mod.nolimit.keeps fun b o e => (e0.bs b o e).1
  have hkind : ∀ y ∈ ps.zip us, scope.names.lookup y.1 = some .local ∨ (scope.names.lookup y.1 = some .cell ∧ ((cellsFrom (s.heap.objs.size + 1) scope.names []).lookup y.1).isSome = true) := fun ⟨n, v⟩ hy => by
    rcases S.par n (List.of_mem_zip hy).1 with q | q
    · exact .inl q
    · exact .inr ⟨q, PySem.W.cellsFrom_some _ _ _ (.inl q)⟩
  refine codeAny_call_function hr.depth (KX _ _ lk) rfl S.co S.gen rfl (PySem.W.codeRec_of KX hcd) (hb _ _ _ _ ?_)
  refine wpAny_newFunctionEnv_cells S.kind hkind fun env he s1 x => ?_
  subst he
  refine ⟨lim.keeps x.toInCall.keep, codeAny_func ?_⟩
  obtain ⟨t, ht, hq⟩ := hbody A outer s H vs Q E (hr.deeper _) hsp
  have I : Inv (cxOf CX P w K mg base N qual scope f cdv A outer s H E) [] (start N vs) H s1 := inv_start S hr.hd e0 hl r x
  refine wpAny_mono (ht [] s1 (start N vs) H _ I hq) (fun fl s' hs => ?_) fun e s' hs => hs
  have fin : ∀ {σ' : St} {H' : Hp} {v : V} {u : Value}, Inv (cxOf CX P w K mg base N qual scope f cdv A outer s H E) [] σ' H' s' → RelV v u → Q v H' → CE outer P w H s Q u s' :=
    fun {σ' H' v u} J rv q => ⟨v, H', J.os, J.bare, J.base, J.hok, rv, q⟩
  cases fl with
  | ret u =>
    obtain ⟨v, σ', H', J, rv, q⟩ := hs
    exact fin J rv q
  | next =>
    obtain ⟨σ', H', J, q⟩ := hs
    exact fin (v := V.non) (u := Value.none) J rfl q
  | brk =>
    obtain ⟨_, _, _, q⟩ := hs
    exact False.elim q
  | cont =>
    obtain ⟨_, _, _, q⟩ := hs
    exact False.elim q
end L2

namespace L2
open PySem PySem.Spec PyProof.Rows
section
variable {X : Cx} {x : Str} {p pos : Pos} {e : Expr} {es : List Expr} {t : TA} {id T : String} {r : List V → Hp → VK → Prop}

def tCB (r : List V → Hp → VK → Prop) (t : TA) : TE := fun σ H Q => t σ H fun vs H1 => r vs H1 Q
/-- f(e, ..), f a built-in function -/
theorem pe_callB (hc : CallR X (.builtin id) r) (hg : Gl X x) (hm : X.mg x = none) (hv : bootBuiltins x = some (.builtin id)) (ha : PA X (e :: es) t) (hn : x ≠ "__name__" := by decide) (hdb : (x == ("__debug__" : Str)) = false := by decide)
    (he : starEach (e :: es) X.env = (false, eval e X.env) :: starEach es X.env := by rfl) (hpl : (backTo pos (starEach es X.env)).any (·.1) = false := by rfl) : PE X (.Call (.Name x p) (e :: es) [] pos) (tCB r t) := by
  intro pins s σ H Q I h
  refine wpAny_Call_Name_kw (ld_blt I hg hm hv ?_ hn hdb)
  exact PyProof.Rows.callWith_builtin1 (thn (ha pos pins s σ H _ I h) fun us s1 ⟨vs, H1, I1, r1, q1⟩ => hc pins s1 σ H1 vs us Q I1 r1 q1) he hpl
/-- T(e, ..), T a built-in type -/
theorem pe_callTy (hc : CallR X (.type T) r) (hg : Gl X x) (hm : X.mg x = none) (hv : bootBuiltins x = some (.type T)) (ha : PA X (e :: es) t) (hn : x ≠ "__name__" := by decide) (hdb : (x == ("__debug__" : Str)) = false := by decide)
    (he : starEach (e :: es) X.env = (false, eval e X.env) :: starEach es X.env := by rfl) (hpl : (backTo pos (starEach es X.env)).any (·.1) = false := by rfl) : PE X (.Call (.Name x p) (e :: es) [] pos) (tCB r t) := by
  intro pins s σ H Q I h
  refine wpAny_Call_Name_kw (ld_blt I hg hm hv ?_ hn hdb)
  exact PyProof.Rows.callWith_type1 (thn (ha pos pins s σ H _ I h) fun us s1 ⟨vs, H1, I1, r1, q1⟩ => hc pins s1 σ H1 vs us Q I1 r1 q1) he hpl
end
end L2

namespace HT
open PySem PyProof.Rows

/-- t < u of tuples of ints -/
def lexLt : List Int → List Int → Bool
  | [], [] => false
  | [], _ :: _ => true
  | _ :: _, [] => false
  | x :: xs, y :: ys => if x = y then lexLt xs ys else decide (x < y)
section
open PySem.SeqAt
open PySem.AutoSeq1 (wpAny_loadPart')
open PySem.MeetsSeq PySem.MeetsSeq2 PySem.MeetsSeq3

end

section
variable {prog : Program} {w : World} {A : Around} {E : Value → Shared → Prop} {s : Shared}

/-! ### t[a:b], not the whole -/
/-- a slice's bound as a place among n (d where it is left out) -/
def sIx (n d : Nat) : Option Int → Nat
  | none => d
  | some v => if v < 0 then (v + (n : Int)).toNat else min v.toNat n
theorem sIx_none (n d : Nat) : sIx n d none = d := rfl
theorem sIx_nat (n d k : Nat) : sIx n d (some (k : Int)) = min k n := by
  show (if (k : Int) < 0 then ((k : Int) + (n : Int)).toNat else min (k : Int).toNat n) = min k n
  rw [if_neg (by omega), Int.toNat_natCast]
theorem sIx_le (n d : Nat) (hd : d ≤ n) (o : Option Int) : sIx n d o ≤ n := by
  cases o with
  | none => exact hd
  | some v =>
    show (if v < 0 then (v + (n : Int)).toNat else min v.toNat n) ≤ n
    by_cases hv : v < 0
    · rw [if_pos hv]; omega
    · rw [if_neg hv]; exact Nat.min_le_right _ _
end
end HT

namespace L2
open PySem PySem.Spec PyProof.Rows

/-! ### the parts of a slice -/
abbrev TO := St → Hp → (Option Int → Hp → Prop) → Prop
/-- a slice's part (left out, or an int) -/
def PO (X : Cx) (e : Option Expr) (t : TO) : Prop :=
  ∀ (pins : List (Addr × Obj)) (s : Shared) (σ : St) (H : Hp) (Q : Option Int → Hp → Prop), Inv X pins σ H s → t σ H Q →
    wpAny (model X.prog X.w) X.A (evalPart e X.env) (fun u s' => ∃ o H', Inv X pins σ H' s' ∧ IsPart u o ∧ Q o H') X.xe s
def tNoPart : TO := fun _ H Q => Q none H
def tPart (t : TE) : TO := fun σ H Q => t σ H fun x H1 => ∃ i, x = .int i ∧ Q (some i) H1

section
variable {X : Cx} {e : Expr} {te : TE} {lo hi : Option Expr} {tl th : TO} {pos p2 : Pos}

theorem po_none : PO X none tNoPart := by
  intro pins s σ H Q I h
  rw [evalPart_none]
  exact wpAny_pure ⟨none, H, I, .none, h⟩
theorem po_some (h : PE X e te) : PO X (some e) (tPart te) := by
  intro pins s σ H Q I hw
  rw [evalPart_some]
  refine thn (h pins s σ H _ I hw) fun u s1 ⟨x, H1, I1, r1, q1⟩ => ?_
  obtain ⟨i, rfl, q⟩ := q1
  obtain ⟨t, rfl⟩ := r1
  exact ⟨some i, H1, I1, .int i t, q⟩

/-- what a slice of a value is, by values: the slice object stands at sl -/
def SlR (X : Cx) (r : V → Option Int → Option Int → Hp → VK → Prop) : Prop :=
  ∀ (pins : List (Addr × Obj)) (s : Shared) (σ : St) (H : Hp) (x : V) (v vl vu : Value) (lo hi : Option Int) (sl : Addr) (Q : VK), Inv X pins σ H s → RelV x v → s.heap.IsSliceOf sl vl vu .none → IsPart vl lo → IsPart vu hi → r x lo hi H Q →
    ∃ T id, typeLookup (.type T) "__getitem__" = pure (some (.builtin id)) ∧ s.TypeIs v T ∧ wpAny (model X.prog X.w) X.A (getItem v (.ref sl)) (EP X pins σ Q) X.xe s
def tSl (r : V → Option Int → Option Int → Hp → VK → Prop) (te : TE) (tl th : TO) : TE := fun σ H Q => te σ H fun x H1 => tl σ H1 fun l H2 => th σ H2 fun u H3 => r x l u H3 Q
/-- a[lo:hi], any a -/
theorem pe_slice {r : V → Option Int → Option Int → Hp → VK → Prop} (hr : SlR X r) (he : PE X e te) (hl : PO X lo tl) (hu : PO X hi th) : PE X (.Subscript e (.Slice lo hi none p2) pos) (tSl r te tl th) := by
  intro pins s σ H Q I h
  refine Subscript_ (thn (he pins s σ H _ I h) fun v s1 ⟨x, H1, I1, r1, q1⟩ => ?_)
  refine wpAny_Slice (thn (hl pins s1 σ H1 _ I1 q1) fun vl s2 ⟨l, H2, I2, pl, q2⟩ => thn (hu pins s2 σ H2 _ I2 q2) fun vu s3 ⟨u, H3, I3, pu, q3⟩ => ?_)
  rw [evalPart_none]
  refine wpAny_pure ?_
  have I4 : Inv X pins σ H3 { s3 with heap := s3.heap.push { cls := .type "slice", data := .fields #[vl, vu, .none] } } := I3.kept (t' := s3.toks) fun b ob q => Heap.get?_push_of_some _ q
  obtain ⟨T, id, hT, ht, hg⟩ := hr pins { s3 with heap := s3.heap.push { cls := .type "slice", data := .fields #[vl, vu, .none] } } σ H3 x v vl vu l u s3.heap.objs.size Q I4 r1 (Heap.IsSliceOf.new ..) pl pu q3
  show wpAny (model X.prog X.w) X.A (subscriptTail e (.Slice lo hi none p2) v (.ref s3.heap.objs.size)) (EP X pins σ Q) X.xe { s3 with heap := s3.heap.push { cls := .type "slice", data := .fields #[vl, vu, .none] } }
  exact tail_any (ops := [.ref s3.heap.objs.size, v]) ht hT hg (by with_unfolding_all rfl)

/-- the items of xs[lo:hi] -/
def cutV (xs : List V) (lo hi : Option Int) : List V := (xs.drop (HT.sIx xs.length 0 lo)).take (HT.sIx xs.length xs.length hi - HT.sIx xs.length 0 lo)
/-- t[lo:hi], not the whole of it (the whole would be t itself) -/
def rSlT (K : PySem.W.Frag) : V → Option Int → Option Int → Hp → VK → Prop := fun x lo hi H Q => ∃ a xs, x = .ref a ∧ SqT K H a xs ∧
  ¬ (HT.sIx xs.length 0 lo = 0 ∧ HT.sIx xs.length xs.length hi = xs.length) ∧ ∀ p, H p = none → Q (.ref p) (upd H p (.tup (cutV xs lo hi)))
/-! ### t < u, t + u -/
def rLtT (K : PySem.W.Frag) : R2 := fun x y H Q => ∃ a b ns ms, x = .ref a ∧ y = .ref b ∧ SqT K H a (ns.map V.int) ∧ SqT K H b (ms.map V.int) ∧ Q (.bl (HT.lexLt ns ms)) H
/-- t + u, t not empty: u empty gives t itself -/
def rCatT (K : PySem.W.Frag) : R2 := fun x y H Q => ∃ a b xs ys, x = .ref a ∧ y = .ref b ∧ SqT K H a xs ∧ SqT K H b ys ∧ xs ≠ [] ∧ xs.length + ys.length ≤ sizeLine ∧
  (ys = [] → Q (.ref a) H) ∧ (ys ≠ [] → ∀ p, H p = none → Q (.ref p) (upd H p (.tup (xs ++ ys))))
end
end L2

namespace L2
open PySem PySem.Spec PyProof.Rows

/-! ### places -/
/-- the place that an index of any sign means -/
def ixN (n : Nat) (i : Int) : Option Nat := if 0 ≤ i then (if i < n then some i.toNat else none) else if -(n : Int) ≤ i then some (i + n).toNat else none
def atI {α : Type} (xs : List α) (i : Int) : Option α := (ixN xs.length i).bind fun j => xs[j]?
theorem ixN_seq {n : Nat} {i : Int} {j : Nat} (h : ixN n i = some j) : seqIndex? i n = some j ∧ j < n ∧ -(n : Int) ≤ i ∧ i < n := by
  unfold ixN at h
  by_cases h0 : 0 ≤ i
  · rw [if_pos h0] at h
    by_cases h1 : i < n
    · rw [if_pos h1] at h
      have e : i.toNat = j := Option.some.inj h
      exact ⟨by rw [seqIndex_of h0 h1, e], by omega, by omega, h1⟩
    · rw [if_neg h1] at h; cases h
  · rw [if_neg h0] at h
    by_cases h1 : -(n : Int) ≤ i
    · rw [if_pos h1] at h
      have e : (i + n).toNat = j := Option.some.inj h
      exact ⟨by rw [seqIndex_neg (by omega) h1, e], by omega, h1, by omega⟩
    · rw [if_neg h1] at h; cases h
theorem atI_get {α : Type} {xs : List α} {i : Int} {v : α} (h : atI xs i = some v) : ∃ j, seqIndex? i xs.length = some j ∧ xs[j]? = some v ∧ j < xs.length ∧ -(xs.length : Int) ≤ i ∧ i < xs.length := by
  unfold atI at h
  cases e : ixN xs.length i with
  | none => rw [e] at h; cases h
  | some j =>
    rw [e] at h
    obtain ⟨h1, h2, h3, h4⟩ := ixN_seq e
    exact ⟨j, h1, h, h2, h3, h4⟩
theorem atI_nat {α : Type} {xs : List α} {j : Nat} {v : α} (h : xs[j]? = some v) : atI xs (j : Int) = some v := by
  have hj : j < xs.length := (List.getElem?_eq_some_iff.mp h).1
  have e : ixN xs.length (j : Int) = some j := by
    unfold ixN
    rw [if_pos (by omega), if_pos (by omega)]; simp
  unfold atI; rw [e]; exact h
/-! ### what may be subscripted -/
/-- what stands as an index of a plain subscript -/
def PlainIx (b : Expr) : Prop := ∀ o i, subscripted b false o i = operate [o, i] (getItem o i)
/-- a subscript by values -/
def IxR (X : Cx) (r : R2) : Prop :=
  ∀ (value slice : Expr) (pins : List (Addr × Obj)) (s : Shared) (σ : St) (H : Hp) (x y : V) (v u : Value) (Q : VK), Inv X pins σ H s → RelV x v → RelV y u → r x y H Q →
    subscripted slice false v u = operate [v, u] (getItem v u) → wpAny (model X.prog X.w) X.A (subscriptTail value slice v u) (EP X pins σ Q) X.xe s
/-- a call of a builtin's method by values: the receiver, the arguments -/
def MtR (X : Cx) (id : String) (r : V → List V → Hp → VK → Prop) : Prop :=
  ∀ (pins : List (Addr × Obj)) (s : Shared) (σ : St) (H : Hp) (x : V) (xs : List V) (v : Value) (us : List Value) (Q : VK), Inv X pins σ H s → RelV x v → Vals xs us → r x xs H Q →
    wpAny (model X.prog X.w) X.A (call (.builtin id) (v :: us)) (EP X pins σ Q) X.xe s
section
variable {X : Cx} {a b : Expr} {ta tb : TE} {pos : Pos}
/-- a[b] -/
theorem pe_ix {r : R2} (hr : IxR X r) (ha : PE X a ta) (hb : PE X b tb) (hs : PlainIx b) : PE X (.Subscript a b pos) (tOp r ta tb) := by
  intro pins s σ H Q I h
  exact Subscript_ (binT ha hb I h fun v u s2 x y H2 I2 rx ry q => hr a b pins s2 σ H2 x y v u Q I2 rx ry q (hs _ _))

def rIxL (K : PySem.W.Frag) : R2 := fun x y H Q => ∃ p xs i v, x = .ref p ∧ y = .int i ∧ SqL K H p xs ∧ atI xs i = some v ∧ Q v H
def rIxT (K : PySem.W.Frag) : R2 := fun x y H Q => ∃ p xs i v, x = .ref p ∧ y = .int i ∧ SqT K H p xs ∧ atI xs i = some v ∧ Q v H
def rIxS : R2 := fun x y H Q => ∃ z i c, x = .str z ∧ y = .int i ∧ z.length ≤ sizeLine ∧ atI z.cps.toList i = some c ∧ Q (.str ⟨#[c]⟩) H
theorem ix_list : IxR X (rIxL X.K) := by
  intro value slice pins s σ H x y v u Q I rx ry h hs
  obtain ⟨p, xs, i, z, rfl, rfl, hq, he, q⟩ := h
  cases rx
  obtain ⟨t, rfl⟩ := ry
  obtain ⟨its, r, pl, hz⟩ := I.list hq
  obtain ⟨j, h1, h2, h3, h4, h5⟩ := atI_get he
  obtain ⟨w, ew, rw'⟩ := r.get h2
  have hl := r.length
  have hn := line63
  have fin : EP X pins σ Q w s := ⟨z, H, I, rw', q⟩
  by_cases h0 : 0 ≤ i
  · have hj : i.toNat = j := by
      rw [seqIndex_of h0 h5] at h1
      exact Option.some.inj h1
    exact item_listR pl.isList h0 (by omega) (by rw [hj]; simpa using ew) fin hs
  · have hj : (i + (its.toArray.size : Int)).toNat = j := by
      rw [seqIndex_neg (by omega) h4] at h1
      rw [List.size_toArray, ← hl]
      exact Option.some.inj h1
    exact subscriptTail_builtinR (x := w) pl.isList.typeIs slot_list_getitem.lookup
      (wpAny_getItem_list_neg (Q := fun r s' => r = w ∧ EP X pins σ Q r s') pl.isList (by omega) (by rw [List.size_toArray] <;> omega) (by omega) (by rw [hj]; simpa using ew) ⟨rfl, fin⟩) hs
theorem ix_tup : IxR X (rIxT X.K) := by
  intro value slice pins s σ H x y v u Q I rx ry h hs
  obtain ⟨p, xs, i, z, rfl, rfl, hq, he, q⟩ := h
  cases rx
  obtain ⟨t, rfl⟩ := ry
  obtain ⟨its, r, pl, hz⟩ := I.tuple hq
  obtain ⟨j, h1, h2, h3, h4, h5⟩ := atI_get he
  obtain ⟨w, ew, rw'⟩ := r.get h2
  have hl := r.length
  have hn := line63
  have fin : EP X pins σ Q w s := ⟨z, H, I, rw', q⟩
  exact subscriptTail_builtinR (x := w) pl.typeIs slot_tuple_getitem.lookup
    (getItem_tuple (j := j) (Q := fun r s' => r = w ∧ EP X pins σ Q r s') pl (by omega) (by omega) (by rw [List.size_toArray, ← hl]; exact h1) (by simpa using ew) ⟨rfl, fin⟩) hs
theorem ix_str : IxR X rIxS := by
  intro value slice pins s σ H x y v u Q I rx ry h hs
  obtain ⟨z, i, c, rfl, rfl, hz, he, q⟩ := h
  obtain ⟨t, rfl⟩ := rx
  obtain ⟨t', rfl⟩ := ry
  obtain ⟨j, h1, h2, h3, h4, h5⟩ := atI_get he
  have hl : z.cps.toList.length = z.length := by simp [Str.length]
  rw [hl] at h1 h4 h5
  have hn := line63
  exact tail_any (typeIs_str s z t) slot_str_getitem.lookup (getItem_str (c := c) (by
    have e1 : decide (i < -(2 ^ 63 : Int)) = false := decide_eq_false (by omega)
    have e2 : decide (i ≥ 2 ^ 63) = false := decide_eq_false (by omega)
    rw [e1, e2, Bool.or_false]) (by rw [h1]; simpa using h2) ⟨.str ⟨#[c]⟩, H, I.tok _, ⟨_, rfl⟩, q⟩) hs
/-- list, tuple or str -/
def rIx (K : PySem.W.Frag) : R2 := fun x y H Q => rIxL K x y H Q ∨ rIxT K x y H Q ∨ rIxS x y H Q
/-! ### xs[i] = v, any sign -/
/-- the list's object behind a store -/
theorem mapSeq_set (its : List Value) (n j : Nat) (u : Value) : Obj.mapSeq (·.setIfInBounds j u) { cls := .type "list", data := .seq its.toArray n } = { cls := .type "list", data := .seq (its.set j u).toArray n } := by
  simp [Obj.mapSeq]
theorem Inv.lst {pins : List (Addr × Obj)} {σ : St} {H : Hp} {s : Shared} {p : Addr} {xs : List V} (I : Inv X pins σ H s) (h : H p = some (.lst xs)) :
    ∃ (its : List Value) (n : Nat), Vals xs its ∧ s.heap.get? p = some { cls := .type "list", data := .seq its.toArray n } ∧ xs.length ≤ sizeLine := by
  obtain ⟨z, its, n, r, e⟩ := I.hok p _ h
  exact ⟨its, n, r, e, z⟩
/-- the list at p is written by an update of its object -/
theorem Inv.lstUpd {pins : List (Addr × Obj)} {σ : St} {H : Hp} {s : Shared} {p : Addr} {xs ys : List V} {its its' : List Value} {n n' : Nat} {f : Obj → Obj} (I : Inv X pins σ H s) (h : H p = some (.lst xs))
    (ho : s.heap.get? p = some { cls := .type "list", data := .seq its.toArray n }) (hf : f { cls := .type "list", data := .seq its.toArray n } = { cls := .type "list", data := .seq its'.toArray n' }) (r : Vals ys its') (hz : ys.length ≤ sizeLine) (t : Nat) :
    Inv X pins σ (upd H p (.lst ys)) { s with heap := s.heap.update p f, toks := t } := by
  have e : (s.heap.update p f).get? p = some { cls := .type "list", data := .seq its'.toArray n' } := by
    rw [Heap.get?_update_self f ho (by rw [hf] <;> rfl), hf]
  refine I.write (x := p) (e := p) (by rw [h]; trivial) (.inl rfl) (fun b u hb q => (Heap.get?_update_other _ _ (Ne.symm hb)).trans q) ⟨_, e⟩ ?_
  exact ⟨hz, its', n', r, e⟩
def rSetL : V → V → V → Hp → (Hp → Prop) → Prop := fun o i v H Q => ∃ p xs k j, o = .ref p ∧ i = .int k ∧ H p = some (.lst xs) ∧ ixN xs.length k = some j ∧ Q (upd H p (.lst (xs.set j v)))
theorem set_list : PSet X rSetL := by
  intro pins s σ H o i v ov iv u Q I ro ri rv h
  obtain ⟨p, xs, k, j, rfl, rfl, hp, hj, q⟩ := h
  cases ro
  obtain ⟨t, rfl⟩ := ri
  obtain ⟨its, n, r, ho, hz⟩ := I.lst hp
  obtain ⟨h1, h2, h3, h4⟩ := ixN_seq hj
  have hl := r.length
  have hn := line63
  have I' : Inv X pins σ (upd H p (.lst (xs.set j v))) { s with heap := s.heap.update p (Obj.mapSeq (·.setIfInBounds j u)) } :=
    I.lstUpd hp ho (mapSeq_set its n j u) (r.set rv j) (by rw [List.length_set]; exact hz) s.toks
  by_cases h0 : 0 ≤ k
  · have hk : k.toNat = j := by
      rw [seqIndex_of h0 h4] at h1
      exact Option.some.inj h1
    exact PySem.W.ki_setAt ho h0 (by omega) (by rw [List.size_toArray, ← hl]; exact h4) (by rw [hk]; exact ⟨_, I', q⟩)
  · have hk : (k + (its.toArray.size : Int)).toNat = j := by
      rw [seqIndex_neg (by omega) h3] at h1
      rw [List.size_toArray, ← hl]
      exact Option.some.inj h1
    exact PySem.W.ki_setBack ho (by omega) (by rw [List.size_toArray, ← hl]; exact h3) (by omega) (by rw [hk]; exact ⟨_, I', q⟩)

/-! ### slices -/
/-- xs[lo:hi] of a list: a new list -/
def rSlL (K : PySem.W.Frag) : V → Option Int → Option Int → Hp → VK → Prop := fun x lo hi H Q => ∃ a xs, x = .ref a ∧ SqL K H a xs ∧ ∀ p, H p = none → Q (.ref p) (upd H p (.lst (cutV xs lo hi)))
/-! ### in, not in: flat items -/
def flatV : V → Bool
  | .non => true
  | .bl _ => true
  | .int _ => true
  | .str _ => true
  | _ => false
/-- == of flat values -/
def eqV : V → V → Bool
  | .non, .non => true
  | .bl a, .bl b => a == b
  | .bl a, .int b => (if a then 1 else 0) == b
  | .int a, .bl b => a == (if b then 1 else 0)
  | .int a, .int b => a == b
  | .str a, .str b => a == b
  | _, _ => false
theorem eqAt_V {A : Around} {s : Shared} {y x : V} {u v : Value} (ry : RelV y u) (rx : RelV x v) (fy : flatV y = true) (fx : flatV x = true) : SeqAt.EqAt A s u v (eqV y x) := by
  cases y with
  | non =>
    cases ry
    cases x with
    | non => cases rx; exact SeqAt.EqAt.same _
    | bl b => cases rx; exact SeqAt.EqAt.none_bool b
    | int b => obtain ⟨t, rfl⟩ := rx; exact SeqAt.EqAt.none_int b t
    | str b => obtain ⟨t, rfl⟩ := rx; exact SeqAt.EqAt.none_str b t
    | _ => exact absurd (show false = true from fx) Bool.false_ne_true
  | bl a =>
    cases ry
    cases x with
    | non => cases rx; exact SeqAt.EqAt.bool_none a
    | bl b => cases rx; exact SeqAt.EqAt.bool_bool a b
    | int b => obtain ⟨t, rfl⟩ := rx; exact SeqAt.EqAt.bool_int a b t
    | str b => obtain ⟨t, rfl⟩ := rx; exact SeqAt.EqAt.bool_str a b t
    | _ => exact absurd (show false = true from fx) Bool.false_ne_true
  | int a =>
    obtain ⟨t', rfl⟩ := ry
    cases x with
    | non => cases rx; exact SeqAt.EqAt.int_none a t'
    | bl b => cases rx; exact SeqAt.EqAt.int_bool a t' b
    | int b => obtain ⟨t, rfl⟩ := rx; exact SeqAt.EqAt.int_int a t' b t
    | str b => obtain ⟨t, rfl⟩ := rx; exact SeqAt.EqAt.int_str a t' b t
    | _ => exact absurd (show false = true from fx) Bool.false_ne_true
  | str a =>
    obtain ⟨t', rfl⟩ := ry
    cases x with
    | non => cases rx; exact SeqAt.EqAt.str_none a t'
    | bl b => cases rx; exact SeqAt.EqAt.str_bool a t' b
    | int b => obtain ⟨t, rfl⟩ := rx; exact SeqAt.EqAt.str_int a t' b t
    | str b => obtain ⟨t, rfl⟩ := rx; exact SeqAt.EqAt.str_str a t' b t
    | _ => exact absurd (show false = true from fx) Bool.false_ne_true
  | _ => exact absurd (show false = true from fy) Bool.false_ne_true
/-- the items' answers, read off the values (a value's own answer does not lean on its token) -/
def eqU (x : V) (u : Value) : Bool := match u with
  | .none => eqV .non x
  | .bool b => eqV (.bl b) x
  | .int i _ => eqV (.int i) x
  | .str z _ => eqV (.str z) x
  | _ => false
theorem eqU_of {x y : V} {u : Value} (r : RelV y u) (f : flatV y = true) : eqU x u = eqV y x := by
  cases y with
  | non => cases r; rfl
  | bl b => cases r; rfl
  | int i => obtain ⟨t, rfl⟩ := r; rfl
  | str z => obtain ⟨t, rfl⟩ := r; rfl
  | _ => exact absurd (show false = true from f) Bool.false_ne_true
theorem any_eqU {x : V} : ∀ {xs : List V} {us : List Value}, Vals xs us → xs.all flatV = true → us.any (eqU x) = xs.any fun y => eqV y x
  | _, _, .nil, _ => rfl
  | y :: xs, u :: us, .cons r t, f => by
    rw [List.all_cons, Bool.and_eq_true] at f
    rw [List.any_cons, List.any_cons, eqU_of r f.1, any_eqU t f.2]
theorem mem_eqAt {A : Around} {s : Shared} {x : V} {v : Value} (rx : RelV x v) (fx : flatV x = true) : ∀ {xs : List V} {us : List Value}, Vals xs us → xs.all flatV = true → ∀ u ∈ us, SeqAt.EqAt A s u v (eqU x u)
  | _, _, .nil, _ => fun u hu => by cases hu
  | y :: xs, u :: us, .cons r t, f => fun u' hu => by
    rw [List.all_cons, Bool.and_eq_true] at f
    rcases List.mem_cons.mp hu with rfl | hu
    · rw [eqU_of r f.1]; exact eqAt_V r rx f.1 fx
    · exact mem_eqAt rx fx t f.2 u' hu
def inV (x : V) (xs : List V) : Bool := xs.any fun y => eqV y x
/-- x in a list or tuple of flat items -/
def rIn (K : PySem.W.Frag) (neg : Bool) : R2 := fun x y H Q => ∃ p xs, y = .ref p ∧ (SqL K H p xs ∨ SqT K H p xs) ∧ flatV x = true ∧ xs.all flatV = true ∧ Q (.bl (if neg then !inV x xs else inV x xs)) H
theorem op_in_seq : OpR X (compareOp .In) (rIn X.K false) := by
  intro pins s σ H x y v u Q I rx ry h
  obtain ⟨p, xs, rfl, hq, fx, fs, q⟩ := h
  cases ry
  rcases hq with hq | hq
  · obtain ⟨its, r, pl, hz⟩ := I.list hq
    refine SeqAt.in_listAt (eqU x) pl.isList (fun w hw => mem_eqAt rx fx r fs w (by simpa using hw)) ⟨.bl _, H, I, rfl, ?_⟩
    rw [show its.toArray.any (eqU x) = its.any (eqU x) by simp, any_eqU r fs]
    exact q
  · obtain ⟨its, r, pl, hz⟩ := I.tuple hq
    refine SeqAt.in_tupleAt (eqU x) pl (fun w hw => mem_eqAt rx fx r fs w (by simpa using hw)) ⟨.bl _, H, I, rfl, ?_⟩
    rw [show its.toArray.any (eqU x) = its.any (eqU x) by simp, any_eqU r fs]
    exact q
/-! ### len, list(x), tuple(x) of any list or tuple that is read -/
theorem call_len_seq : CallR X (.builtin "len") (fun xs H Q => ∃ p ys, xs = [.ref p] ∧ (SqL X.K H p ys ∨ SqT X.K H p ys) ∧ Q (.int ys.length) H) := by
  intro pins s σ H xs us Q I r h
  obtain ⟨p, ys, rfl, hq, q⟩ := h
  obtain ⟨u, rfl, rx⟩ := vals1 r
  cases rx
  have hn := line63
  rcases hq with hq | hq
  · obtain ⟨its, r', pl, hz⟩ := I.list hq
    have hlen := r'.length
    exact Calls.call_len_list pl.isList (by simp only [List.size_toArray] <;> omega) ⟨.int ys.length, H, I.tok _, ⟨s.toks + 1, by rw [List.size_toArray, hlen]⟩, q⟩
  · obtain ⟨its, r', pl, hz⟩ := I.tuple hq
    have hlen := r'.length
    exact len_tuple pl (by simp only [List.size_toArray] <;> omega) ⟨.int ys.length, H, I.tok _, ⟨s.toks + 1, by rw [List.size_toArray, hlen]⟩, q⟩
theorem call_len_str : CallR X (.builtin "len") (fun xs H Q => ∃ z, xs = [.str z] ∧ z.length ≤ sizeLine ∧ Q (.int z.length) H) := by
  intro pins s σ H xs us Q I r h
  obtain ⟨z, rfl, hz, q⟩ := h
  obtain ⟨u, rfl, t, rfl⟩ := vals1 r
  have hn := line63
  exact len_str (by omega) ⟨.int z.length, H, I.tok _, ⟨_, rfl⟩, q⟩
theorem call_tuple_of : CallR X (.type "tuple") (fun xs H Q => ∃ p ys, xs = [.ref p] ∧ ((SqL X.K H p ys ∧ ∀ l, H l = none → Q (.ref l) (upd H l (.tup ys))) ∨ (SqT X.K H p ys ∧ Q (.ref p) H))) := by
  intro pins s σ H xs us Q I r h
  obtain ⟨p, ys, rfl, h⟩ := h
  obtain ⟨u, rfl, rx⟩ := vals1 r
  cases rx
  rcases h with ⟨hq, q⟩ | ⟨hq, q⟩
  · obtain ⟨its, r', pl, hz⟩ := I.list hq
    have hlen := r'.length
    refine call_tuple_list pl.isList (fun h' kp => ?_) (by simp only [List.size_toArray] <;> omega)
    have I1 : Inv X pins σ H { s with heap := h' } := I.kept (t' := s.toks) kp
    have I2 : Inv X pins σ (upd H h'.objs.size (.tup ys)) { s with heap := h'.push { cls := .type "tuple", data := .seq its.toArray } } :=
      I1.laid (t' := s.toks) (fun b o e => Heap.get?_push_of_some _ e) (Nat.le_refl _) (show ObjOk X.prog X.w _ _ _ (.tup ys) from ⟨hz, its, r', IsTup.new _ _⟩)
    exact ⟨.ref h'.objs.size, _, I2, rfl, q _ (I1.hok.fresh (Nat.le_refl _))⟩
  · obtain ⟨its, r', pl, hz⟩ := I.tuple hq
    exact call_tuple_same pl ⟨.ref p, H, I, rfl, q⟩

/-! ### the call of a builtin's method: o.m(..) -/
/-- the value is of that builtin type -/
def tyV (K : PySem.W.Frag) (T : String) (x : V) (H : Hp) : Prop := match x with
  | .str _ => T = "str"
  | .int _ => T = "int"
  | .ref p => (T = "list" ∧ ∃ xs, SqL K H p xs) ∨ (T = "tuple" ∧ ∃ o, K.lookup p = some o ∧ o.cls = .type "tuple" ∧ o.dict = none) ∨
      (T = "dict" ∧ ((∃ kvs, H p = some (.dK kvs)) ∨ ∃ kvs, H p = some (.dT kvs))) ∨ (T = "set" ∧ ∃ S n, H p = some (.set S n))
  | _ => False
theorem tyV_is {pins : List (Addr × Obj)} {σ : St} {H : Hp} {s : Shared} {T : String} {x : V} {v : Value} (I : Inv X pins σ H s) (r : RelV x v) (ty : tyV X.K T x H) :
    s.TypeIs v T ∧ ∀ a, v = .ref a → ∃ ob, s.heap.get? a = some ob ∧ ob.dict = none := by
  cases x with
  | str z =>
    obtain ⟨t, rfl⟩ := r
    cases (show T = "str" from ty)
    exact ⟨typeIs_str s z t, fun _ e => nomatch e⟩
  | int i =>
    obtain ⟨t, rfl⟩ := r
    cases (show T = "int" from ty)
    exact ⟨typeIs_int s i t, fun _ e => nomatch e⟩
  | ref p =>
    cases r
    rcases ty with ⟨rfl, xs, hq⟩ | ⟨rfl, o, hk, hc, hd⟩ | ⟨rfl, hk⟩ | ⟨rfl, S, n, hk⟩
    · obtain ⟨its, _, pl, _⟩ := I.list hq
      refine ⟨pl.isList.typeIs, fun a e => ?_⟩
      cases e
      obtain ⟨o, n, e, c, hd, _⟩ := pl
      exact ⟨o, e, hd⟩
    · refine ⟨⟨o, I.kIn p o hk, hc⟩, fun a e => ?_⟩
      cases e
      exact ⟨o, I.kIn _ o hk, hd⟩
    · have z : ∃ o, s.heap.get? p = some o ∧ o.ExactDict := by
        rcases hk with ⟨kvs, hk⟩ | ⟨kvs, hk⟩
        · obtain ⟨_, _, _, _, o, _, _, e, ex, _⟩ := I.hok p _ hk
          exact ⟨o, e, ex⟩
        · obtain ⟨_, _, _, _, o, _, _, e, ex, _⟩ := I.hok p _ hk
          exact ⟨o, e, ex⟩
      obtain ⟨o, e, ex⟩ := z
      refine ⟨⟨o, e, ex.1⟩, fun a e2 => ?_⟩
      cases e2
      exact ⟨o, e, ex.2.1⟩
    · obtain ⟨o, _, _, _, e, ex, _⟩ := I.hok p _ hk
      refine ⟨⟨o, e, ex.1⟩, fun a e2 => ?_⟩
      cases e2
      exact ⟨o, e, ex.2.1⟩
  | _ => exact False.elim ty
def tBM0 (K : PySem.W.Frag) (T : String) (r : V → List V → Hp → VK → Prop) (to : TE) : TE := fun σ H Q => to σ H fun x H1 => tyV K T x H1 ∧ r x [] H1 Q
def tBM (K : PySem.W.Frag) (T : String) (r : V → List V → Hp → VK → Prop) (to : TE) (t : TA) : TE := fun σ H Q => to σ H fun x H1 => tyV K T x H1 ∧ t σ H1 fun xs H2 => r x xs H2 Q
variable {o e : Expr} {es : List Expr} {to : TE} {t : TA} {name : Str} {apos cpos : Pos} {T id : String} {r : V → List V → Hp → VK → Prop}
theorem pe_bm (pa : PlainAttrs T) (slot : Slot T name id) (hty : typeOf (.builtin id) = pure (.type "method_descriptor")) (hm : MtR X id r) (ho : PE X o to) (ha : PA X (e :: es) t)
    (hbase : attributeBase o name X.env (eval o X.env) = eval o X.env := by rfl)
    (hfew : ((backTo cpos (starEach (e :: es) X.env)).all (fun x => !x.1) && (backToKw cpos (keywordEach [] X.env)).all (fun x => x.1.isSome)
      && decide ((e :: es).length + ([] : List Keyword).length + (if ([] : List Keyword).isEmpty then 0 else 1) < 30)) = true := by rfl)
    (hline : (apos.endLine == cpos.line) = true := by rfl) (hs : starEach (e :: es) X.env = (false, eval e X.env) :: starEach es X.env := by rfl) (hplain : (backTo cpos (starEach es X.env)).any (·.1) = false := by rfl) :
    PE X (.Call (.Attribute o name apos) (e :: es) [] cpos) (tBM X.K T r to t) := by
  intro pins s σ H Q I h
  refine wpAny_Call_method_late hbase hfew hline rfl (thn (ho pins s σ H _ I h) fun v s1 ⟨x, H1, I1, r1, ty, q1⟩ => ?_)
  obtain ⟨h1, h2⟩ := tyV_is I1 r1 ty
  refine ⟨T, id, pa, slot, hty, h1, h2, ?_⟩
  have hA := ha cpos pins s1 σ H1 _ I1 q1
  rw [hs] at hA ⊢
  refine Calls.callWith_builtin (by show (false || (backTo cpos (starEach es X.env)).any (·.1)) = false; rw [hplain] <;> rfl) (Calls.evalArgs_plain ?_)
  exact thn hA fun us s2 ⟨vs, H2, I2, r2, q2⟩ => hm pins s2 σ H2 x vs v us Q I2 r1 r2 q2
/- xs.append(e), list.index on a module's tuple .. are MtR facts of 06m -/
end
end L2

namespace L2
open PySem PySem.Spec PyProof.Rows

def MtM (X : Cx) (id : String) (r : V → List V → Hp → VK → Prop) : Prop :=
  ∀ (pins : List (Addr × Obj)) (s : Shared) (σ : St) (H : Hp) (x : V) (xs : List V) (v : Value) (us : List Value) (Q : VK), Inv X pins σ H s → RelV x v → Vals xs us → r x xs H Q →
    wpAny (model X.prog X.w) X.A (call (.builtin id) (v :: us)) (EP X pins σ Q) X.xe s

/-! ### lists of values -/
theorem Vals.one : ∀ {x : V} {us : List Value}, Vals [x] us → ∃ u, us = [u] ∧ RelV x u
  | _, _, .cons r .nil => ⟨_, rfl, r⟩
theorem Vals.zero : ∀ {us : List Value}, Vals [] us → us = []
  | _, .nil => rfl
theorem Vals.eraseIdx : ∀ {xs : List V} {us : List Value} (i : Nat), Vals xs us → Vals (xs.eraseIdx i) (us.eraseIdx i)
  | _, _, _, .nil => .nil
  | _, _, 0, .cons _ t => t
  | _, _, i + 1, .cons r t => .cons r (Vals.eraseIdx i t)
theorem len_erase {α : Type} : ∀ (l : List α) (i : Nat), (l.eraseIdx i).length ≤ l.length
  | [], _ => Nat.le_refl _
  | _ :: _, 0 => Nat.le_succ _
  | _ :: r, i + 1 => Nat.succ_le_succ (len_erase r i)
section
variable {X : Cx} {pins : List (Addr × Obj)} {σ : St} {H : Hp} {s : Shared} {l b : Addr} {xs ys zs : List V}

/-! ### the two steps: a tracked list is rewritten, a new list is laid -/
theorem Inv.lset {its its' : List Value} {n : Nat} {f : Array Value → Array Value} {t' : Nat} (I : Inv X pins σ H s) (hH : H l = some (.lst xs))
    (e : s.heap.get? l = some { cls := .type "list", data := .seq its.toArray n }) (hf : f its.toArray = its'.toArray) (hv : Vals ys its') (hz : ys.length ≤ sizeLine) :
    Inv X pins σ (upd H l (.lst ys)) { s with heap := s.heap.update l (Obj.mapSeq f), toks := t' } := by
  have q := PySem.IsL.update e f
  rw [hf] at q
  refine I.write (x := l) (e := l) (by rw [hH]; exact trivial) (.inl rfl) (fun b' u hb hu => (Heap.get?_update_other s.heap (Obj.mapSeq f) (Ne.symm hb)).trans hu) ⟨_, q⟩ ?_
  exact ⟨hz, its', _, hv, q⟩
theorem Inv.lnew {its : List Value} {t' : Nat} (I : Inv X pins σ H s) (hv : Vals ys its) (hz : ys.length ≤ sizeLine) :
    Inv X pins σ (upd H s.heap.objs.size (.lst ys)) { s with heap := s.heap.push { cls := .type "list", data := .seq its.toArray }, toks := t' } :=
  I.laid (fun _ _ q => Heap.get?_push_of_some _ q) (Nat.le_refl _) ⟨hz, its, 0, hv, Heap.get?_push_size _ rfl⟩
theorem Inv.lstM (I : Inv X pins σ H s) (hH : H l = some (.lst xs)) : xs.length ≤ sizeLine ∧ ∃ (its : List Value) (n : Nat), Vals xs its ∧ xs.length = its.length ∧ s.heap.get? l = some { cls := .type "list", data := .seq its.toArray n } := by
  obtain ⟨z, its, n, r, e⟩ := I.hok l _ hH
  exact ⟨z, its, n, r, r.length, e⟩

theorem notLongL {n : Nat} (h : n ≤ sizeLine) : Builtin.List.listTooLong n = false := by
  unfold Builtin.List.listTooLong
  exact decide_eq_false (by omega)
end

section
variable {X : Cx}

/-! ### methods -/
def rAppend : V → List V → Hp → VK → Prop := fun x vs H Q => ∃ l xs y, x = .ref l ∧ vs = [y] ∧ H l = some (.lst xs) ∧ xs.length < sizeLine ∧ Q .non (upd H l (.lst (xs ++ [y])))
theorem mt_append : MtM X "list.append" rAppend := by
  intro pins s σ H x vs v us Q I rx rv h
  obtain ⟨l, xs, y, rfl, rfl, hH, hz, q⟩ := h
  cases rx
  obtain ⟨u, rfl, ru⟩ := rv.one
  obtain ⟨z, its, n, r, hl, e⟩ := I.lstM hH
  refine call_meets F.slot_list_append ⟨_, e, rfl⟩ F.entry_list_append (F.args_list_append_2 _ _) (PySem.list_append l its.toArray n u (by rw [List.size_toArray]; omega)) ⟨e, ?_⟩
  refine ⟨.non, _, I.lset (its' := its ++ [u]) hH e (by simp) (r.append (.cons ru .nil)) ?_, rfl, q⟩
  rw [List.length_append, List.length_singleton]
  omega

def rExtend : V → List V → Hp → VK → Prop := fun x vs H Q => ∃ l b xs zs, x = .ref l ∧ vs = [.ref b] ∧ H l = some (.lst xs) ∧ H b = some (.lst zs) ∧ xs.length + zs.length ≤ sizeLine ∧ Q .non (upd H l (.lst (xs ++ zs)))
theorem mt_extend : MtM X "list.extend" rExtend := by
  intro pins s σ H x vs v us Q I rx rv h
  obtain ⟨l, b, xs, zs, rfl, rfl, hH, hB, hz, q⟩ := h
  cases rx
  obtain ⟨u, rfl, ru⟩ := rv.one
  cases ru
  obtain ⟨z, its, n, r, hl, e⟩ := I.lstM hH
  obtain ⟨z2, its2, n2, r2, hl2, e2⟩ := I.lstM hB
  have hsz : its.toArray.size + its2.toArray.size ≤ sizeLine := by rw [List.size_toArray, List.size_toArray]; omega
  have hlong : ¬ (!its.toArray.isEmpty && Builtin.List.listTooLong (its.toArray.size + its2.toArray.size)) = true := by
    rw [notLongL hsz, Bool.and_false]
    exact Bool.false_ne_true
  refine call_meets F.slot_list_extend ⟨_, e, rfl⟩ F.entry_list_extend (F.args_list_extend_2 _ _)
    (AutoSeq1.list_extend_list_list_0 l its.toArray n b its2.toArray n2 hlong (by rw [List.size_toArray]; omega) (by omega)) ⟨e, e2, ?_⟩
  refine ⟨.non, _, I.lset (its' := its ++ its2) hH e (by simp) (r.append r2) ?_, rfl, q⟩
  rw [List.length_append]
  omega

def rPop : V → List V → Hp → VK → Prop := fun x vs H Q => ∃ l xs y, x = .ref l ∧ vs = [] ∧ H l = some (.lst xs) ∧ xs[xs.length - 1]? = some y ∧ Q y (upd H l (.lst xs.dropLast))
def rPopAt : V → List V → Hp → VK → Prop := fun x vs H Q => ∃ l xs i k y, x = .ref l ∧ vs = [.int i] ∧ H l = some (.lst xs) ∧ -(2 ^ 63) ≤ i ∧ i < 2 ^ 63 ∧ seqIndex? i xs.length = some k ∧ xs[k]? = some y ∧ Q y (upd H l (.lst (xs.eraseIdx k)))
theorem mt_popAt : MtM X "list.pop" rPopAt := by
  intro pins s σ H x vs v us Q I rx rv h
  obtain ⟨l, xs, i, k, y, rfl, rfl, hH, h1, h2, hk, hy, q⟩ := h
  cases rx
  obtain ⟨u, rfl, ru⟩ := rv.one
  obtain ⟨t, rfl⟩ := ru
  obtain ⟨z, its, n, r, hl, e⟩ := I.lstM hH
  obtain ⟨w, hw, rw'⟩ := r.get hy
  refine call_meets F.slot_list_pop ⟨_, e, rfl⟩ F.entry_list_pop (F.args_list_pop_2 _ _)
    (MeetsSeq.list_pop_at l its.toArray n i t k w (fitsIndex_both h1 h2) (by rw [List.size_toArray, ← hl]; exact hk) (by rw [← Array.getElem?_toList]; exact hw) (by rw [List.size_toArray]; omega)) ⟨e, ?_⟩
  refine ⟨y, _, I.lset (its' := its.eraseIdx k) hH e ?_ (r.eraseIdx k) ?_, rw', q⟩
  · show its.toArray.eraseIdxIfInBounds k = (its.eraseIdx k).toArray
    rw [List.eraseIdxIfInBounds_toArray]
  · have := len_erase xs k
    omega

def rReverse : V → List V → Hp → VK → Prop := fun x vs H Q => ∃ l xs, x = .ref l ∧ vs = [] ∧ H l = some (.lst xs) ∧ Q .non (upd H l (.lst xs.reverse))
def rClear : V → List V → Hp → VK → Prop := fun x vs H Q => ∃ l xs, x = .ref l ∧ vs = [] ∧ H l = some (.lst xs) ∧ Q .non (upd H l (.lst []))
/-! ### list + list, list += list, list * int -/
def rCat : R2 := fun x y H Q => ∃ l b xs zs, x = .ref l ∧ y = .ref b ∧ H l = some (.lst xs) ∧ H b = some (.lst zs) ∧ xs.length + zs.length ≤ sizeLine ∧ ∀ p, H p = none → Q (.ref p) (upd H p (.lst (xs ++ zs)))
/-- a list times an int (a negative one is nothing) -/
def rRep : R2 := fun x y H Q => ∃ l k xs, x = .ref l ∧ y = .int k ∧ H l = some (.lst xs) ∧ -(2 ^ 63) ≤ k ∧ k < 2 ^ 63 ∧ xs.length * k.toNat ≤ sizeLine ∧
  ∀ p, H p = none → Q (.ref p) (upd H p (.lst (List.replicate k.toNat xs).flatten))
/-! ### del xs[i] -/
end

/-! ### xs[a:b] = ys -/
section
variable {prog : Program} {w : World} {A : Around} {E : Value → Shared → Prop} {s : Shared}
end

section
variable {X : Cx}
end
end L2

namespace Att
open PySem PySem.W PySem.Calls PyProof.Rows

/-! ### the script -/
theorem ints_of_wellAll {P : Params} {h : Heap} : ∀ (ns : List Int) (vs : List Value), WellAll P h vs (ns.map WData.int) → IntsAre vs ns := by
  intro ns
  induction ns with
  | nil =>
    intro vs w
    rw [List.map_nil] at w
    cases w
    exact .nil
  | cons n ns ih =>
    intro vs w
    rw [List.map_cons] at w
    cases w with
    | cons a b =>
      cases a
      exact .cons _ _ (ih _ b)

theorem script_of {l : OpenLaw} {n : Nat} (hn : l.most = some n) {P : Params} {h : Heap} {args : List WData} {vals : List Value}
    (hpre : l.row.toRowW.claim.pre args = true) (hwl : WellAll P h vals args) :
    ∃ a vs ns, vals = [Value.ref a] ∧ args = [WData.list (ns.map WData.int)] ∧ h.get? a = some { cls := .type "list", data := .seq vs.toArray } ∧ IntsAre vs ns ∧ ns.length ≤ n := by
  have hsh : WShape.hasAll [] args [.list .int] = true := (pre_splitW hpre).1
  have hc : l.pre.holds [] { args := args } = true := (pre_splitW hpre).2
  obtain ⟨d, r, rfl, h1, h2⟩ := hasAllW_cons hsh
  obtain rfl := hasAllW_nil h2
  obtain ⟨xs, rfl, h3⟩ := hasW_list h1
  obtain ⟨ns, rfl⟩ := items_int h3
  have hlen : ns.length ≤ n := by
    unfold OpenLaw.pre at hc
    have h4 : (WTm.not (.lt (.lit (.int (n : Int))) (.len (.arg 0)))).holds [] { args := [.list (ns.map .int)] } = true := by
      have h4 := (holds_andW hc).1
      rw [hn] at h4
      exact h4
    have h5 := condW_of h4 (w_not (w_lt w_lit (w_len_list (w_arg rfl))))
    rw [List.length_map] at h5
    refine Nat.le_of_not_lt fun q => ?_
    have q' : (n : Int) < ((ns.length : Nat) : Int) := by omega
    first
      | (rw [decide_eq_true q'] at h5; exact absurd h5 (by decide))
      | (simp at h5; omega)
  cases hwl with
  | cons w1 w2 =>
    cases w2
    cases w1 with
    | list ho hall => exact ⟨_, _, ns, rfl, rfl, ho, ints_of_wellAll ns _ hall, hlen⟩

theorem post_true (l : OpenLaw) (args : List WData) : l.row.toRowW.claim.post args (.bool true) args = true :=
  postW_of (r := l.row.toRowW) (X := (true == true))
    (show WShape.has [] (.bool true) .bool = true by first | rfl | decide | simp [WShape.has, WShape.arms, WShape.armsAll])
    (show (WTm.eq .res (.lit (.bool true))).value [] { args := args, res := some (.bool true), after := args } = some (.bool (true == true)) from w_eq_bool (w_res rfl) w_lit) rfl

/-! ### the attachment: holds_open's last premise (the goal 'hc' behind k_head) from a wpAny of the law's body -/
/-- the same from a codeAny of the CALL (for a layer whose function contracts speak of calls) -/
theorem attach_call {l : OpenLaw} {n : Nat} {q : Program} {loose : List Str} {XP : (Str → Option Value) → Heap → Prop} {YP : World → Heap → Prop} {d : DefRec}
    (hn : l.most = some n) (hdf : d.params.defaults = [])
    (call : ∀ (w : World) (s₀ s₁ : Shared) (mg mb : Str → Option Value) (fa : Addr) (o : Obj) (pm cd doc : Value) (a : Addr) (vs : List Value) (ns : List Int),
      Ground q loose [] XP w s₀ mg mb s₁.heap → YP w s₁.heap →
      s₁.heap.get? fa = some o → o.data = .func (docDef d.name d.params d.body d.scope pm cd doc) → s₁.heap.CodeRec cd d.name → mg d.name = some (.ref fa) →
      s₁.heap.get? a = some { cls := .type "list", data := .seq vs.toArray } → IntsAre vs ns → ns.length ≤ n → s₁.gens = #[] →
      codeAny (model l.prog w) callerA (.call (.ref fa) ⟨[.ref a], []⟩) (fun r s' => r = .ok (.ret (.bool true)) ∧ OldK s₁.heap s'.heap ∧ s'.os = s₁.os ∧ AllBare s'.gens) s₁) :
    WalkO q loose XP YP l.row.toRowW d [] (fun f vs => PySem.call f vs) := by
  intro w s₀ s₁ mg mb G Y fa o pm cd doc dV kV ho hd hcd hD hmg hg args vals as hpre hlay hrd hwl hlo
  obtain rfl : dV = .none := Dflts.none hD hdf
  obtain rfl : kV = .none := Dflts.noKw hD
  obtain ⟨a, vs, ns, rfl, rfl, hobj, hints, hlen⟩ := script_of hn hpre hwl
  refine enter_call (codeAny_mono (call w s₀ s₁ mg mb fa o pm cd doc a vs ns G Y ho (fd_plain hd) hcd hmg hobj hints hlen hg) fun r s' hq => ?_)
  obtain ⟨rfl, h2, h3, h4⟩ := hq
  exact ⟨.inl ⟨.bool true, .bool true, [], rfl, fun _ => rfl, .bool true, post_true l _, fun _ => ⟨List.Pairwise.nil, fun _ hm => (nomatch hm)⟩⟩, h2, h3, h4⟩

/-! ### rules over ANY heap (no ledger) from facts about the written part K: the library's own take a ledger (News) for what they write -/
section
variable {prog : Program} {w : World} {A : Around} {E : Value → Shared → Prop} {s : Shared} {K : Frag}

/-! the whole heap as the ledger: makes every rule that writes through a ledger a rule over any heap -/
def noObjs (h : Heap) : Heap := { h with objs := #[] }
def ledger (h : Heap) (L d : Addr) : List (Addr × Obj) := (List.range h.objs.size).filterMap fun a => if a = L ∨ a = d then none else (h.get? a).map fun o => (a, o)
end
end Att

namespace L2
open PySem PySem.Spec PyProof.Rows

theorem vals_ints : ∀ {vs : List Value} {ns : List Int}, IntsAre vs ns → Vals (ns.map V.int) vs
  | _, _, .nil => .nil
  | _, _, .cons n t h => .cons ⟨t, rfl⟩ (vals_ints h)

/-- nothing is tracked but the script, known to the object (or it is an object of the module) -/
def Only (H : Hp) : Prop := ∀ b, H b = none ∨ ∃ o xs, H b = some (.frz o (.lst xs))

/-- THE HEAD: the law's promise, at the heap behind the top. F, the promise of the law's def, may use that base is part of the heap (so K.In base, base.Ns mainGlobals mg stand in Mod) -/
theorem law_call {P : Program} {w : World} {K : PySem.W.Frag} {mg mb : Str → Option Value} {CX : CXT} {k : Nat} {fa a : Addr} {fd : FuncData} {x : Str} {sp : Sp} {s₁ : Shared} {vs : List Value} {ns : List Int}
    (KX : K.In s₁.heap) (hns : s₁.heap.Ns mainGlobals mg) (hb : s₁.heap.Ns builtinsNs mb) (hbb : ∀ x : Str, x ≠ "__name__" → mb x = bootBuiltins x) (hlim : s₁.heap.NoLimit) (hg : s₁.gens = #[])
    (ha : s₁.heap.get? a = some { cls := .type "list", data := .seq vs.toArray }) (hi : IntsAre vs ns) (hl : ns.length ≤ sizeLine) (hr : Room k callerA)
    (F : ∀ base : Heap, K.In base → base.Ns mainGlobals mg → FnOk P w K mg base CX k fa fd [x] sp) (hbind : ∀ (s : Shared) (u : Value), BindsTo s fd ⟨[u], []⟩ [(x, u)])
    (hsp : ∀ H : Hp, Only H → SqL K H a (ns.map V.int) → sp [.ref a] H (fun v _ => v = .bl true) fun _ _ _ => False)
    (hCX : ∀ H e s', CX [] H s₁ (fun _ _ _ => False) e s' → False) :
    codeAny (model P w) callerA (.call (.ref fa) ⟨[.ref a], []⟩) (fun r s' => r = .ok (.ret (.bool true)) ∧ OldK s₁.heap s'.heap ∧ s'.os = s₁.os ∧ AllBare s'.gens) s₁ := by
  have rv := vals_ints hi
  have lenV := hi.length
  -- from an abstract heap in which nothing but the script may be tracked
  have core : ∀ H : Hp, Only H → SqL K H a (ns.map V.int) → HOk P w H s₁.heap → (∀ b, H b ≠ none → b = a) → (H a ≠ none → K.lookup a = none) →
      codeAny (model P w) callerA (.call (.ref fa) ⟨[.ref a], []⟩) (fun r s' => r = .ok (.ret (.bool true)) ∧ OldK s₁.heap s'.heap ∧ s'.os = s₁.os ∧ AllBare s'.gens) s₁ := by
    intro H hO hS hok hA hK
    have base_of : ∀ {b : Addr} {o : Obj}, s₁.heap.get? b = some o → H b = none → (hidT s₁.heap H).get? b = some o := fun e n => hidT_get e n
    have noA : ∀ {b : Addr} {o : Obj} {es : Array DictEntry} {ep : Nat}, s₁.heap.get? b = some o → o.data = .dict es ep → H b = none := fun {b o es ep} e d => by
      cases q : H b with
      | none => rfl
      | some u =>
        have e' : b = a := hA b (by rw [q]; simp)
        subst e'
        rw [ha] at e; cases e
        have d' : Data.seq vs.toArray _ = Data.dict es ep := d
        cases d'
    have nsK : ∀ {b : Addr} {m : Str → Option Value}, s₁.heap.Ns b m → (hidT s₁.heap H).Ns b m := fun {b m} ⟨o, es, ep, e, d, r⟩ => ⟨o, es, ep, base_of e (noA e d), d, r⟩
    have hKb : K.In (hidT s₁.heap H) := fun b o e => base_of (KX b o e) (by
      cases q : H b with
      | none => rfl
      | some u =>
        have e' : b = a := hA b (by rw [q]; simp)
        subst e'
        rw [hK (by rw [q]; simp)] at e; cases e)
    have hM : Mod K mg (hidT s₁.heap H) := ⟨hKb, nsK hns, ⟨mb, nsK hb, hbb⟩, let ⟨mc, h1, h2⟩ := hlim; ⟨mc, nsK h1, h2⟩⟩
    have e0 : Env0 P w K mg (hidT s₁.heap H) callerA [] s₁ H := ⟨rfl, hM, fun b o e => of_hidT e, Nat.le_of_eq (hidT_size _ _), trivial, fun b hb => absurd (show b ∈ ([] : List Addr) from hb) (by simp), hok, .of_eq hg⟩
    refine codeAny_mono ((F _ hKb (nsK hns)).run callerA [] s₁ H ⟨[.ref a], []⟩ [.ref a] [.ref a] _ _ hr e0 (hbind s₁ (.ref a)) (.cons rfl .nil) (hsp H hO hS)) fun r s' h => ?_
    cases r with
    | error e => exact (hCX H e s' h).elim
    | ok fl =>
      cases fl with
      | next => exact False.elim h
      | brk => exact False.elim h
      | cont => exact False.elim h
      | ret u =>
        obtain ⟨v, H', os, bare, un, hok', r', q⟩ := h
        have q' : v = .bl true := q
        subst q'
        obtain rfl : u = Value.bool true := r'
        refine ⟨rfl, OldK.of_keep fun b o e => ?_, os, bare⟩
        cases q : H b with
        | none => exact un.keep b o e q (by intro z; exact absurd (show b ∈ ([] : List Addr) from z) (by simp)) (by simp)
        | some u =>
          rcases hO b with z | ⟨ob, xs, z⟩
          · rw [q] at z; cases z
          · have z2 := un.frzs b ob _ z
            obtain ⟨e1, _⟩ := hok b _ z
            obtain ⟨e2, _⟩ := hok' b _ z2
            rw [e] at e1; cases e1
            exact e2
  cases hk : K.lookup a with
  | some o =>
    -- the script is one of the module's own objects
    have e := KX a o hk
    rw [ha] at e
    cases e
    refine core (fun _ => none) (fun _ => .inl rfl) (.inr ⟨_, vs.toArray, _, hk, rfl, rfl, rfl, by rw [List.size_toArray, lenV]; exact hl, by simpa using rv⟩) (fun b u z => by have z' : (none : Option HO) = some u := z; cases z') (fun b z => absurd rfl z) fun z => absurd rfl z
  | none =>
    refine core (fun b => if b = a then some (.frz { cls := .type "list", data := .seq vs.toArray } (.lst (ns.map V.int))) else none) (fun b => ?_) (.inl (.inr ⟨{ cls := .type "list", data := .seq vs.toArray }, if_pos rfl⟩)) (fun b u z => ?_) (fun b z => ?_) fun _ => hk
    · by_cases hb : b = a
      · exact .inr ⟨_, _, if_pos hb⟩
      · exact .inl (if_neg hb)
    · by_cases hb : b = a
      · have z' := (if_pos hb).symm.trans z
        cases z'
        subst hb
        exact ⟨ha, by rw [List.length_map]; exact hl, vs, _, rv, ha⟩
      · have z' := (if_neg hb).symm.trans z
        cases z'
    · by_cases hb : b = a
      · exact hb
      · exact absurd (if_neg hb) z
end L2

namespace L2
open PySem PySem.Spec PyProof.Rows

abbrev KOf {K : PySem.W.Frag} {h : Heap} (_ : K.In h) : PySem.W.Frag := K

/-- the goal that k_head leaves (case hc), from the law's promise. F gives the function object fd (K's own) once, then the promise over every base -/
theorem walk_of {l : PySem.W.OpenLaw} {n k : Nat} {q : Program} {loose : List Str} {XP : (Str → Option Value) → Heap → Prop} {YP : World → Heap → Prop} {d : DefRec} {K : Params → PySem.W.Frag} {CX : World → CXT} {sp : World → Sp} {x : Str}
    (hn : l.most = some n) (hn2 : n ≤ sizeLine) (hdf : d.params.defaults = []) (hr : Room k callerA)
    (hY : ∀ (w : World) (h : Heap), YP w h → (K w.params).In h)
    (F : ∀ (w : World) (mg : Str → Option Value) (fa : Addr) (h : Heap), (K w.params).In h → h.Ns mainGlobals mg → mg d.name = some (.ref fa) →
      ∃ fd : FuncData, (∀ (s : Shared) (u : Value), BindsTo s fd ⟨[u], []⟩ [(x, u)]) ∧
        ∀ base : Heap, (K w.params).In base → base.Ns mainGlobals mg → FnOk l.prog w (K w.params) mg base (CX w) k fa fd [x] (sp w))
    (hsp : ∀ (w : World) (H : Hp) (a : Addr) (ns : List Int), ns.length ≤ n → Only H → SqL (K w.params) H a (ns.map V.int) → sp w [.ref a] H (fun v _ => v = .bl true) fun _ _ _ => False)
    (hCX : ∀ (w : World) (H : Hp) (s : Shared) (e : Value) (s' : Shared), CX w [] H s (fun _ _ _ => False) e s' → False) :
    PySem.W.WalkO q loose XP YP l.row.toRowW d [] (fun f vs => PySem.call f vs) := by
  refine Att.attach_call hn hdf fun w s₀ s₁ mg mb fa o pm cd doc a vs ns G Y ho hd hcd hmg hobj hints hlen hg => ?_
  have KX := hY w _ Y
  obtain ⟨fd, hb, hF⟩ := F w mg fa _ KX G.T.g hmg
  exact law_call KX G.T.g G.T.b G.T.builtins G.T.nolimit hg hobj hints (Nat.le_trans hlen hn2) hr hF hb (fun H hO hS => hsp w H a ns hlen hO hS) fun H e s' => hCX w H s₁ e s'
end L2



/-! SHORT WORDS over the layer: a def of the text, its body, what a loop and a test want. -/
namespace L2
open PySem PySem.Spec PyProof.Rows

/-! ### the text by places -/
/-- the j-th statement of a class's body -/
def inClass (s : Stmt) (j : Nat) : Stmt := match s with
  | .ClassDef _ _ _ body _ _ _ _ _ _ _ => body.getD j (.Pass ⟨0, 0, 0, 0⟩)
  | _ => .Pass ⟨0, 0, 0, 0⟩
def defArgs (s : Stmt) : Arguments := match s with
  | .FunctionDef _ a _ _ _ _ _ _ _ _ => a
  | _ => { posonlyargs := [], args := [], vararg := none, kwonlyargs := [], kw_defaults := [], kwarg := none, defaults := [] }
def defBody (s : Stmt) : List Stmt := match s with
  | .FunctionDef _ _ b _ _ _ _ _ _ _ => b
  | _ => []
def defScope (s : Stmt) : Scope := match s with
  | .FunctionDef _ _ _ _ _ _ sc _ _ _ => sc
  | _ => { kind := .function, names := [], isGenerator := false, isCoroutine := false }

/-! ### no exception leaves a def -/
abbrev CX0 : CXT := fun _ _ _ _ _ _ => False
abbrev E0 : XK := fun _ _ _ => False
theorem pass0 {X : Cx} : Passes CX0 X E0 := fun _ _ _ _ _ _ _ h => h.elim

/-! ### a def (or method) of the text as it stands behind the top -/
structure Fun (K : PySem.W.Frag) (x qual : Str) (st : Stmt) (f : Addr) (fd : FuncData) : Prop where
  ex : ∃ (oc : Value) (od : Option Addr) (kV doc pm : Value) (an : Option Addr) (cdv ct : Value) (osl : Array (Option Value)),
    fd = PySem.W.fnOf x qual (defArgs st) (defBody st) (defScope st) .none kV doc pm an cdv ct ∧ K.lookup f = some ⟨oc, od, .func fd, osl⟩ ∧ PySem.W.codeIn K cdv qual = true
  kp : PySem.W.keepIn K (.ref f) = true
section
variable {P : Program} {w : World} {K : PySem.W.Frag} {mg : Str → Option Value} {base : Heap}
/-- THE RULE for a def: its body as a term of rules, and the reading of that term -/
theorem Fun.ok {x qual : Str} {st : Stmt} {f : Addr} {fd : FuncData} {N ps : List Str} {k : Nat} {sp : Sp} (F : Fun K x qual st f fd) (S : FnScope N ps (defScope st)) (len : ∀ vs H Q E, sp vs H Q E → vs.length = ps.length)
    (hbody : ∀ (cdv : Value) (A : Around) (outer : List Env) (s : Shared) (H : Hp) (vs : List V) (Q : VK) (E : XK), Room k (A.deeper (envOfC qual (defScope st) s.heap.objs.size f cdv)) → sp vs H Q E →
      ∃ t, PSs (cxOf CX0 P w K mg base N qual (defScope st) f cdv A outer s H E).nox (defBody st) t ∧ t { nx := fun _ H' => Q .non H', rt := Q } (start N vs) H) : FnOk P w K mg base CX0 (k + 1) f fd ps sp := by
  obtain ⟨oc, od, kV, doc, pm, an, cdv, ct, osl, rfl, lk, hcd⟩ := F.ex
  refine fn_of lk hcd S len fun A outer s H vs Q E hr hsp => ?_
  obtain ⟨t, h, q⟩ := hbody cdv A outer s H vs Q E hr hsp
  exact ⟨t, h.nox, q⟩
/-- how its arguments bind (no defaults): h is «fun _ _ _ _ _ _ us hl => match us, hl with | [_, _], _ => rfl», one _ a parameter -/
theorem Fun.binds {x qual : Str} {st : Stmt} {f : Addr} {fd : FuncData} {ps : List Str} (F : Fun K x qual st f fd)
    (h : ∀ (kV doc pm : Value) (an : Option Addr) (cdv ct : Value) (us : List Value), us.length = ps.length → bindArgs (PySem.W.fnOf x qual (defArgs st) (defBody st) (defScope st) .none kV doc pm an cdv ct) ⟨us, []⟩ = pure (ps.zip us)) : Binds K fd ps [] := by
  obtain ⟨oc, od, kV, doc, pm, an, cdv, ct, osl, rfl, lk, hcd⟩ := F.ex
  exact .all (h kV doc pm an cdv ct)
theorem fun_mk {x qual : Str} {st : Stmt} {f : Addr} {oc : Value} {od an : Option Addr} {osl : Array (Option Value)} {kV doc pm cdv ct : Value} (l : K.lookup f = some ⟨oc, od, .func (PySem.W.fnOf x qual (defArgs st) (defBody st) (defScope st) .none kV doc pm an cdv ct), osl⟩)
    (c : PySem.W.codeIn K cdv qual = true) (k : PySem.W.keepIn K (.ref f) = true) : Fun K x qual st f (PySem.W.fnOf x qual (defArgs st) (defBody st) (defScope st) .none kV doc pm an cdv ct) := ⟨⟨oc, od, kV, doc, pm, an, cdv, ct, osl, rfl, l, c⟩, k⟩
end
/-! ### expressions in short: the name that stands in the i-th slot -/
section
variable {X : Cx}
theorem pv (i : Nat) {x : Str} {pos : Pos} (hN : X.N[i]? = some x := by rfl) (hv : Vis X.env.scope x := by first | exact Or.inl rfl | exact Or.inr (Or.inl rfl) | exact Or.inr (Or.inr rfl)) (hd : (x == ("__debug__" : Str)) = false := by decide)
    (hcd : (x == ("__classdict__" : Str)) = false := by decide) : PE X (.Name x pos) (tVar i) := pe_var hN hv hd hcd
end

/-! ### tests -/
theorem iteF {A B : Prop} (h : B) : if false = true then A else B := by
  rw [if_neg Bool.false_ne_true]
  exact h
theorem iteT {A B : Prop} (h : A) : if true = true then A else B := by
  rw [if_pos rfl]
  exact h
theorem ite2 {c A B : Prop} [Decidable c] (h1 : c → A) (h2 : ¬ c → B) : if c then A else B := by
  by_cases h : c
  · rw [if_pos h]
    exact h1 h
  · rw [if_neg h]
    exact h2 h
theorem iteNS {c A B : Prop} [Decidable c] (hc : c) (h : B) : if (!decide c) = true then A else B := by
  rw [decide_eq_true hc]
  exact iteF h

/-! ### heaps -/
/-- all that was tracked is as it was -/
def Same (H H' : Hp) : Prop := ∀ b o, H b = some o → H' b = some o
theorem Same.refl (H : Hp) : Same H H := fun _ _ h => h
theorem Same.trans {H H1 H2 : Hp} (a : Same H H1) (b : Same H1 H2) : Same H H2 := fun c o h => b c o (a c o h)
theorem Same.seq {K : PySem.W.Frag} {H H' : Hp} {a : Addr} {xs : List V} (e : Same H H') (h : SqL K H a xs) : SqL K H' a xs := by
  rcases h with (h | ⟨o, h⟩) | h
  · exact .inl (.inl (e _ _ h))
  · exact .inl (.inr ⟨o, e _ _ h⟩)
  · exact .inr h

end L2
namespace L2
open PySem PySem.Spec PyProof.Rows

theorem closure_fold (env : Env) : ∀ (names : List (Str × NameKind)) (cs : List (Str × Addr)), (∀ x, (x, NameKind.free) ∈ names → ∃ c, env.cells.lookup x = some c) →
    ∃ cl, (forIn names cs fun (p : Str × NameKind) (cs : List (Str × Addr)) => (if (p.2 == NameKind.free) = true then (do let c ← cellOf env p.1; pure (ForInStep.yield ((p.1, c) :: cs))) else pure (ForInStep.yield cs) : Sem (ForInStep (List (Str × Addr))))) = pure cl ∧
      (∀ x c, cl.lookup x = some c → env.cells.lookup x = some c ∨ cs.lookup x = some c) ∧ (∀ x, (x, NameKind.free) ∈ names → ∃ c, cl.lookup x = some c) ∧ (∀ x c, cs.lookup x = some c → ∃ d, cl.lookup x = some d)
  | [], cs, _ => ⟨cs, by simp, fun _ _ h => .inr h, (fun _ h => nomatch h), fun x c h => ⟨c, h⟩⟩
  | (n, k) :: r, cs, h => by
    by_cases hk : k = NameKind.free
    · subst hk
      obtain ⟨c, hc⟩ := h n (List.mem_cons_self ..)
      obtain ⟨cl, e, a, b, d⟩ := closure_fold env r ((n, c) :: cs) (fun x hx => h x (List.mem_cons_of_mem _ hx))
      have hcell : cellOf env n = pure c := by unfold cellOf; rw [hc]
      refine ⟨cl, ?_, fun x c' hx => ?_, fun x hx => ?_, fun x c' hx => ?_⟩
      · rw [List.forIn_cons]
        simp only [beq_self_eq_true, if_true, hcell, pure_bind]
        exact e
      · rcases a x c' hx with q | q
        · exact .inl q
        · rw [List.lookup_cons] at q
          by_cases hxn : (x == n) = true
          · rw [hxn] at q
            have hx' : x = n := by simpa using hxn
            subst hx'
            have : c = c' := by simpa using q
            subst this
            exact .inl hc
          · rw [Bool.eq_false_iff.mpr hxn] at q
            exact .inr q
      · rcases List.mem_cons.mp hx with q | q
        · have hx' : x = n := congrArg Prod.fst q
          subst hx'
          exact d x c (by rw [List.lookup_cons]; simp)
        · exact b x q
      · have : ∃ d', ((n, c) :: cs).lookup x = some d' := by
          rw [List.lookup_cons]
          by_cases hxn : (x == n) = true
          · rw [hxn]; exact ⟨c, rfl⟩
          · rw [Bool.eq_false_iff.mpr hxn]; exact ⟨c', hx⟩
        obtain ⟨d', hd'⟩ := this
        exact d x d' hd'
    · obtain ⟨cl, e, a, b, d⟩ := closure_fold env r cs (fun x hx => h x (List.mem_cons_of_mem _ hx))
      have hkf : (k == NameKind.free) = false := by simpa using hk
      refine ⟨cl, ?_, a, fun x hx => ?_, d⟩
      · rw [List.forIn_cons]
        simp only [hkf, Bool.false_eq_true, if_false, pure_bind]
        exact e
      · rcases List.mem_cons.mp hx with q | q
        · exact absurd (congrArg Prod.snd q).symm hk
        · exact b x q
theorem closure_ok (env : Env) (scope : Scope) (h : ∀ x, (x, NameKind.free) ∈ scope.names → ∃ c, env.cells.lookup x = some c) :
    ∃ cl, closureFor scope env = pure cl ∧ (∀ x c, cl.lookup x = some c → env.cells.lookup x = some c) ∧ (∀ x, (x, NameKind.free) ∈ scope.names → ∃ c, cl.lookup x = some c) := by
  obtain ⟨cl, e, a, b, _⟩ := closure_fold env scope.names [] h
  refine ⟨cl, ?_, fun x c hx => (a x c hx).elim id (fun z => by simp at z), b⟩
  unfold closureFor
  simp only [bind_pure]
  exact e

/-- the context of a comprehension's block -/
def cxC (X : Cx) (scope : Scope) (N' : List Str) (cl : List (Str × Addr)) (C : Addr) (s₀ : Shared) (H₀ : Hp) (fp : List Addr) (pn : List (Addr × Obj)) : Cx :=
  { X with N := N', s₀ := s₀, H₀ := H₀, env := compEnvC scope cl C X.env, outer := X.stack, ex := fp, fn := fun _ => false, pn := pn, xe := fun _ _ => False }
/-- which names of the block are the frame's own slots -/
inductive Cap (X : Cx) (scope : Scope) : List (Option Nat) → List Str → Prop
  | nil : Cap X scope [] []
  | own {x src N'} : Cap X scope src N' → Cap X scope (none :: src) (x :: N')
  | cap {x i src N'} : X.N[i]? = some x → scope.names.lookup x = some NameKind.free → (X.env.scope.names.lookup x = some NameKind.cell ∨ X.env.scope.names.lookup x = some NameKind.free) → Cap X scope src N' → Cap X scope (some i :: src) (x :: N')
def capSt (src : List (Option Nat)) (σ : St) : St := src.map fun o => match o with | none => none | some i => σ.getD i none
theorem Cap.length {X : Cx} {scope : Scope} : ∀ {src : List (Option Nat)} {N' : List Str}, Cap X scope src N' → src.length = N'.length
  | _, _, .nil => rfl
  | _, _, .own h => congrArg (· + 1) h.length
  | _, _, .cap _ _ _ h => congrArg (· + 1) h.length
theorem Cap.get {X : Cx} {scope : Scope} {σ : St} : ∀ {src : List (Option Nat)} {N' : List Str}, Cap X scope src N' → ∀ (j : Nat) (x : Str) (v : V), N'[j]? = some x → (capSt src σ)[j]? = some (some v) →
    ∃ i : Nat, X.N[i]? = some x ∧ σ[i]? = some (some v) ∧ scope.names.lookup x = some NameKind.free ∧ (X.env.scope.names.lookup x = some NameKind.cell ∨ X.env.scope.names.lookup x = some NameKind.free)
  | _, _, .nil, j, x, v, h, _ => by simp at h
  | _, _, .own h, 0, x, v, _, e => by simp [capSt] at e
  | _, _, .own h, j + 1, x, v, e1, e2 => h.get j x v (by simpa using e1) (by simpa [capSt] using e2)
  | _, _, .cap (x := y) (i := i) hN hf hk h, 0, x, v, e1, e2 => by
    have ex : y = x := by simpa using e1
    subst ex
    refine ⟨i, hN, ?_, hf, hk⟩
    simp only [capSt, List.map_cons, List.getElem?_cons_zero, Option.some.injEq] at e2
    rw [List.getD_eq_getElem?_getD] at e2
    cases q : σ[i]? with
    | none => rw [q] at e2; simp at e2
    | some o => rw [q] at e2; simp at e2; rw [e2]
  | _, _, .cap hN hf hk h, j + 1, x, v, e1, e2 => h.get j x v (by simpa using e1) (by simpa [capSt] using e2)

theorem lookup_relabel (env : Env) (x : Str) : ∀ {names : List (Str × NameKind)},
    (names.map fun (n, k) => if (k == NameKind.free && env.scope.kind == .function && env.kindOf n == some .cell) then (n, NameKind.cell) else (n, k)).lookup x =
      (names.lookup x).map fun k => if (k == NameKind.free && env.scope.kind == .function && env.kindOf x == some .cell) then NameKind.cell else k
  | [] => rfl
  | (n, k) :: r => by
    have ih := @lookup_relabel env x r
    rw [List.map_cons]
    dsimp only
    by_cases hx : (x == n) = true
    · have e : x = n := by simpa using hx
      subst e
      by_cases hc : (k == NameKind.free && env.scope.kind == .function && env.kindOf x == some .cell) = true
      · rw [if_pos hc, List.lookup_cons, List.lookup_cons, hx]
        simp only [Option.map_some]
        rw [if_pos hc]
      · rw [if_neg hc, List.lookup_cons, List.lookup_cons, hx]
        simp only [Option.map_some]
        rw [if_neg hc]
    · have hx' := Bool.eq_false_iff.mpr hx
      by_cases hc : (k == NameKind.free && env.scope.kind == .function && env.kindOf n == some .cell) = true
      · rw [if_pos hc]; simp only [List.lookup_cons, hx']; exact ih
      · rw [if_neg hc]; simp only [List.lookup_cons, hx']; exact ih
theorem lookup_mem_free {names : List (Str × NameKind)} {x : Str} (h : names.lookup x = some NameKind.free) : (x, NameKind.free) ∈ names := PySem.mem_of_lookup h

section
variable {X : Cx}
/-- the block's first state -/
theorem inv_comp {scope : Scope} {N' : List Str} {src : List (Option Nat)} {cl : List (Str × Addr)} {pins : List (Addr × Obj)} {σ : St} {H : Hp} {s s' : Shared} {h' : Heap} {tk : Nat} {fp : List Addr} {m : Str → Option Value}
    (hk : scope.kind = .function) (hcell : ∀ y ∈ scope.names, y.2 ≠ .cell) (hcap : Cap X scope src N')
    (a : ∀ x c, cl.lookup x = some c → X.env.cells.lookup x = some c) (b : ∀ x, (x, NameKind.free) ∈ scope.names → ∃ c, cl.lookup x = some c)
    (I : Inv X pins σ H s) (hf : ∀ b ∈ fp, FpOk X pins H b) (hfl : ∀ b ∈ fp, b < s.heap.objs.size) (es' : s' = { s with heap := h', toks := tk })
    (keep : ∀ b o, s.heap.get? b = some o → h'.get? b = some o) (hn : h'.Ns s.heap.objs.size m) :
    Inv (cxC X scope N' cl s.heap.objs.size s H fp (X.pn ++ pins)) [] (capSt src σ) H s' := by
  subst es'
  have kindOf : ∀ x, (compEnvC scope cl s.heap.objs.size X.env).kindOf x = (scope.names.lookup x).map fun k => if (k == NameKind.free && X.env.scope.kind == .function && X.env.kindOf x == some .cell) then NameKind.cell else k := fun x => lookup_relabel X.env x
  have freeOf : ∀ x, ((compEnvC scope cl s.heap.objs.size X.env).kindOf x = some .cell ∨ (compEnvC scope cl s.heap.objs.size X.env).kindOf x = some .free) → scope.names.lookup x = some .free := fun x h => by
    rw [kindOf] at h
    cases q : scope.names.lookup x with
    | none => rw [q] at h; simp at h
    | some k =>
      rw [q] at h
      by_cases hkf : k = NameKind.free
      · rw [hkf]
      · have hkf' : (k == NameKind.free) = false := by simpa using hkf
        simp only [Option.map_some, hkf', Bool.false_and, Bool.false_eq_true, if_false] at h
        rcases h with h | h
        · exact absurd (Option.some.inj h) (hcell _ (PySem.mem_of_lookup q))
        · exact absurd (Option.some.inj h) hkf
  refine ⟨⟨I.ok.mod, hk, I.ok.glob, I.ok.blt, Nat.le_refl _, fun x y c h1 h2 => I.ok.inj x y c (a x c h1) (a y c h2), fun x hx => b x (lookup_mem_free (freeOf x hx)), (fun x c z _ => nomatch z), I.ok.hd, I.ok.frames, .inl rfl, fun b' hb => ?_, I.bs, Nat.le_trans I.ok.bsz I.sz, fun b' o e hb => ?_, fun b' hb z => ?_, I.stack, I.stkFree⟩,
    rfl, I.bare, Un.kept keep, ⟨m, hn, fun j x v h1 h2 h3 => ?_⟩, fun x c h => ?_, I.hok.fresh (Nat.le_refl _), fun x c h => I.freeC x c (a x c h), fun p hp => ?_, I.hok.kept keep, ?_⟩
  · obtain ⟨f0, f1, f2, f3, f4, f5⟩ := hf b' hb
    exact ⟨Nat.ne_of_lt (hfl b' hb), fun x c h => f4 x c (a x c h)⟩
  · obtain ⟨f0, f1, f2, f3, f4, f5⟩ := hf b' hb
    rcases f3 with z | z
    · exact I.ok.noex b' o e z
    · exact absurd (Nat.lt_of_lt_of_le (Heap.lt_size e) (Nat.le_trans I.ok.bsz z)) (Nat.lt_irrefl _)
  · obtain ⟨f0, f1, f2, f3, f4, f5⟩ := hf b' hb
    rcases List.mem_cons.mp (I.stkSub b' z) with e | e
    · exact f1 e
    · exact f2 e
  · obtain ⟨i, e1, e2, e3, e4⟩ := hcap.get j x v h1 h2
    obtain ⟨m0, hn0, hl⟩ := I.loc
    obtain ⟨u, r, l⟩ := hl i x v e1 e2 (by rcases e4 with e4 | e4; exact .inr (.inl e4); exact .inr (.inr e4))
    refine ⟨u, r, ?_⟩
    rcases l with ⟨l, _⟩ | ⟨k, c, e, z⟩
    · have l' : X.env.scope.names.lookup x = some NameKind.local := l
      rcases e4 with e4 | e4 <;> (rw [e4] at l'; cases l')
    · refine .inr ⟨?_, ?_⟩
      · show (compEnvC scope cl s.heap.objs.size X.env).kindOf x = some .cell ∨ (compEnvC scope cl s.heap.objs.size X.env).kindOf x = some .free
        rw [kindOf, e3]
        simp only [Option.map_some]
        split
        · exact .inl rfl
        · exact .inr rfl
      · obtain ⟨c', hc'⟩ := b x (lookup_mem_free e3)
        have := a x c' hc'
        rw [e] at this
        cases this
        obtain ⟨o, ho, hd⟩ := z
        exact ⟨c, hc', o, keep _ _ ho, hd⟩
  · obtain ⟨v, o, ho, hd⟩ := I.cell x c (a x c h)
    exact ⟨v, o, keep _ _ ho, hd⟩
  · have hp' : p ∈ X.pn ++ pins := by simpa [cxC] using hp
    obtain ⟨e, n, ne, nf, d⟩ := I.pin p hp'
    refine ⟨keep _ _ e, n, Nat.ne_of_lt (Heap.lt_size e), fun z => ?_, d⟩
    rcases List.mem_cons.mp (I.stkSub p.1 z) with q | q
    · exact ne q
    · exact nf q
  · show (capSt src σ).length = N'.length
    rw [← hcap.length]
    simp [capSt]
end
end L2
namespace L2
open PySem PySem.Spec PyProof.Rows

/-! ### list comprehensions of one clause -/
section
variable {prog : Program} {w : World} {A : Around} {R : Result → Shared → Prop} {s : Shared}
/-- the loop, with what goes ahead of the store -/
theorem comp_loop {elt tg iter : Expr} {ifs : List Expr} {scope : Scope} {pos : Pos} {it acc : Value} {env : Env} (J : Nat → Shared → Prop)
    (turn : ∀ n s, J n s → wpAny (model prog w) A (pyNext it) (fun r s₁ => match r with
        | none => R (.ok .next) s₁
        | some v => wpAny (model prog w) A (letOwnedTupleGo tg it v) (fun _ z₁ => wpAny (model prog w) A (assign tg env v) (fun _ s₂ =>
            wpAny (model prog w) A (forIn ifs true fun c r => if r = true then do let ok ← isTrue c env (eval c env); pure (ForInStep.yield ok) else pure (ForInStep.yield r))
              (fun ok s₃ => if ok = true then wpAny (model prog w) A (eval elt env) (fun x s₄ => wpAny (model prog w) A (call (.builtin "list.append") [acc, x]) (fun _ s₅ => ∃ m, m < n ∧ J m s₅) (fun _ _ => False) s₄) (fun _ _ => False) s₃
                else ∃ m, m < n ∧ J m s₃) (fun _ _ => False) s₂) (fun _ _ => False) z₁) (fun _ _ => False) s₁) (fun _ _ => False) s)
    (n : Nat) (h : J n s) : codeAny (model prog w) A (.compLoop (.ListComp elt [⟨tg, iter, ifs, 0⟩] scope pos) 0 it acc env) R s := by
  refine codeAny_loop rfl J (fun n s hJ => ?_) n h
  show wpAny _ A (Sem.onRaise (compTurn (.ListComp elt [⟨tg, iter, ifs, 0⟩] scope pos) 0 it acc env) (fun x => do noteFrame x env; theTreesLotGoes x)) _ _ s
  refine wpAny_noted ?_
  rw [compTurn_list]
  have no : ∀ {E : Value → Shared → Prop}, ∀ (e : Value) (s' : Shared), False → E e s' := fun _ _ f => f.elim
  refine wpAny_bind (wpAny_standAt (wpAny_bind (wpAny_mono (turn n s hJ) (fun r s₁ h₁ => ?_) no)))
  cases r with
  | none => exact wpAny_pure h₁
  | some v =>
    refine wpAny_bind (wpAny_mono h₁ (fun _ z₁ hz => ?_) no)
    refine wpAny_bind (wpAny_mono hz (fun _ s₂ h₂ => wpAny_bind (wpAny_mono h₂ (fun ok s₃ h₃ => ?_) no)) no)
    cases ok with
    | false => exact wpAny_pure ⟨rfl, h₃⟩
    | true =>
      exact wpAny_bind (wpAny_bind (wpAny_mono h₃ (fun x s₄ h₄ => wpAny_bind (wpAny_mono h₄ (fun _ s₅ h₅ => wpAny_pure (wpAny_pure ⟨rfl, h₅⟩)) no)) no))
end

/-- the clause's tests -/
def PTs (X : Cx) (ifs : List Expr) (t : TT) : Prop :=
  ∀ (pins : List (Addr × Obj)) (s : Shared) (σ : St) (H : Hp) (Q : Bool → Hp → Prop), Inv X pins σ H s → t σ H Q →
    wpAny (model X.prog X.w) X.A (forIn ifs true fun c r => if r = true then do let ok ← isTrue c X.env (eval c X.env); pure (ForInStep.yield ok) else pure (ForInStep.yield r)) (TP X pins σ Q) X.xe s
def tYes : TT := fun _ H Q => Q true H
theorem pts_nil {X : Cx} : PTs X [] tYes := fun _ _ _ H _ I h => wpAny_tests_nil ⟨H, I, h⟩
/-- W: the turn, a measure, the items so far, the block's slots, the heap; N: what a turn is to reach -/
def LC (src : List (Option Nat)) (J : It) (g : TG) (tt : TT) (te : TE) (σ : St) (H1 : Hp) (Q : VK) (D : Addr) : Prop := ∃ W : Nat → Nat → List V → St → Hp → Prop, (∃ m, W 0 m [] (capSt src σ) (upd H1 D (.lst []))) ∧
  ∀ i m ys σ' H2, W i m ys σ' H2 → H2 D = some (.lst ys) ∧ ((J.stop i H2 ∧ Q (.ref D) H2) ∨ (J.go i H2 ∧ ∃ N : List V → St → Hp → Prop, (∀ ys' σ3 H3, N ys' σ3 H3 → ∃ m', m' < m ∧ W (i + 1) m' ys' σ3 H3) ∧ ∀ x H3, J.yld i H2 x H3 → g x σ' H3 fun σ2 H4 => tt σ2 H4 fun b H5 =>
    if b = true then te σ2 H5 fun y H6 => H6 D = some (.lst ys) ∧ ys.length < sizeLine ∧ N (ys ++ [y]) σ2 (upd H6 D (.lst (ys ++ [y])))
    else N ys σ2 H5))
def tLC (src : List (Option Nat)) (wi : TI) (g : TG) (tt : TT) (te : TE) : TE := fun σ H Q => wi σ H fun J H1 => ∀ D, H1 D = none → LC src J g tt te σ H1 Q D
section
variable {X : Cx}
theorem pe_lc {elt tg iter : Expr} {ifs : List Expr} {scope : Scope} {pos : Pos} {src : List (Option Nat)} {N' : List Str} {wi : TI} {g : TG} {tt : TT} {te : TE} (hcap : Cap X scope src N') (hc : X.calm = true) (hi : PI X tg iter wi)
    (hg : ∀ cl C s₀ H₀ fp pn, PG (cxC X scope N' cl C s₀ H₀ fp pn) tg g) (ht : ∀ cl C s₀ H₀ fp pn, PTs (cxC X scope N' cl C s₀ H₀ fp pn) ifs tt) (he : ∀ cl C s₀ H₀ fp pn, PE (cxC X scope N' cl C s₀ H₀ fp pn) elt te)
    (hfree : ∀ x, (x, NameKind.free) ∈ scope.names → X.env.scope.names.lookup x = some NameKind.cell ∨ X.env.scope.names.lookup x = some NameKind.free)
    (hk : scope.kind = .function := by rfl) (hcell : ∀ y ∈ scope.names, y.2 ≠ .cell := by decide) (hnames : ∀ y ∈ scope.names, y.2 = .local → scope.names.lookup y.1 = some .local := by decide +kernel)
    (hs : ∀ x, foldedSetIterable iter X.env x = pure x := by intro _; rfl) : PE X (.ListComp elt [⟨tg, iter, ifs, 0⟩] scope pos) (tLC src wi g tt te) := by
  intro pins s σ H Q I h
  have no : ∀ {E : Value → Shared → Prop}, ∀ (e : Value) (s' : Shared), False → E e s' := fun _ _ f => f.elim
  obtain ⟨cl, hcl, a, b⟩ := closure_ok X.env scope fun x hx => I.ok.has x (hfree x hx)
  rw [eval_ListComp]
  refine wpAny_comprehension_free (use := none) rfl hs hcl hk hnames (thn (hi pins s σ H _ I h) fun v s1 h1 => thn h1 fun itv s2 h2 => ?_)
  obtain ⟨it, fp, tn, J, H2, e, I2, T, st2, f2, q⟩ := h2
  subst e
  have hD : H2 s2.heap.objs.size = none := I2.hok.fresh (Nat.le_refl _)
  obtain ⟨W, ⟨m0, w0⟩, turn⟩ := q s2.heap.objs.size hD
  have I3 := I2.lnew (t' := s2.toks) (ys := []) (its := []) .nil (Nat.zero_le _)
  have fl2 : ∀ b ∈ fp, b < s2.heap.objs.size := fun b hb => by
    obtain ⟨o, e, _⟩ := T.obj _ _ st2 b hb
    exact Heap.lt_size e
  refine wpAny_newObj_type ?_
  generalize es3 : ({ s2 with heap := s2.heap.push { cls := .type "list", dict := none, data := .seq ([] : List Value).toArray } } : Shared) = s3
  have I3' : Inv X pins σ (upd H2 s2.heap.objs.size (.lst [])) s3 := es3 ▸ I3
  have keep3 : ∀ b o, s2.heap.get? b = some o → s3.heap.get? b = some o := fun b o e => by rw [← es3]; exact Heap.get?_push_of_some _ e
  have st3 : tn 0 s3.heap := T.keep _ _ _ st2 fun b _ o e => keep3 b o e
  have fl3 : ∀ b ∈ fp, b < s3.heap.objs.size := fun b hb => by
    obtain ⟨o, e, _⟩ := T.obj _ _ st3 b hb
    exact Heap.lt_size e
  have f3 : ∀ b ∈ fp, FpOk X pins (upd H2 s2.heap.objs.size (.lst [])) b := fun b hb => ⟨by rw [upd_ne (Nat.ne_of_lt (fl2 b hb))]; exact (f2 b hb).1, (f2 b hb).2⟩
  generalize eD : s2.heap.objs.size = D at *
  generalize eH3 : upd H2 D (.lst []) = H3 at *
  refine wpAny_newFunctionEnv hcell (by intro y hy; simp at hy) (fun h₁ hns₁ hsb₁ => ?_) hk
  have keep4 : ∀ b o, s3.heap.get? b = some o → h₁.get? b = some o := fun b o e => hsb₁.extBut b o (Nat.ne_of_lt (Heap.lt_size e)) (Heap.get?_push_of_some _ e)
  have I4 := inv_comp (N' := N') (src := src) (tk := s3.toks + ([] : List (Str × Value)).length) hk hcell hcap a b I3' f3 fl3 rfl keep4 hns₁
  -- the iterator's objects, through the block
  have stat : ∀ {H' : Hp}, (∀ b ∈ fp, H' b = none) → ∀ b ∈ fp, FpOk (cxC X scope N' cl s3.heap.objs.size s3 H3 fp (X.pn ++ pins)) [] H' b := fun hn b' hb => by
    obtain ⟨f0, f1, fs, fe, f4, f5⟩ := f3 b' hb
    refine ⟨hn b' hb, Nat.ne_of_lt (fl3 b' hb), fun z => ?_, .inl hb, fun x c h => f4 x c (a x c h), fun p hp => f5 p (by simpa [cxC] using hp)⟩
    rcases List.mem_cons.mp (I3'.stkSub b' z) with e | e
    · exact f1 e
    · exact fs e
  -- behind the block
  have fin : ∀ {H' : Hp} {s' : Shared} {σ' : St} {pins' : List (Addr × Obj)}, Inv (cxC X scope N' cl s3.heap.objs.size s3 H3 fp (X.pn ++ pins)) pins' σ' H' s' → ∀ h', Heap.SameBut s3.heap.objs.size s'.heap h' → Inv X pins σ H' { s' with heap := h' } := fun {H' s' σ' pins'} J' h' sb => by
    have same : ∀ b o, b ≠ s3.heap.objs.size → s'.heap.get? b = some o → h'.get? b = some o := fun b o hb e => sb.extBut b o hb e
    have u : Un (frs X.stack) fp H3 H' s3.heap s'.heap := J'.base
    refine I3'.call' (s' := { s' with heap := h' }) (ch := fp) J'.os ⟨fun b o e n hb hx => ?_, fun b o e n hb hx => ?_, u.free, fun b o e hx => ?_, u.tups, u.frzs, u.tbls⟩ (fun b o e => ?_) J'.bare fun b hb => ?_
    · exact same b o (Nat.ne_of_lt (Heap.lt_size e)) (u.keep b o e n hb hx)
    · obtain ⟨sl, z⟩ := u.slot b o e n hb hx
      exact ⟨sl, same b _ (Nat.ne_of_lt (Heap.lt_size e)) z⟩
    · obtain ⟨o', z⟩ := u.there b o e hx
      exact ⟨o', same b o' (Nat.ne_of_lt (Heap.lt_size e)) z⟩
    · have nC : ∀ c v, H' c = some v → c ≠ s3.heap.objs.size := fun c v z q => by
        have := J'.free
        rw [show (cxC X scope N' cl s3.heap.objs.size s3 H3 fp (X.pn ++ pins)).env.locals = s3.heap.objs.size from rfl, ← q, z] at this
        cases this
      refine (J'.hok b o e).stay (fun c v hc q => same c v ?_ q) (fun _ q => q) fun _ _ q => q
      rcases hc with z | z
      · rw [z]; exact nC b o e
      · exact nC c _ z
    · obtain ⟨f0, f1, fs, fe, f4, f5⟩ := f3 b hb
      exact ⟨fe, f1, f4, f5⟩
  have loop : codeAny (model X.prog X.w) X.A (.compLoop (.ListComp elt [⟨tg, iter, ifs, 0⟩] scope pos) 0 (.ref it) (.ref D) (compEnvC scope cl s3.heap.objs.size X.env))
      (compPost (model X.prog X.w) X.A X.xe none (EP X pins σ Q) (.ref D) s3.heap.objs.size) { s3 with heap := h₁, toks := s3.toks + ([] : List (Str × Value)).length } := by
    refine comp_loop (fun n s' => ∃ i ys σ' H', Inv (cxC X scope N' cl s3.heap.objs.size s3 H3 fp (X.pn ++ pins)) [] σ' H' s' ∧ tn i s'.heap ∧ (∀ b ∈ fp, H' b = none) ∧ W i n ys σ' H') ?_ m0 ⟨0, [], capSt src σ, H3, I4, T.keep _ _ _ st3 fun b _ o e => keep4 b o e, fun b hb => (f3 b hb).1, w0⟩
    rintro n s5 ⟨i, ys, σ5, H5, I5, st5, fr5, w5⟩
    obtain ⟨hDs, stop | go⟩ := turn i n ys σ5 H5 w5
    · obtain ⟨stop, qn⟩ := stop
      refine thn (T.done (cxC X scope N' cl s3.heap.objs.size s3 H3 fp (X.pn ++ pins)) rfl rfl rfl hc i [] s5 σ5 H5 _ I5 (stat fr5) st5 stop) fun r s6 ⟨hr, I6⟩ => ?_
      subst hr
      obtain ⟨m, hn, _⟩ := id I6.loc
      exact ⟨m, hn, fun h' sb => ⟨.ref D, H5, fin I6 h' sb, rfl, qn⟩⟩
    · obtain ⟨go, N, hN, step⟩ := go
      refine thn (T.item (cxC X scope N' cl s3.heap.objs.size s3 H3 fp (X.pn ++ pins)) rfl rfl rfl hc i [] s5 σ5 H5 _ I5 (stat fr5) st5 go) fun r s6 ⟨u, hr, h6⟩ => ?_
      subst hr
      refine thn h6 fun _ s7 ⟨x, H7, I7, r7, y7, st7, fr7⟩ => ?_
      have I7' := I7.pinned (stat fr7) (T.obj _ _ st7)
      have again : ∀ {s8 : Shared} {σ8 : St} {H8 : Hp} {ys' : List V}, Inv (cxC X scope N' cl s3.heap.objs.size s3 H3 fp (X.pn ++ pins)) ([] ++ pinsAt fp s7.heap) σ8 H8 s8 → (∃ m', m' < n ∧ W (i + 1) m' ys' σ8 H8) →
          ∃ m, m < n ∧ ∃ i ys σ' H', Inv (cxC X scope N' cl s3.heap.objs.size s3 H3 fp (X.pn ++ pins)) [] σ' H' s8 ∧ tn i s8.heap ∧ (∀ b ∈ fp, H' b = none) ∧ W i m ys σ' H' := fun {s8 σ8 H8 ys'} I8 ⟨m', hm, w8⟩ => by
        refine ⟨m', hm, i + 1, ys', σ8, H8, I8.unpinned, T.keep _ _ _ st7 fun b hb o e => (I8.pin (b, o) (List.mem_append_right _ (List.mem_append_right _ (mem_pinsAt hb e)))).1, fun b hb => ?_, w8⟩
        obtain ⟨o, e, d⟩ := T.obj _ _ st7 b hb
        exact (I8.pin (b, o) (List.mem_append_right _ (List.mem_append_right _ (mem_pinsAt hb e)))).2.1
      refine thn (hg cl _ s3 H3 fp _ _ s7 σ5 H7 x u _ I7' r7 (step x H7 y7)) fun _ s8 ⟨σ8, H8, I8, q8⟩ => ?_
      refine thn (ht cl _ s3 H3 fp _ _ s8 σ8 H8 _ I8 q8) fun ok s9 ⟨H9, I9, q9⟩ => ?_
      cases ok with
      | false => exact again I9 (hN _ _ _ q9)
      | true =>
        rw [if_pos rfl]
        refine thn (he cl _ s3 H3 fp _ _ s9 σ8 H9 _ I9 q9) fun y s10 ⟨yv, H10, I10, r10, q10⟩ => ?_
        obtain ⟨hDy, hlen, w10⟩ := q10
        refine thn (mt_append (X := cxC X scope N' cl s3.heap.objs.size s3 H3 fp (X.pn ++ pins)) _ s10 σ8 H10 (.ref D) [yv] (.ref D) [y] (fun _ H' => H' = upd H10 D (.lst (ys ++ [yv]))) I10 rfl (.cons r10 .nil) ⟨D, ys, yv, rfl, rfl, hDy, hlen, rfl⟩) fun _ s11 ⟨_, H11, I11, _, e11⟩ => ?_
        subst e11
        exact again I11 (hN _ _ _ w10)
  exact codeAny_compStart_list loop (T.self _ 0 _ _ _ (T.keep _ _ _ st3 fun b _ o e => keep4 b o e) loop)
end
end L2
namespace L2
open PySem PySem.Spec PyProof.Rows

/-! ### texts: slices -/
def cutS (x : Str) (lo hi : Option Int) : Str := ⟨((x.cps.toList.drop (HT.sIx x.length 0 lo)).take (HT.sIx x.length x.length hi - HT.sIx x.length 0 lo)).toArray⟩
theorem sliceIx_eq (lo hi : Option Int) (n : Nat) : Builtin.Str.strSliceIndices lo hi 1 n = (List.range (HT.sIx n n hi - HT.sIx n 0 lo)).map fun k => HT.sIx n 0 lo + k := by
  have clip : ∀ (v : Int) (d : Nat), max 0 (min (if v < 0 then v + (n : Int) else v) (n : Int)) = ((HT.sIx n d (some v) : Nat) : Int) := fun v d => by
    show _ = (((if v < 0 then (v + (n : Int)).toNat else min v.toNat n) : Nat) : Int)
    by_cases hv : v < 0
    · simp only [if_pos hv]; omega
    · simp only [if_neg hv]; omega
  have key : ∀ (i j : Nat), sliceRange (i : Int) (j : Int) 1 = (List.range (j - i)).map fun k => i + k := fun i j => by
    unfold sliceRange
    have e : (if (1 : Int) > 0 then (if (i : Int) < (j : Int) then ((j : Int) - (i : Int) + 1 - 1) / 1 else 0) else (if (i : Int) > (j : Int) then ((i : Int) - (j : Int) - 1 - 1) / (-1) else 0)).toNat = j - i := by
      rw [if_pos (by decide)]
      by_cases h : (i : Int) < (j : Int)
      · rw [if_pos h, Int.ediv_one]; omega
      · rw [if_neg h]; omega
    dsimp only
    rw [e]
    refine List.map_congr_left fun k _ => ?_
    omega
  have lo' : (match lo with | none => (0 : Int) | some v => max 0 (min (if v < 0 then v + (n : Int) else v) (n : Int))) = ((HT.sIx n 0 lo : Nat) : Int) := by
    cases lo with
    | none => rfl
    | some v => exact clip v 0
  have hi' : (match hi with | none => (n : Int) | some v => max 0 (min (if v < 0 then v + (n : Int) else v) (n : Int))) = ((HT.sIx n n hi : Nat) : Int) := by
    cases hi with
    | none => rfl
    | some v => exact clip v n
  rw [← key, ← lo', ← hi']
  unfold Builtin.Str.strSliceIndices
  cases lo <;> cases hi <;> simp
theorem slice_eq (x : Str) (lo hi : Option Int) : Txt.slice x lo hi = cutS x lo hi := by
  have hle1 := HT.sIx_le x.length 0 (Nat.zero_le _) lo
  have hle2 := HT.sIx_le x.length x.length (Nat.le_refl _) hi
  have core : ((Builtin.Str.strSliceIndices lo hi 1 x.length).filterMap (x.cps[·]?)) = (x.cps.toList.drop (HT.sIx x.length 0 lo)).take (HT.sIx x.length x.length hi - HT.sIx x.length 0 lo) := by
    rw [sliceIx_eq, List.filterMap_map]
    generalize HT.sIx x.length 0 lo = i
    generalize HT.sIx x.length x.length hi - i = k
    have gen : ∀ (l : List Nat) (k : Nat), (List.range k).filterMap (fun m => l[m]?) = l.take k := by
      intro l k
      induction k with
      | zero => simp
      | succ k ih =>
        rw [List.range_succ, List.filterMap_append, ih]
        by_cases hk : k < l.length
        · rw [List.take_succ_eq_append_getElem hk]; simp [hk]
        · have h1 : l.take (k + 1) = l := List.take_of_length_le (by omega)
          have h2 : l.take k = l := List.take_of_length_le (by omega)
          rw [h1, h2]; simp [hk]
    have e : ((fun j => x.cps[j]?) ∘ fun k => i + k) = fun m => (x.cps.toList.drop i)[m]? := by
      funext m
      simp [List.getElem?_drop]
    rw [e, gen]
  unfold Txt.slice cutS
  rw [core]
  split
  · rename_i h
    simp only [beq_self_eq_true, Bool.true_and, beq_iff_eq] at h
    rw [sliceIx_eq, List.length_map, List.length_range] at h
    have h0 : HT.sIx x.length 0 lo = 0 ∨ x.length = 0 := by omega
    have e : (x.cps.toList.drop (HT.sIx x.length 0 lo)).take (HT.sIx x.length x.length hi - HT.sIx x.length 0 lo) = x.cps.toList := by
      have hl : x.cps.toList.length = x.length := by simp [Str.length]
      rcases h0 with h0 | h0
      · rw [h, h0, List.drop_zero, List.take_of_length_le (by omega)]
      · have : x.cps.toList = [] := List.eq_nil_of_length_eq_zero (by omega)
        rw [this]; simp
    rw [e]
  · rfl
theorem cutS_length_le (x : Str) (lo hi : Option Int) : (cutS x lo hi).length ≤ x.length := by
  rw [← slice_eq]; exact Txt.slice_le x lo hi
def rSlS : V → Option Int → Option Int → Hp → VK → Prop := fun x lo hi H Q => ∃ z, x = .str z ∧ z.length ≤ sizeLine ∧ Q (.str (cutS z lo hi)) H
section
variable {X : Cx}
theorem sl_str : SlR X rSlS := by
  intro pins s σ H x v vl vu lo hi sl Q I rx hs pl pu h
  obtain ⟨z, rfl, hz, q⟩ := h
  obtain ⟨t, rfl⟩ := rx
  refine ⟨"str", _, F.slot_str_getitem.lookup, typeIs_str _ _ _, ?_⟩
  have fin : ∀ (l u : Option (Int × Tok)), l.map (·.1) = lo → u.map (·.1) = hi → s.heap.IsSlice sl l u none → wpAny (model X.prog X.w) X.A (getItem (.str z t) (.ref sl)) (EP X pins σ Q) X.xe s := fun l u el eu hsl => by
    refine wpAny_getItem_str_slice (l := l) (u := u) (st := none) hsl rfl ?_
    have e : (if (((none : Option (Int × Tok)).map (·.1)).getD 1 == 1 && (slicePicked z l u none).length == z.length) = true then z else ⟨((slicePicked z l u none).filterMap (z.cps[·]?)).toArray⟩) = cutS z lo hi := by
      rw [← slice_eq, ← el, ← eu]
      rfl
    refine post_val_or_str ⟨by rw [e]; exact Nat.le_trans (cutS_length_le z lo hi) hz, fun t' k => ?_⟩
    rw [e]
    exact ⟨.str (cutS z lo hi), H, I.tok k, ⟨t', rfl⟩, q⟩
  obtain ⟨o, ho, hc, hd⟩ := hs
  cases pl with
  | none =>
    cases pu with
    | none => exact fin none none rfl rfl ⟨o, ho, hc, hd⟩
    | int j tj => exact fin none (some (j, tj)) rfl rfl ⟨o, ho, hc, hd⟩
  | int i ti =>
    cases pu with
    | none => exact fin (some (i, ti)) none rfl rfl ⟨o, ho, hc, hd⟩
    | int j tj => exact fin (some (i, ti)) (some (j, tj)) rfl rfl ⟨o, ho, hc, hd⟩
theorem op_le_str : OpR X (compareOp .LtE) (fun x y H Q => ∃ i j, x = .str i ∧ y = .str j ∧ Q (.bl (!decide (j.cps.toList < i.cps.toList))) H) := by
  intro pins s σ H x y v u Q I rx ry h
  obtain ⟨i, j, rfl, rfl, q⟩ := h
  obtain ⟨t, rfl⟩ := rx
  obtain ⟨t', rfl⟩ := ry
  exact PySem.P.le_str ⟨.bl _, H, I, rfl, q⟩

/-! ### texts: their signs, one after another -/
def Its (x : Str) : It := ⟨fun i _ => i < x.length, fun i H v H' => H' = H ∧ ∃ c, x.cps.toList[i]? = some c ∧ v = .str ⟨#[c]⟩, fun i _ => x.length ≤ i⟩
theorem turn_str {P : Program} {w : World} {K : PySem.W.Frag} {tg : Expr} (x : Str) (t : Tok) (it : Addr) : Turn P w K tg (Its x) [it] it (fun i h => h.IsStrIter it "str_ascii_iterator" x t i ∨ h.IsStrIter it "str_iterator" x t i) where
  mem := by simp
  obj := fun i h st b hb => by
    have e : b = it := by simpa using hb
    subst e
    rcases st with ⟨o, e, c, d⟩ | ⟨o, e, c, d⟩ <;> exact ⟨o, e, fun v z => by rw [d] at z; cases z⟩
  keep := fun i h h' st k => by
    rcases st with ⟨o, e, c⟩ | ⟨o, e, c⟩
    · exact .inl ⟨o, k it (by simp) o e, c⟩
    · exact .inr ⟨o, k it (by simp) o e, c⟩
  item := by
    intro X hP hw hK hc i pins s σ H E I hf st hg
    subst hP hw hK
    have hi : i < x.cps.size := hg
    have hx : x.cps[i]? = some x.cps[i] := by simp [hi]
    obtain ⟨f0, f1, f2, f3, f4, f5⟩ := hf it (by simp)
    have fin : ∀ (ty : String) (h' : Heap), ["enumerate", "zip", "dict_itemiterator", "dict_reverseitemiterator", "odict_iterator", "itertools.zip_longest", "itertools.pairwise"].contains ty = false → h'.IsStrIter it ty x t (i + 1) → Heap.SameBut it s.heap h' →
        (h'.IsStrIter it ty x t (i + 1) → (h'.IsStrIter it "str_ascii_iterator" x t (i + 1) ∨ h'.IsStrIter it "str_iterator" x t (i + 1))) →
        ∃ u, some (Value.str ⟨#[x.cps[i]]⟩ s.toks) = some u ∧ wpAny (model X.prog X.w) X.A (letOwnedTupleGo tg (.ref it) u) (fun _ s2 => ∃ y H', Inv X pins σ H' s2 ∧ RelV y u ∧ (Its x).yld i H y H' ∧
          (s2.heap.IsStrIter it "str_ascii_iterator" x t (i + 1) ∨ s2.heap.IsStrIter it "str_iterator" x t (i + 1)) ∧ ∀ b ∈ [it], H' b = none) E { s with heap := h', toks := s.toks + 1 } := fun ty h' hn st' sb hor => by
      have I1 : Inv X pins σ H { s with heap := h', toks := s.toks + 1 } := I.turned (t' := s.toks + 1) (fun b o hb e => (sb.2 b hb).trans e) f0 f1 f3 f4 f5
      obtain ⟨o, e, c, d⟩ := id st'
      exact ⟨_, rfl, go_of (s := { s with heap := h', toks := s.toks + 1 }) e c d hn ⟨.str ⟨#[x.cps[i]]⟩, H, I1, ⟨_, rfl⟩, ⟨rfl, x.cps[i], by simp [hi], rfl⟩, hor st', fun b hb => (hf b hb).1⟩⟩
    rcases st with st | st
    · exact wpAny_pyNext_ascii_item st hx fun h' st' sb => fin _ h' (by decide) st' sb .inl
    · exact wpAny_pyNext_wide_item st hx fun h' st' sb => fin _ h' (by decide) st' sb .inr
  done := by
    intro X hP hw hK hc i pins s σ H E I hf st hg
    subst hP hw hK
    have hi : x.cps.size ≤ i := hg
    have hx : x.cps[i]? = none := by simp [hi]
    obtain ⟨f0, f1, f2, f3, f4, f5⟩ := hf it (by simp)
    rcases st with st | st
    · exact wpAny_pyNext_ascii_end (I.ok.hd hc) st hx fun h' eb => ⟨rfl, I.turned (t' := s.toks) (fun b o hb e => eb b o hb e) f0 f1 f3 f4 f5⟩
    · exact wpAny_pyNext_wide_end (I.ok.hd hc) st hx fun h' eb => ⟨rfl, I.turned (t' := s.toks) (fun b o hb e => eb b o hb e) f0 f1 f3 f4 f5⟩
  self := fun A i s Q E st h => by
    rcases st with st | st
    · exact wpAny_pyIter_slot st.typeIs F.slot_str_ascii_iterator_iter (wpAny_call_entry F.slot_str_ascii_iterator_iter st.typeIs F.entry_str_ascii_iterator_iter (wpAny_pure ⟨_, rfl, "str_ascii_iterator", _, st.typeIs, F.slot_str_ascii_iterator_next.lookup, h⟩) (F.args_str_ascii_iterator_iter_1 _))
    · exact wpAny_pyIter_slot st.typeIs F.slot_str_iterator_iter (wpAny_call_entry F.slot_str_iterator_iter st.typeIs F.entry_str_iterator_iter (wpAny_pure ⟨_, rfl, "str_iterator", _, st.typeIs, F.slot_str_iterator_next.lookup, h⟩) (F.args_str_iterator_iter_1 _))
end
end L2
namespace L2
open PySem PySem.Spec PyProof.Rows
section
variable {X : Cx} {tg : Expr}
def iStr (tl : TE) : TI := fun σ H R => tl σ H fun x H1 => ∃ z, x = .str z ∧ R (Its z) H1
theorem pi_str {l : Expr} {tl : TE} (hl : PE X l tl) : PI X tg l (iStr tl) := by
  intro pins s σ H R I h
  refine thn (hl pins s σ H _ I h) fun v s1 ⟨x, H1, I1, r1, q1⟩ => ?_
  obtain ⟨z, e, q⟩ := q1
  subst e
  obtain ⟨t, rfl⟩ := r1
  refine wpAny_pyIter_strU ?_
  refine ⟨s1.heap.objs.size, [s1.heap.objs.size], _, _, H1, rfl, I1.kept (t' := s1.toks) fun b o e => Heap.get?_push_of_some _ e, turn_str z t _, ?_, fun b hb => ?_, q⟩
  · unfold strIterType
    split
    · exact .inl ⟨_, Heap.get?_push_size _ rfl, rfl, rfl⟩
    · exact .inr ⟨_, Heap.get?_push_size _ rfl, rfl, rfl⟩
  · have e : b = s1.heap.objs.size := by simpa using hb
    subst e
    exact I1.fpOk (Nat.le_refl _) (I1.hok.fresh (Nat.le_refl _))
/-- over a sequence that yields the items of xs, whatever the turns do -/
def ItSeq (J : It) (P : Hp → Prop) (xs : List V) : Prop := ∀ H, P H → ∀ i, (∀ x, xs[i]? = some x → J.go i H ∧ ∀ y H', J.yld i H y H' → H' = H ∧ y = x) ∧ (xs.length ≤ i → J.stop i H)
theorem itseq_str (z : Str) (P : Hp → Prop) : ItSeq (Its z) P (z.cps.toList.map fun c => .str ⟨#[c]⟩) := fun H _ i => by
  refine ⟨fun x hx => ?_, fun hi => ?_⟩
  · rw [List.getElem?_map] at hx
    cases e : z.cps.toList[i]? with
    | none => rw [e] at hx; simp at hx
    | some c =>
      rw [e] at hx
      have hx' : V.str ⟨#[c]⟩ = x := by simpa using hx
      subst hx'
      have hi : i < z.cps.toList.length := (List.getElem?_eq_some_iff.mp e).1
      refine ⟨by show i < z.cps.size; simpa using hi, fun y H' ⟨e1, c', e2, e3⟩ => ⟨e1, ?_⟩⟩
      rw [e] at e2
      cases e2
      exact e3
  · show z.cps.size ≤ i
    simpa using hi
/-- a comprehension over such a sequence, by what holds between two turns -/
theorem lc_by {J : It} {P : Hp → Prop} {xs : List V} (hJ : ItSeq J P xs) {src : List (Option Nat)} {g : TG} {tt : TT} {te : TE} {σ : St} {H1 : Hp} {Q : VK} {D : Addr} (Pv : Nat → List V → St → Hp → Prop)
    (h0 : Pv 0 [] (capSt src σ) (upd H1 D (.lst []))) (hP : ∀ i ys σ' H', Pv i ys σ' H' → P H' ∧ H' D = some (.lst ys))
    (step : ∀ i ys σ' H' x, xs[i]? = some x → Pv i ys σ' H' → g x σ' H' fun σ2 H4 => tt σ2 H4 fun b H5 => if b = true then te σ2 H5 fun y H6 => H6 D = some (.lst ys) ∧ ys.length < sizeLine ∧ Pv (i + 1) (ys ++ [y]) σ2 (upd H6 D (.lst (ys ++ [y]))) else Pv (i + 1) ys σ2 H5)
    (fin : ∀ ys σ' H', Pv xs.length ys σ' H' → Q (.ref D) H') :
    LC src J g tt te σ H1 Q D := by
  refine ⟨fun i m ys σ' H' => m = xs.length - i ∧ i ≤ xs.length ∧ Pv i ys σ' H', ⟨xs.length, by simp, Nat.zero_le _, h0⟩, ?_⟩
  rintro i m ys σ' H2 ⟨rfl, hi, p⟩
  obtain ⟨hp, hD⟩ := hP i ys σ' H2 p
  refine ⟨hD, ?_⟩
  by_cases hlt : i < xs.length
  · obtain ⟨go, yl⟩ := (hJ H2 hp i).1 xs[i] (by simp [hlt])
    refine .inr ⟨go, fun ys' σ3 H3 => Pv (i + 1) ys' σ3 H3, fun ys' σ3 H3 p' => ⟨xs.length - (i + 1), by omega, rfl, hlt, p'⟩, fun x H3 y => ?_⟩
    obtain ⟨e1, e2⟩ := yl x H3 y
    subst e1 e2
    exact step i ys σ' _ _ (by simp [hlt]) p
  · have e : i = xs.length := by omega
    subst e
    exact .inl ⟨(hJ H2 hp _).2 (Nat.le_refl _), fin ys σ' H2 p⟩
theorem Same.upd_new {H : Hp} {p : Addr} (h : H p = none) (o : HO) : Same H (upd H p o) := fun b u q => by rw [upd_ne (ne_of_none q h)]; exact q
theorem Same.upd_over {H H' : Hp} {p : Addr} (h : H p = none) (e : Same H H') (o : HO) : Same H (upd H' p o) := fun b u q => by rw [upd_ne (ne_of_none q h)]; exact e b u q
end

/-! ### all, any, join -/
section
variable {X : Cx}
theorem bools_of : ∀ {bs : List Bool} {us : List Value}, Vals (bs.map V.bl) us → LSm.BoolsAre us bs
  | [], _, h => by rw [Vals.zero h]; exact .nil
  | b :: bs, us, h => by
    have h' : Vals (V.bl b :: bs.map V.bl) us := h
    cases h' with
    | cons r t => cases (show _ = Value.bool b from r); exact .cons b (bools_of t)
theorem call_all_bools (hc : X.calm = true) : CallR X (.builtin "all") (fun xs H Q => ∃ (p : Addr) (bs : List Bool), xs = [.ref p] ∧ SqL X.K H p (bs.map V.bl) ∧ Q (.bl (bs.all id)) H) := by
  intro pins s σ H xs us Q I r h
  obtain ⟨p, bs, rfl, hq, q⟩ := h
  obtain ⟨u, rfl, rx⟩ := vals1 r
  cases rx
  obtain ⟨its, r', pl, hz⟩ := I.list hq
  have hb := bools_of r'
  have hl := pl.isList
  have hlt : p < s.heap.objs.size := by obtain ⟨_, e, _⟩ := hl; exact Heap.lt_size e
  refine call_all_walk (wpAny_pyIter_list hl ?_)
  refine ⟨s.heap.objs.size, [s.heap.objs.size, p], [s.heap.objs.size], its.toArray.size, _, _, fun i => (bs[i]?).getD true, rfl, Walks.list (A := X.A.in1) (I.ok.hd hc) _ p (Nat.ne_of_lt hlt) its.toArray,
    ⟨⟨_, Heap.get?_push_size _ rfl, rfl, rfl⟩, hl.push _⟩, fun i v s' Q' E' hP hQ => ?_, fun h' tk hk => ?_⟩
  · obtain ⟨b, e, rfl⟩ := hb.get i v (by simpa using hP)
    simp only [e, Option.getD_some] at hQ
    exact wpAny_truthy_bool hQ
  · have e : ((List.range its.toArray.size).all fun i => (bs[i]?).getD true) = bs.all id := by
      rw [List.size_toArray, hb.length]; exact LSm.range_all bs
    rw [e]
    exact ⟨.bl _, H, I.kept (t' := tk) (LSm.kept_iter hk), rfl, q⟩
theorem strs_of : ∀ {ys : List Str} {us : List Value}, Vals (ys.map V.str) us → StrsAre us ys
  | [], _, h => by rw [Vals.zero h]; exact .nil
  | y :: ys, us, h => by
    have h' : Vals (V.str y :: ys.map V.str) us := h
    cases h' with
    | cons r t => obtain ⟨t', rfl⟩ := r; exact .cons y t' (strs_of t)
/-- sep.join(a list of texts) -/
def rJoin (K : PySem.W.Frag) : V → List V → Hp → VK → Prop := fun x vs H Q => ∃ (z : Str) (p : Addr) (ys : List Str), x = .str z ∧ vs = [.ref p] ∧ SqL K H p (ys.map V.str) ∧ (ys.map (·.length)).sum + ys.length * z.length ≤ 16777216 ∧ Q (.str (Txt.join z ys)) H
theorem mt_join : MtR X "str.join" (rJoin X.K) := by
  intro pins s σ H x vs v us Q I rx rv h
  obtain ⟨z, p, ys, rfl, rfl, hq, hl, q⟩ := h
  obtain ⟨t, rfl⟩ := rx
  obtain ⟨u, rfl, ru⟩ := rv.one
  cases ru
  obtain ⟨its, r, pl, hz⟩ := I.list hq
  exact join_list pl.isList (by simpa using strs_of r) hl fun t' k => ⟨.str _, H, I.tok k, ⟨t', rfl⟩, q⟩

/-! ### isinstance(e, a built-in type), isinstance(e, an own class) -/
def clsV : V → Option Value
  | .ty n => some (.type n)
  | .ref a => some (.ref a)
  | _ => none
theorem call_isinst : CallR X (.builtin "isinstance") (fun xs H Q => ∃ x c cv t b, xs = [x, c] ∧ clsV c = some cv ∧ TyOf X.K H x t ∧ PySem.W.kitOne X.K t cv = some b ∧ Q (.bl b) H) := by
  intro pins s σ H xs us Q I r h
  obtain ⟨x, c, cv, t, b, rfl, ec, ty, e, q⟩ := h
  obtain ⟨u, w', rfl, ru, rw'⟩ := vals2 r
  have ew : w' = cv := by
    cases c with
    | ty n => cases (show w' = Value.type n from rw'); simpa [clsV] using ec
    | ref a => cases (show w' = Value.ref a from rw'); simpa [clsV] using ec
    | _ => simp [clsV] at ec
  subst ew
  exact isinst_ok I ru ty e fun tk => ⟨.bl b, H, I.tok tk, rfl, q⟩

/-! ### == of two lists, != of two lists: flat items -/
def eqVs (xs ys : List V) : Bool := xs.length == ys.length && (List.range xs.length).all fun j => match xs[j]?, ys[j]? with | some x, some y => eqV x y | _, _ => false
end
end L2
namespace L2
open PySem PySem.Spec PyProof.Rows
/-! ### zip of two sequences -/
/-- an iterator within a zip: at k, in the heap h, the next is what get tells -/
structure Sub (P : Program) (w : World) (i : Addr) (St : Nat → Heap → Prop) (Ready : Heap → (Nat → Option Value) → Prop) : Prop where
  obj : ∀ k h, St k h → ∃ o, h.get? i = some o ∧ ∀ v, o.data ≠ .cell v
  keep : ∀ k h h', St k h → (∀ o, h.get? i = some o → h'.get? i = some o) → St k h'
  item : ∀ (A : Around) (k : Nat) (s : Shared) (get : Nat → Option Value) (x : Value) (Q : Value → Shared → Prop) (E : Value → Shared → Prop), St k s.heap → Ready s.heap get → get k = some x →
    (∀ h' tk, St (k + 1) h' → Heap.SameBut i s.heap h' → Q x { s with heap := h', toks := tk }) → wpAny (model P w) A (Builtin.SmallTypes.nextOf (.ref i)) Q E s
  fin : ∀ (A : Around) (k : Nat) (s : Shared) (get : Nat → Option Value) (Q : Value → Shared → Prop) (E : Value → Shared → Prop), A.handled = none → St k s.heap → Ready s.heap get → get k = none →
    (∀ h' e, Heap.ExtBut i s.heap h' → (∃ o, h'.get? e = some o ∧ o.cls = .type "StopIteration") → E (.ref e) { s with heap := h' }) → wpAny (model P w) A (Builtin.SmallTypes.nextOf (.ref i)) Q E s
section
variable {prog : Program} {w : World} {A : Around} {E : Value → Shared → Prop} {s : Shared}
end
structure ZApart (z TI TO i1 i2 : Addr) : Prop where
  a : TI ≠ z
  b : TO ≠ z
  c : i1 ≠ z
  d : i2 ≠ z
  e : TI ≠ TO
  f : TI ≠ i1
  g : TI ≠ i2
  h : TO ≠ i1
  i : TO ≠ i2
  j : i1 ≠ i2
section
variable {prog : Program} {w : World} {A : Around} {E : Value → Shared → Prop} {s : Shared} {z TI TO i1 i2 : Addr} {S1 S2 : Nat → Heap → Prop} {R1 R2 : Heap → (Nat → Option Value) → Prop} {g1 g2 : Nat → Option Value} {k : Nat} {a b : Value}
end
end L2
namespace L2
open PySem PySem.Spec PyProof.Rows
/-! ### zip(a, b): the object -/
abbrev zpH (h : Heap) (o1 o2 : Obj) : Heap := ((h.push o1).push o2)
abbrev zpT (h : Heap) (o1 o2 : Obj) : Heap := (zpH h o1 o2).push { cls := .type "tuple", data := .seq #[.ref h.objs.size, .ref (h.push o1).objs.size] }
abbrev zpO (h : Heap) (o1 o2 : Obj) : Heap := (zpT h o1 o2).push { cls := .type "tuple", data := .seq #[.none, .none] }
abbrev zpZ (h : Heap) (o1 o2 : Obj) : Heap := (zpO h o1 o2).push { cls := .type "zip", data := .fields #[.none, .bool false, .bool false, .ref (zpH h o1 o2).objs.size, .ref (zpT h o1 o2).objs.size] }
/-- iter(v) is a new object o, whatever stands beside -/
def ItersTo (h : Heap) (v : Value) (o : Obj) : Prop := ∀ (prog : Program) (w : World) (A : Around) (E : Value → Shared → Prop) (s : Shared) (Q : Value → Shared → Prop), (∀ b ob, h.get? b = some ob → s.heap.get? b = some ob) →
  Q (.ref s.heap.objs.size) { s with heap := s.heap.push o } → wpAny (model prog w) A (pyIter v) Q E s
section
variable {prog : Program} {w : World} {A : Around} {E : Value → Shared → Prop} {s : Shared}
end

section
variable {X : Cx} {pins : List (Addr × Obj)} {σ : St} {H : Hp} {s : Shared} {h' : Heap}
end

/-- what zip(a, b) yields: pairs, each a new tuple -/
def Itz (G1 G2 : Hp → List V → Prop) : It :=
  ⟨fun i H => ∃ xs ys x y, G1 H xs ∧ G2 H ys ∧ xs[i]? = some x ∧ ys[i]? = some y, fun i H v H' => ∃ T, v = .ref T ∧ H T = none ∧ ∀ xs ys x y, G1 H xs → G2 H ys → xs[i]? = some x → ys[i]? = some y → H' = upd H T (.tup [x, y]),
    fun i H => ∃ xs ys, G1 H xs ∧ G2 H ys ∧ (xs.length ≤ i ∨ ys.length ≤ i)⟩
/-- a sequence as a zip's part: what of the abstract heap tells its items -/
structure Part (K : PySem.W.Frag) (G : Hp → List V → Prop) (Si : Addr → Nat → Heap → Prop) (R : Heap → (Nat → Option Value) → Prop) (own : Addr) : Prop where
  sub : ∀ (P : Program) (w : World) (i : Addr), Sub P w i (Si i) R
  ready : ∀ (X : Cx), X.K = K → ∀ (pins : List (Addr × Obj)) (σ : St) (H : Hp) (s : Shared) (xs : List V), Inv X pins σ H s → G H xs → ∃ us : List Value, Vals xs us ∧ R s.heap (fun k => us[k]?)
  inj : ∀ (X : Cx), X.K = K → ∀ (pins : List (Addr × Obj)) (σ : St) (H : Hp) (s : Shared) (xs ys : List V), Inv X pins σ H s → G H xs → G H ys → xs = ys
  keep : ∀ h h' g, R h g → (∀ o, h.get? own = some o → h'.get? own = some o) → R h' g
end L2
namespace L2
open PySem PySem.Spec PyProof.Rows
section
variable {X : Cx} {elts : List Expr} {kk : Nat} {tpos : Pos}
/-- zip(a, b) of two tuples, of two lists -/
def iZipT (K : PySem.W.Frag) (ta : TA) : TI := fun σ H R => ta σ H fun vs H1 => ∃ a b xs ys, vs = [.ref a, .ref b] ∧ SqT K H1 a xs ∧ SqT K H1 b ys ∧ R (Itz (fun H xs => SqT K H a xs) (fun H ys => SqT K H b ys)) H1
def iZipL (K : PySem.W.Frag) (ta : TA) : TI := fun σ H R => ta σ H fun vs H1 => ∃ a b xs ys, vs = [.ref a, .ref b] ∧ SqL K H1 a xs ∧ SqL K H1 b ys ∧ R (Itz (fun H xs => SqL K H a xs) (fun H ys => SqL K H b ys)) H1
/-- .. without a test -/
theorem lc_on {J : It} {P : Hp → Prop} {xs : List V} (hJ : ItSeq J P xs) {src : List (Option Nat)} {g : TG} {te : TE} {σ : St} {H1 : Hp} {Q : VK} {D : Addr} (Pv : Nat → List V → St → Hp → Prop)
    (h0 : Pv 0 [] (capSt src σ) (upd H1 D (.lst []))) (hP : ∀ i ys σ' H', Pv i ys σ' H' → P H' ∧ H' D = some (.lst ys))
    (mono : ∀ x σ H Q Q', (∀ σ' H', Q σ' H' → Q' σ' H') → g x σ H Q → g x σ H Q')
    (step : ∀ i ys σ' H' x, xs[i]? = some x → Pv i ys σ' H' → g x σ' H' fun σ2 H4 => te σ2 H4 fun y H6 => H6 D = some (.lst ys) ∧ ys.length < sizeLine ∧ Pv (i + 1) (ys ++ [y]) σ2 (upd H6 D (.lst (ys ++ [y]))))
    (fin : ∀ ys σ' H', Pv xs.length ys σ' H' → Q (.ref D) H') : LC src J g tYes te σ H1 Q D :=
  lc_by hJ Pv h0 hP (fun i ys σ' H' x hx p => by
    refine mono _ _ _ _ _ ?_ (step i ys σ' H' x hx p)
    intro σ2 H4 q
    unfold tYes
    dsimp only
    rw [if_pos rfl]
    exact q) fin
theorem gName_mono (i : Nat) : ∀ x σ H Q Q', (∀ σ' H', Q σ' H' → Q' σ' H') → gName i x σ H Q → gName i x σ H Q' := fun _ _ _ _ _ h q => h _ _ q
/-! ### for over a text, over anything of n turns -/
theorem for_gen {J : It} {P : Hp → Prop} {n : Nat} (hgo : ∀ i H, P H → i < n → J.go i H) (hstop : ∀ H, P H → J.stop n H) {g : TG} {tb : TS} {D : Ends} {σ : St} {H : Hp} (Pv : Nat → St → Hp → Prop) (h0 : Pv 0 σ H) (hP : ∀ i σ H, Pv i σ H → P H)
    (hs : ∀ i σ H, i < n → Pv i σ H → ∀ x H', J.yld i H x H' → g x σ H' fun σ2 H2 => tb { D with nx := Pv (i + 1), ct := Pv (i + 1), bk := D.nx } σ2 H2) (hd : ∀ σ H, Pv n σ H → D.nx σ H) :
    ∃ W : Nat → Nat → St → Hp → Prop, (∃ m, W 0 m σ H) ∧ ∀ i m σ H, W i m σ H →
      (J.stop i H ∧ D.nx σ H) ∨ (J.go i H ∧ ∃ N : St → Hp → Prop, (∀ σ' H', N σ' H' → ∃ m', m' < m ∧ W (i + 1) m' σ' H') ∧ ∀ x H', J.yld i H x H' → g x σ H' fun σ2 H2 => tb { D with nx := N, ct := N, bk := D.nx } σ2 H2) := by
  refine ⟨fun i m σ H => m = n - i ∧ i ≤ n ∧ Pv i σ H, ⟨n, by simp, Nat.zero_le _, h0⟩, ?_⟩
  rintro i m σ H ⟨rfl, hi, p⟩
  have q := hP i σ H p
  by_cases hlt : i < n
  · exact .inr ⟨hgo i H q hlt, Pv (i + 1), fun σ' H' p' => ⟨n - (i + 1), by omega, rfl, hlt, p'⟩, fun x H' y => hs i σ H hlt p x H' y⟩
  · have e : i = n := by omega
    subst e
    exact .inl ⟨hstop H q, hd σ H p⟩
theorem for_str {z : Str} {g : TG} {tb : TS} {D : Ends} {σ : St} {H : Hp} (Pv : Nat → St → Hp → Prop) (h0 : Pv 0 σ H)
    (hs : ∀ i c σ H, z.cps.toList[i]? = some c → Pv i σ H → g (.str ⟨#[c]⟩) σ H fun σ2 H2 => tb { D with nx := Pv (i + 1), ct := Pv (i + 1), bk := D.nx } σ2 H2) (hd : ∀ σ H, Pv z.cps.toList.length σ H → D.nx σ H) :
    ∃ W : Nat → Nat → St → Hp → Prop, (∃ m, W 0 m σ H) ∧ ∀ i m σ H, W i m σ H →
      ((Its z).stop i H ∧ D.nx σ H) ∨ ((Its z).go i H ∧ ∃ N : St → Hp → Prop, (∀ σ' H', N σ' H' → ∃ m', m' < m ∧ W (i + 1) m' σ' H') ∧ ∀ x H', (Its z).yld i H x H' → g x σ H' fun σ2 H2 => tb { D with nx := N, ct := N, bk := D.nx } σ2 H2) :=
  for_gen (P := fun _ => True) (n := z.cps.toList.length) (fun i H _ hi => by show i < z.cps.size; simpa using hi) (fun H _ => by show z.cps.size ≤ _; simp) Pv h0 (fun _ _ _ _ => trivial)
    (fun i σ H hi p x H' y => by
      obtain ⟨e, c, hc, e2⟩ := y
      subst e e2
      exact hs i c σ _ hc p) hd
end
end L2
namespace L2
open PySem PySem.Spec PyProof.Rows
/-! ### short words: the surroundings of a law as one thing, its defs by their promises -/
structure Gx where
  P : Program
  w : World
  K : PySem.W.Frag
  mg : Str → Option Value
  base : Heap
def Cx.gx (X : Cx) : Gx := ⟨X.prog, X.w, X.K, X.mg, X.base⟩
/-- a def of the top as it stands there -/
def Gx.Raw (g : Gx) (x qual : Str) (st : Stmt) (ps : List Str) : Prop := ∃ f fd, Fun g.K x qual st f fd ∧ Binds g.K fd ps [] ∧ g.mg x = some (.ref f)
/-- .. with its promise, k calls deep -/
def Gx.Fn (g : Gx) (k : Nat) (x : Str) (ps : List Str) (sp : Sp) : Prop := ∃ f fd, FnOk g.P g.w g.K g.mg g.base CX0 k f fd ps sp ∧ Binds g.K fd ps [] ∧ PySem.W.keepIn g.K (.ref f) = true ∧ g.mg x = some (.ref f)
/-- a method of the class at C -/
def Gx.RawM (g : Gx) (C : Addr) (m qual : Str) (st : Stmt) (ps : List Str) : Prop := ∃ f fd, Fun g.K m qual st f fd ∧ Binds g.K fd ps [] ∧ Meth g.K C m f
def Gx.Me (g : Gx) (k : Nat) (C : Addr) (m : Str) (ps : List Str) (sp : Sp) : Prop := ∃ f fd, FnOk g.P g.w g.K g.mg g.base CX0 k f fd ps sp ∧ Binds g.K fd ps [] ∧ Meth g.K C m f
/-- the class's own making -/
def Gx.RawI (g : Gx) (x : Str) (C : Addr) (qual : Str) (st : Stmt) (ps : List Str) : Prop := ∃ f fd, Fun g.K "__init__" qual st f fd ∧ Binds g.K fd ps [] ∧ Mk g.K C f ∧ g.mg x = some (.ref C)
def Gx.Ma (g : Gx) (k : Nat) (x : Str) (C : Addr) (ps : List Str) (sp : Sp) : Prop := ∃ f fd, FnOk g.P g.w g.K g.mg g.base CX0 k f fd ps sp ∧ Binds g.K fd ps [] ∧ Mk g.K C f ∧ g.mg x = some (.ref C)
def Gx.Con (g : Gx) (x : Str) (v : V) : Prop := ∃ u, g.mg x = some u ∧ RelV v u
/-- the body's context -/
abbrev Gx.cx (g : Gx) (N : List Str) (qual : Str) (st : Stmt) (f : Addr) (cdv : Value) (A : Around) (outer : List Env) (s : Shared) (H : Hp) (E : XK) : Cx := (cxOf CX0 g.P g.w g.K g.mg g.base N qual (defScope st) f cdv A outer s H E).nox
def Body (g : Gx) (k : Nat) (N : List Str) (qual : Str) (st : Stmt) (sp : Sp) : Prop := ∀ (f : Addr) (cdv : Value) (A : Around) (outer : List Env) (s : Shared) (H : Hp) (vs : List V) (Q : VK) (E : XK), Room k (g.cx N qual st f cdv A outer s H E).A → sp vs H Q E →
  ∃ t, PSs (g.cx N qual st f cdv A outer s H E) (defBody st) t ∧ t { nx := fun _ H' => Q .non H', rt := Q } (start N vs) H
section
variable {g : Gx} {k : Nat} {x qual m : Str} {st : Stmt} {N ps : List Str} {sp : Sp} {C : Addr}
theorem Gx.Raw.fn (R : g.Raw x qual st ps) (S : FnScope N ps (defScope st)) (len : ∀ vs H Q E, sp vs H Q E → vs.length = ps.length) (b : Body g k N qual st sp) : g.Fn (k + 1) x ps sp := by
  obtain ⟨f, fd, F, bd, hm⟩ := R
  exact ⟨f, fd, F.ok S len fun cdv A outer s H vs Q E hr h => b f cdv A outer s H vs Q E hr h, bd, F.kp, hm⟩
theorem Gx.RawM.me (R : g.RawM C m qual st ps) (S : FnScope N ps (defScope st)) (len : ∀ vs H Q E, sp vs H Q E → vs.length = ps.length) (b : Body g k N qual st sp) : g.Me (k + 1) C m ps sp := by
  obtain ⟨f, fd, F, bd, hm⟩ := R
  exact ⟨f, fd, F.ok S len fun cdv A outer s H vs Q E hr h => b f cdv A outer s H vs Q E hr h, bd, hm⟩
theorem Gx.RawI.ma (R : g.RawI x C qual st ps) (S : FnScope N ps (defScope st)) (len : ∀ vs H Q E, sp vs H Q E → vs.length = ps.length) (b : Body g k N qual st sp) : g.Ma (k + 1) x C ps sp := by
  obtain ⟨f, fd, F, bd, hm, hg⟩ := R
  exact ⟨f, fd, F.ok S len fun cdv A outer s H vs Q E hr h => b f cdv A outer s H vs Q E hr h, bd, hm, hg⟩
theorem Gx.Fn.mono {j : Nat} (F : g.Fn j x ps sp) (h : j ≤ k) : g.Fn k x ps sp := by
  obtain ⟨f, fd, F, r⟩ := F
  exact ⟨f, fd, F.mono h, r⟩
theorem Gx.Me.mono {j : Nat} (F : g.Me j C m ps sp) (h : j ≤ k) : g.Me k C m ps sp := by
  obtain ⟨f, fd, F, r⟩ := F
  exact ⟨f, fd, F.mono h, r⟩
/-- nothing can be asked: no call is left -/
theorem Gx.Raw.none (R : g.Raw x qual st ps) (no : ∀ vs H Q E, ¬ sp vs H Q E) : g.Fn k x ps sp := by
  obtain ⟨f, fd, F, bd, hm⟩ := R
  exact ⟨f, fd, ⟨fun vs H Q E h => absurd h (no vs H Q E), fun A outer s H args us vs Q E _ _ _ _ h => absurd h (no vs H Q E)⟩, bd, F.kp, hm⟩
end
section
variable {g : Gx} {X : Cx} {k j : Nat} {x m : Str} {ps : List Str} {sp : Sp} {C : Addr} {e o : Expr} {es : List Expr} {t : TA} {ta : TE} {p pos apos : Pos}
/-- f(e, ..) -/
theorem pe_fn (F : g.Fn j x ps sp) (hr : Room k X.A) (ha : PA X (e :: es) t) (hj : j ≤ k := by omega) (hX : X.gx = g := by rfl) (hg : Gl X x := by rfl) (hdb : (x == ("__debug__" : Str)) = false := by decide)
    (he : starEach (e :: es) X.env = (false, eval e X.env) :: starEach es X.env := by rfl) (hpl : (backTo pos (starEach es X.env)).any (·.1) = false := by rfl) : PE X (.Call (.Name x p) (e :: es) [] pos) (tCall sp [] E0 t) := by
  subst hX
  obtain ⟨f, fd, F, b, kp, hm⟩ := F
  exact pe_call F (hr.mono hj) hg hm kp b .nil pass0 ha hdb he hpl
/-- o.m(e, ..) -/
theorem pe_me {pl : Sem Bool} (F : g.Me j C m ps sp) (c : Cls g.K C) (hr : Room k X.A) (ho : PE X o ta) (ha : PA X (e :: es) t) (hj : j ≤ k := by omega) (hX : X.gx = g := by rfl)
    (hst : starEach (e :: es) X.env = (false, eval e X.env) :: starEach es X.env := by rfl) (hpl : (backTo pos (starEach es X.env)).any (·.1) = false := by rfl)
    (ht : eval (.Call (.Attribute o m apos) (e :: es) [] pos) X.env = (do
      let ov ← eval o X.env
      standAt apos.atName
      let (f, first) ← holding [ov] (getMethod ov m pl)
      callWith pos f first (backTo pos (starEach (e :: es) X.env)) (backToKw pos (keywordEach [] X.env))) := by rfl) : PE X (.Call (.Attribute o m apos) (e :: es) [] pos) (tMeth C m sp [] E0 ta t) := by
  subst hX
  obtain ⟨f, fd, F, b, hm⟩ := F
  exact pe_meth ho c hm F (hr.mono hj) b .nil pass0 ha hst hpl ht
/-- o.m() -/
theorem pe_me0 {pl : Sem Bool} (F : g.Me j C m ps sp) (c : Cls g.K C) (hr : Room k X.A) (ho : PE X o ta) (hj : j ≤ k := by omega) (hX : X.gx = g := by rfl)
    (ht : eval (.Call (.Attribute o m apos) [] [] pos) X.env = (do
      let ov ← eval o X.env
      standAt apos.atName
      let (f, first) ← holding [ov] (getMethod ov m pl)
      callWith pos f first (backTo pos (starEach [] X.env)) (backToKw pos (keywordEach [] X.env))) := by rfl) : PE X (.Call (.Attribute o m apos) [] [] pos) (tMeth C m sp [] E0 ta tNil) := by
  subst hX
  obtain ⟨f, fd, F, b, hm⟩ := F
  exact pe_meth0 ho c hm F (hr.mono hj) b .nil pass0 ht
/-- C(e, ..) -/
theorem pe_ma (F : g.Ma j x C ps sp) (hr : Room k X.A) (ha : PA X (e :: es) t) (hj : j + 1 ≤ k := by omega) (hX : X.gx = g := by rfl) (hg : Gl X x := by rfl) (hdb : (x == ("__debug__" : Str)) = false := by decide)
    (he : starEach (e :: es) X.env = (false, eval e X.env) :: starEach es X.env := by rfl) (hpl : (backTo pos (starEach es X.env)).any (·.1) = false := by rfl) : PE X (.Call (.Name x p) (e :: es) [] pos) (tMake C sp [] E0 t) := by
  subst hX
  obtain ⟨f, fd, F, b, M, hm⟩ := F
  exact pe_make M F (hr.mono hj) hg hm b .nil pass0 ha hdb he hpl
/-- a constant of the top -/
theorem pe_gc {v : V} (F : g.Con x v) (hX : X.gx = g := by rfl) (hg : Gl X x := by rfl) (hd : (x == ("__debug__" : Str)) = false := by decide) : PE X (.Name x pos) (tC v) := by
  subst hX
  obtain ⟨u, hm, r⟩ := F
  exact pe_glob hg hm r hd
/-- a built-in function, type -/
theorem pe_bf {id : String} {r : List V → Hp → VK → Prop} (hm : g.mg x = none) (hc : CallR X (.builtin id) r) (ha : PA X (e :: es) t) (hv : bootBuiltins x = some (.builtin id) := by decide +kernel) (hX : X.gx = g := by rfl) (hg : Gl X x := by rfl) (hn : x ≠ "__name__" := by decide) (hdb : (x == ("__debug__" : Str)) = false := by decide)
    (he : starEach (e :: es) X.env = (false, eval e X.env) :: starEach es X.env := by rfl) (hpl : (backTo pos (starEach es X.env)).any (·.1) = false := by rfl) : PE X (.Call (.Name x p) (e :: es) [] pos) (tCB r t) := by
  subst hX
  exact pe_callB hc hg hm hv ha hn hdb he hpl
theorem pe_bt {T : String} {r : List V → Hp → VK → Prop} (hm : g.mg x = none) (hc : CallR X (.type T) r) (ha : PA X (e :: es) t) (hv : bootBuiltins x = some (.type T) := by decide +kernel) (hX : X.gx = g := by rfl) (hg : Gl X x := by rfl) (hn : x ≠ "__name__" := by decide) (hdb : (x == ("__debug__" : Str)) = false := by decide)
    (he : starEach (e :: es) X.env = (false, eval e X.env) :: starEach es X.env := by rfl) (hpl : (backTo pos (starEach es X.env)).any (·.1) = false := by rfl) : PE X (.Call (.Name x p) (e :: es) [] pos) (tCB r t) := by
  subst hX
  exact pe_callTy hc hg hm hv ha hn hdb he hpl
/-- a built-in type's name -/
theorem pe_bn {T : String} (hm : g.mg x = none) (hv : bootBuiltins x = some (.type T) := by decide +kernel) (hX : X.gx = g := by rfl) (hg : Gl X x := by rfl) (hn : x ≠ "__name__" := by decide) (hdb : (x == ("__debug__" : Str)) = false := by decide) : PE X (.Name x pos) (tC (.ty T)) := by
  subst hX
  exact pe_bltn hg hm hv rfl hn hdb
end
theorem upd_id {H : Hp} {p : Addr} {o : HO} (h : H p = some o) : upd H p o = H := by
  funext b
  unfold upd
  split
  · rename_i e; rw [e, h]
  · rfl
/-! ### code lists as texts -/
def S (l : List Nat) : Str := ⟨l.toArray⟩
theorem S_list (l : List Nat) : (S l).cps.toList = l := by simp [S]
theorem S_len (l : List Nat) : (S l).length = l.length := by simp [S, Str.length]
theorem S_app (a b : List Nat) : S a ++ S b = S (a ++ b) := by
  show Str.append (S a) (S b) = S (a ++ b)
  simp [Str.append, S]
theorem S_inj {a b : List Nat} (h : S a = S b) : a = b := by
  have := congrArg (fun x : Str => x.cps.toList) h
  simpa [S_list] using this
theorem cutS_nat (l : List Nat) (i j : Nat) : cutS (S l) (some (i : Int)) (some (j : Int)) = S ((l.drop i).take (j - i)) := by
  unfold cutS
  rw [S_list, S_len, HT.sIx_nat, HT.sIx_nat]
  show S _ = S _
  congr 1
  by_cases h : i ≤ l.length
  · rw [Nat.min_eq_left h]
    by_cases h2 : j ≤ l.length
    · rw [Nat.min_eq_left h2]
    · rw [Nat.min_eq_right (by omega)]
      rw [List.take_of_length_le (by simp), List.take_of_length_le (by simp; omega)]
  · have e : min i l.length = l.length := Nat.min_eq_right (by omega)
    rw [e, List.drop_eq_nil_of_le (Nat.le_refl l.length), List.drop_eq_nil_of_le (show l.length ≤ i by omega)]
    simp
theorem cutS_lo (l : List Nat) (i : Nat) : cutS (S l) (some (i : Int)) none = S (l.drop i) := by
  unfold cutS
  rw [S_list, S_len, HT.sIx_nat, HT.sIx_none]
  show S _ = S _
  congr 1
  by_cases h : i ≤ l.length
  · rw [Nat.min_eq_left h, List.take_of_length_le (by simp)]
  · rw [Nat.min_eq_right (by omega), List.drop_eq_nil_of_le (Nat.le_refl _), List.drop_eq_nil_of_le (by omega)]
    simp
theorem cutS_hi (l : List Nat) (j : Nat) : cutS (S l) none (some (j : Int)) = S (l.take j) := by
  unfold cutS
  rw [S_list, S_len, HT.sIx_nat, HT.sIx_none]
  show S _ = S _
  congr 1
  simp only [List.drop_zero, Nat.sub_zero]
  by_cases h : j ≤ l.length
  · rw [Nat.min_eq_left h]
  · rw [Nat.min_eq_right (by omega), List.take_of_length_le (by omega), List.take_of_length_le (by omega)]
def joinL (s : List Nat) : List (List Nat) → List Nat
  | [] => []
  | [x] => x
  | x :: y :: r => x ++ s ++ joinL s (y :: r)
end L2
namespace L2
open PySem PySem.Spec PyProof.Rows
/-! ### what the top has written -/
section
variable {K : PySem.W.Frag} {h : Heap} {mg : Str → Option Value} {P : Program} {w : World} {base : Heap} {f C : Addr} {x qual m : Str} {st : Stmt} {ps : List Str} {oc kV dc pm cd ct : Value} {od an : Option Addr} {sl : Array (Option Value)}
theorem raw_mk (X : K.In h) (G : h.Ns mainGlobals mg) (ps : List Str)
    (a : PySem.W.nsIn K mainGlobals x = some (some (.ref f))) (l : K.lookup f = some ⟨oc, od, .func (PySem.W.fnOf x x (defArgs st) (defBody st) (defScope st) .none kV dc pm an cd ct), sl⟩) (c : PySem.W.codeIn K cd x = true) (k : PySem.W.keepIn K (.ref f) = true)
    (b : ∀ (kV doc pm : Value) (an : Option Addr) (cdv ct : Value) (us : List Value), us.length = ps.length → bindArgs (PySem.W.fnOf x x (defArgs st) (defBody st) (defScope st) .none kV doc pm an cdv ct) ⟨us, []⟩ = pure (ps.zip us)) :
    ∀ P w base, (Gx.mk P w K mg base).Raw x x st ps := fun P w base =>
  have F := fun_mk (st := st) l c k
  ⟨f, _, F, F.binds b, PySem.W.mg_of X G a⟩
theorem rawM_mk (X : K.In h) (G : h.Ns mainGlobals mg) (ps : List Str)
    (a : PySem.W.findIn K (.ref C) m = some (some (.ref f))) (i : PySem.W.isFn K (.ref f) = true) (l : K.lookup f = some ⟨oc, od, .func (PySem.W.fnOf m qual (defArgs st) (defBody st) (defScope st) .none kV dc pm an cd ct), sl⟩) (c : PySem.W.codeIn K cd qual = true) (k : PySem.W.keepIn K (.ref f) = true)
    (b : ∀ (kV doc pm : Value) (an : Option Addr) (cdv ct : Value) (us : List Value), us.length = ps.length → bindArgs (PySem.W.fnOf m qual (defArgs st) (defBody st) (defScope st) .none kV doc pm an cdv ct) ⟨us, []⟩ = pure (ps.zip us)) :
    ∀ P w base, (Gx.mk P w K mg base).RawM C m qual st ps := fun P w base =>
  have F := fun_mk (st := st) l c k
  ⟨f, _, F, F.binds b, ⟨a, i, k⟩⟩
theorem rawI_mk (X : K.In h) (G : h.Ns mainGlobals mg) (ps : List Str) (aC : PySem.W.nsIn K mainGlobals x = some (some (.ref C))) (mk : PySem.W.makesIn K C = true) (kc : PySem.W.keepIn K (.ref C) = true)
    (a : PySem.W.findIn K (.ref C) "__init__" = some (some (.ref f))) (i : PySem.W.isFn K (.ref f) = true) (l : K.lookup f = some ⟨oc, od, .func (PySem.W.fnOf "__init__" qual (defArgs st) (defBody st) (defScope st) .none kV dc pm an cd ct), sl⟩) (c : PySem.W.codeIn K cd qual = true) (k : PySem.W.keepIn K (.ref f) = true)
    (b : ∀ (kV doc pm : Value) (an : Option Addr) (cdv ct : Value) (us : List Value), us.length = ps.length → bindArgs (PySem.W.fnOf "__init__" qual (defArgs st) (defBody st) (defScope st) .none kV doc pm an cdv ct) ⟨us, []⟩ = pure (ps.zip us)) :
    ∀ P w base, (Gx.mk P w K mg base).RawI x C qual st ps := fun P w base =>
  have F := fun_mk (st := st) l c k
  ⟨f, _, F, F.binds b, ⟨mk, a, i, kc⟩, PySem.W.mg_of X G aC⟩
theorem conI_mk (X : K.In h) (G : h.Ns mainGlobals mg) {i : Int} {t : Tok} (a : PySem.W.nsIn K mainGlobals x = some (some (.int i t))) : ∀ P w base, (Gx.mk P w K mg base).Con x (.int i) := fun P w base => ⟨_, PySem.W.mg_of X G a, t, rfl⟩
end
/-- the law's own promise -/
def spTrue (K : PySem.W.Frag) : Sp := fun vs H Q _ => ∃ (a : Addr) (ns : List Int), vs = [.ref a] ∧ SqL K H a (ns.map V.int) ∧ ns.length ≤ 63 ∧ ∀ H', Q (.bl true) H'
/-- the law's def as it stands at the top -/
def LawRaw (K : PySem.W.Frag) (mg : Str → Option Value) (st : Stmt) (x n : Str) : Prop := ∃ f fd, Fun K n n st f fd ∧ (∀ (s : Shared) (u : Value), BindsTo s fd ⟨[u], []⟩ [(x, u)]) ∧ mg n = some (.ref f)
theorem lawRaw_mk {K : PySem.W.Frag} {h : Heap} {mg : Str → Option Value} {f : Addr} {x n : Str} {st : Stmt} {oc kV dc pm cd ct : Value} {od an : Option Addr} {sl : Array (Option Value)} (X : K.In h) (G : h.Ns mainGlobals mg)
    (a : PySem.W.nsIn K mainGlobals n = some (some (.ref f))) (l : K.lookup f = some ⟨oc, od, .func (PySem.W.fnOf n n (defArgs st) (defBody st) (defScope st) .none kV dc pm an cd ct), sl⟩) (c : PySem.W.codeIn K cd n = true) (k : PySem.W.keepIn K (.ref f) = true)
    (b : ∀ (kV doc pm : Value) (an : Option Addr) (cdv ct : Value) (s : Shared) (u : Value), BindsTo s (PySem.W.fnOf n n (defArgs st) (defBody st) (defScope st) .none kV doc pm an cdv ct) ⟨[u], []⟩ [(x, u)]) : LawRaw K mg st x n :=
  ⟨f, _, fun_mk (st := st) l c k, b kV dc pm an cd ct, PySem.W.mg_of X G a⟩
/-- from the law's body to the claim -/
theorem walk_gx {l : PySem.W.OpenLaw} {q : Program} {loose : List Str} {XP : (Str → Option Value) → Heap → Prop} {YP : World → Heap → Prop} {d : DefRec} {K : Params → PySem.W.Frag} (k : Nat) (x : Str) (st : Stmt) (N : List Str) (hn : l.most = some 63) (hdf : d.params.defaults = []) (hk : Room (k + 1) callerA) (S : FnScope N [x] (defScope st))
    (hY : ∀ (w : World) (h : Heap), YP w h → (K w.params).In h)
    (F : ∀ (w : World) (mg : Str → Option Value) (h : Heap), (K w.params).In h → h.Ns mainGlobals mg → LawRaw (K w.params) mg st x d.name ∧ ∀ base, Body (Gx.mk l.prog w (K w.params) mg base) k N d.name st (spTrue (K w.params))) :
    PySem.W.WalkO q loose XP YP l.row.toRowW d [] (fun f vs => PySem.call f vs) := by
  refine L2.walk_of (n := 63) (k := k + 1) (x := x) (CX := fun _ => CX0) (sp := fun w => spTrue (K w.params)) hn (by decide) hdf hk hY (fun w mg fa h KX G hmg => ?_) (fun _ _ a ns hl _ hS => ⟨a, ns, rfl, hS, hl, fun _ => rfl⟩) fun _ _ _ _ _ z => z
  obtain ⟨⟨f, fd, Fu, hb, hm⟩, B⟩ := F w mg h KX G
  have e := hmg.symm.trans hm
  cases e
  exact ⟨fd, hb, fun base _ _ => Fu.ok S (fun vs H Q E h => by obtain ⟨a, ns, rfl, _⟩ := h; rfl) fun cdv A outer s H vs Q E hr h => B base fa cdv A outer s H vs Q E hr h⟩
end L2
namespace L2
open PySem PySem.Spec PyProof.Rows
section
variable {X : Cx}
/-- a number's bits, by a power above it -/
theorem bits_lt {a : Int} {m : Nat} (h : a.natAbs < 2 ^ m) : Builtin.Int.intBits a ≤ m := by
  unfold Builtin.Int.intBits
  split
  · omega
  · rename_i h0
    have h0 : a.natAbs ≠ 0 := by simpa using h0
    have := (Nat.log2_lt h0).mpr h
    omega
/-- a product whose bits are told -/
def CMulB (i j : Int) : Prop := ∃ m n : Nat, i.natAbs < 2 ^ m ∧ j.natAbs < 2 ^ n ∧ m + n ≤ 100000000
theorem CMulB.ok {i j : Int} (h : CMulB i j) : IntMulOk i j := by
  obtain ⟨m, n, h1, h2, h3⟩ := h
  exact IntMulOk.of_le (bits_lt h1) (bits_lt h2) (by omega)
def CDivL (i j : Int) : Prop := 0 < j ∧ j.natAbs < 2 ^ 9000
theorem op_fdivL : OpR X (binaryOp .FloorDiv) (rI CDivL fun i j => .int (i / j)) := opI fun i j _ _ _ _ _ hc q => by
  have h1 : (0 : Int) < j := hc.1
  have h2 := hc.2
  have h3 : j.natAbs ≠ 0 := by omega
  exact floordiv_int (by omega) (by rw [Int.fdiv_eq_ediv_of_nonneg i (by omega)]; exact q) (.inl (PyProof.noPylong_of_log2 ((Nat.log2_lt h3).mpr h2)))
theorem small_div {j : Int} (h : 0 < j) (h2 : j < 1073741824) {i : Int} : CDivL i j := ⟨h, Nat.lt_of_lt_of_le (show j.natAbs < 2 ^ 30 by omega) (Nat.pow_le_pow_right (by decide) (by decide))⟩
end
end L2
namespace L2
open PySem PySem.Spec PyProof.Rows
theorem cxOf_K {CX : CXT} {P : Program} {w : World} {K : PySem.W.Frag} {mg : Str → Option Value} {base : Heap} {N : List Str} {qual : Str} {scope : Scope} {f : Addr} {cd : Value} {A : Around} {outer : List Env} {s : Shared} {H : Hp} {E : XK} :
    (cxOf CX P w K mg base N qual scope f cd A outer s H E).K = K := rfl
theorem nox_K {X : Cx} : X.nox.K = X.K := rfl
/-! loops, said of the reading itself -/
section
variable {g : TG} {tb : TS} {D : Ends} {σ : St} {H : Hp}
theorem tFor_range1 {ta : TA} {n : Nat} (Pv : Nat → St → Hp → Prop) (ha : ∀ R : List V → Hp → Prop, R [.int n] H → ta σ H R) (hn : n < 2 ^ 62) (h0 : Pv 0 σ H)
    (hs : ∀ i σ H, i < n → Pv i σ H → g (.int i) σ H fun σ2 H2 => tb { D with nx := Pv (i + 1), ct := Pv (i + 1), bk := D.nx } σ2 H2) (hd : ∀ σ H, Pv n σ H → D.nx σ H) : tFor (iRng1 ta) g tb D σ H := by
  refine ha _ ⟨n, rfl, by omega, by omega, ?_⟩
  refine for_range (lo := 0) (n := n) Pv h0 (fun i σ H hi p => ?_) hd
  have e : (0 : Int) + i = i := by omega
  rw [e]; exact hs i σ H hi p
end
end L2
namespace L2
open PySem PySem.Spec PyProof.Rows
section
variable {X : Cx}
end
/-! ### enumerate over a list -/
/-- what enumerate yields: pairs of a place and a thing, each a new tuple -/
def Ite (G : Hp → List V → Prop) : It :=
  ⟨fun i H => ∃ xs x, G H xs ∧ xs[i]? = some x, fun i H v H' => ∃ T, v = .ref T ∧ H T = none ∧ ∀ xs x, G H xs → xs[i]? = some x → H' = upd H T (.tup [.int i, x]), fun i H => ∃ xs, G H xs ∧ xs.length ≤ i⟩
section
variable {X : Cx} {elts : List Expr} {kk : Nat} {tpos : Pos}
def iEnumL (K : PySem.W.Frag) (ta : TA) : TI := fun σ H R => ta σ H fun vs H1 => ∃ a xs, vs = [.ref a] ∧ SqL K H1 a xs ∧ R (Ite fun H xs => SqL K H a xs) H1
end
end L2
namespace L2
open PySem PySem.Spec PyProof.Rows
/-! ### == and != of data of any depth -/
mutual
/-- the data that a value of the heap stands for -/
inductive Den (K : PySem.W.Frag) (H : Hp) : V → PyData → Prop
  | non : Den K H .non .none
  | bl (b : Bool) : Den K H (.bl b) (.bool b)
  | int (i : Int) : Den K H (.int i) (.int i)
  | str (x : Str) (h : PyData.strOk x = true) : Den K H (.str x) (.str x)
  | lst {a : Addr} {vs : List V} {ds : List PyData} : SqL K H a vs → Dens K H vs ds → Den K H (.ref a) (.list ds)
  | tup {a : Addr} {vs : List V} {ds : List PyData} : SqT K H a vs → Dens K H vs ds → Den K H (.ref a) (.tuple ds)
inductive Dens (K : PySem.W.Frag) (H : Hp) : List V → List PyData → Prop
  | nil : Dens K H [] []
  | cons {v : V} {d : PyData} {vs : List V} {ds : List PyData} : Den K H v d → Dens K H vs ds → Dens K H (v :: vs) (d :: ds)
end
mutual
theorem Den.lay {K : PySem.W.Frag} {H : Hp} : ∀ {v : V} {d : PyData}, Den K H v d → d.canLay0 = true
  | _, _, .non => rfl
  | _, _, .bl b => rfl
  | _, _, .int i => rfl
  | _, _, .str x h => by simpa [PyData.canLay0] using h
  | _, _, .lst _ hs => by rw [PyData.canLay0]; exact hs.lay
  | _, _, .tup _ hs => by rw [PyData.canLay0]; exact hs.lay
theorem Dens.lay {K : PySem.W.Frag} {H : Hp} : ∀ {vs : List V} {ds : List PyData}, Dens K H vs ds → PyData.canLayAll0 ds = true
  | _, _, .nil => rfl
  | _, _, .cons h hs => by rw [PyData.canLayAll0, h.lay, hs.lay]; rfl
end
section
variable {X : Cx}
mutual
theorem Den.reads {pins : List (Addr × Obj)} {σ : St} {H : Hp} {s : Shared} (I : Inv X pins σ H s) : ∀ {v : V} {d : PyData} {u : Value}, Den X.K H v d → RelV v u → ∃ as, Reads s.heap u d as
  | _, _, u, .non, r => by cases (show u = .none from r); exact ⟨_, .none⟩
  | _, _, u, .bl b, r => by cases (show u = .bool b from r); exact ⟨_, .bool b⟩
  | _, _, u, .int i, r => by obtain ⟨t, rfl⟩ := r; exact ⟨_, .int i t⟩
  | _, _, u, .str x h, r => by obtain ⟨t, rfl⟩ := r; exact ⟨_, .str x t⟩
  | _, _, u, .lst (a := a) h hs, r => by
    cases (show u = .ref a from r)
    obtain ⟨its, rv, pl, hz⟩ := I.list h
    obtain ⟨as, ra⟩ := hs.reads I rv
    obtain ⟨o, e1, e2, n, e3⟩ := pl.isList
    exact ⟨_, .list e1 e2 e3 (by simpa using ra)⟩
  | _, _, u, .tup (a := a) h hs, r => by
    cases (show u = .ref a from r)
    obtain ⟨its, rv, pl, hz⟩ := I.tuple h
    obtain ⟨as, ra⟩ := hs.reads I rv
    obtain ⟨o, e1, e2, n, e3⟩ := (show s.heap.IsTuple a its.toArray from pl)
    exact ⟨_, .tuple e1 e2 e3 (by simpa using ra)⟩
theorem Dens.reads {pins : List (Addr × Obj)} {σ : St} {H : Hp} {s : Shared} (I : Inv X pins σ H s) : ∀ {vs : List V} {ds : List PyData} {us : List Value}, Dens X.K H vs ds → Vals vs us → ∃ as, ReadsAll s.heap us ds as
  | _, _, us, .nil, r => by cases r; exact ⟨_, .nil⟩
  | _, _, us, .cons h hs, r => by
    cases r with
    | cons r rr =>
      obtain ⟨as, ra⟩ := h.reads I r
      obtain ⟨bs, rb⟩ := hs.reads I rr
      exact ⟨_, .cons ra rb⟩
end
theorem op_eqD (hu : X.A.units + 64 < cLine) : OpR X (compareOp .Eq) (fun x y H Q => ∃ d e, Den X.K H x d ∧ Den X.K H y e ∧ d.depth ≤ 64 ∧ Q (.bl (PyData.eqv d e)) H) := by
  intro pins s σ H x y v u Q I rx ry h
  obtain ⟨d, e, hd, he, dp, q⟩ := h
  obtain ⟨as, ra⟩ := hd.reads I rx
  obtain ⟨bs, rb⟩ := he.reads I ry
  exact SeqAt.rcAt_reads ra rb hd.lay he.lay (by omega) _ _ _ _ ⟨.bl _, H, I, rfl, q⟩
theorem op_neD (hu : X.A.units + 64 < cLine) : OpR X (compareOp .NotEq) (fun x y H Q => ∃ d e, Den X.K H x d ∧ Den X.K H y e ∧ d.depth ≤ 64 ∧ Q (.bl (!PyData.eqv d e)) H) := by
  intro pins s σ H x y v u Q I rx ry h
  obtain ⟨d, e, hd, he, dp, q⟩ := h
  obtain ⟨as, ra⟩ := hd.reads I rx
  obtain ⟨bs, rb⟩ := he.reads I ry
  exact SeqAt.compareNe_reads ra rb hd.lay he.lay (by omega) ⟨.bl _, H, I, rfl, q⟩
end
/-! ### comprehensions -/
theorem take_snoc {α : Type} {l : List α} {i : Nat} {x : α} (h : l[i]? = some x) : l.take (i + 1) = l.take i ++ [x] := by
  obtain ⟨hi, hc⟩ := List.getElem?_eq_some_iff.mp h
  rw [List.take_succ_eq_append_getElem hi, hc]
theorem lc_map {J : It} {P : Hp → Prop} {xs : List V} (hJ : ItSeq J P xs) {src : List (Option Nat)} {te : TE} {σ : St} {H1 : Hp} {Q : VK} {D : Addr} (ys : List V) (hP : ∀ H', Same H1 H' → P H') (hD : H1 D = none) (hl : ys.length = xs.length) (hlen : xs.length ≤ 100000)
    (step : ∀ (i : Nat) x y H', xs[i]? = some x → ys[i]? = some y → Same H1 H' → ∀ R : VK, (∀ H'', Same H' H'' → R y H'') → te (some x :: capSt src σ) H' R)
    (fin : ∀ H', Same H1 H' → H' D = some (.lst ys) → Q (.ref D) H') : LC (none :: src) J (gName 0) tYes te σ H1 Q D := by
  have h6 : 100000 < sizeLine := by decide
  refine lc_on hJ (fun i zs σ' H' => zs = ys.take i ∧ (∃ o, σ' = o :: capSt src σ) ∧ Same H1 H' ∧ H' D = some (.lst zs)) ⟨by simp, ⟨none, rfl⟩, .upd_new hD _, upd_same⟩ (fun i zs σ' H' p => ⟨hP _ p.2.2.1, p.2.2.2⟩) (gName_mono 0) ?_ ?_
  · rintro i zs σ' H' x hx ⟨rfl, ⟨o, rfl⟩, sm, hd⟩
    have hi := (List.getElem?_eq_some_iff.mp hx).1
    have hy : ys[i]? = some (ys[i]'(by omega)) := List.getElem?_eq_getElem _
    show te (some x :: capSt src σ) H' _
    refine step i x _ H' hx hy sm _ fun H'' s2 => ⟨s2 _ _ hd, ?_, (take_snoc hy).symm, ⟨_, rfl⟩, .upd_over hD (sm.trans s2) _, upd_same⟩
    rw [List.length_take]; omega
  · rintro zs σ' H' ⟨rfl, _, sm, hd⟩
    rw [← hl, List.take_length] at hd
    exact fin H' sm hd
end L2
namespace L2
open PySem PySem.Spec PyProof.Rows
/-! a block cut behind its first statements -/
section
variable {a b c d e r : TS} {D : Ends} {σ : St} {H : Hp} (M : St → Hp → Prop) (h1 : ∀ σ H, M σ H → r D σ H)
include h1
theorem cut1 (h2 : ∀ N : St → Hp → Prop, (∀ σ H, M σ H → N σ H) → a { D with nx := N } σ H) : tSeq a r D σ H := h2 (r D) h1
theorem cut2 (h2 : ∀ N : St → Hp → Prop, (∀ σ H, M σ H → N σ H) → tSeq a b { D with nx := N } σ H) : tSeq a (tSeq b r) D σ H := h2 (r D) h1
theorem cut3 (h2 : ∀ N : St → Hp → Prop, (∀ σ H, M σ H → N σ H) → tSeq a (tSeq b c) { D with nx := N } σ H) : tSeq a (tSeq b (tSeq c r)) D σ H := h2 (r D) h1
theorem cut4 (h2 : ∀ N : St → Hp → Prop, (∀ σ H, M σ H → N σ H) → tSeq a (tSeq b (tSeq c d)) { D with nx := N } σ H) : tSeq a (tSeq b (tSeq c (tSeq d r))) D σ H := h2 (r D) h1
end
theorem scal_ii (i j : Int) : scal (.int i) (.int j) = true := rfl
theorem scal_ss (i j : Str) : scal (.str i) (.str j) = true := rfl
end L2
namespace L2
open PySem PySem.Spec PyProof.Rows
section
variable {X : Cx} {tg : Expr}
def CPowB (i j : Int) : Prop := 0 ≤ j ∧ ∃ m : Nat, i.natAbs < 2 ^ m ∧ (m : Int) * j ≤ 2 ^ 27
/-- hi, hi - 1, .. (n of them) -/
def Itd (hi : Int) (n : Nat) : It := ⟨fun i _ => i < n, fun i H x H' => H' = H ∧ x = .int (hi - i), fun i _ => n ≤ i⟩
def iRngD (ta : TA) : TI := fun σ H R => ta σ H fun vs H1 => ∃ i j : Int, vs = [.int i, .int j, .int (-1)] ∧ (-(2 ^ 62) ≤ i ∧ i < 2 ^ 62 ∧ -(2 ^ 62) ≤ j ∧ j < 2 ^ 62) ∧ R (Itd i (i - j).toNat) H1
end
end L2
namespace L2
open PySem PySem.Spec PyProof.Rows
/-- for over a list that is made on the spot -/
theorem tFor_listN {g : TG} {tb : TS} {D : Ends} {σ : St} {H : Hp} {K : PySem.W.Frag} {tl : TE} {xs : List V} (Pv : Addr → Nat → St → Hp → Prop) (ha : ∀ R : V → Hp → Prop, (∀ c H1, Pv c 0 σ H1 → R (.ref c) H1) → tl σ H R) (hl : ∀ c i σ H, i ≤ xs.length → Pv c i σ H → SqL K H c xs)
    (hs : ∀ c (i : Nat) x σ H, xs[i]? = some x → Pv c i σ H → g x σ H fun σ2 H2 => tb { D with nx := Pv c (i + 1), ct := Pv c (i + 1), bk := D.nx } σ2 H2) (hd : ∀ c σ H, Pv c xs.length σ H → D.nx σ H) : tFor (iList K tl) g tb D σ H := by
  refine ha _ fun c H1 h0 => ⟨c, rfl, ⟨xs, hl c 0 σ H1 (Nat.zero_le _) h0⟩, ?_⟩
  exact for_list (Pv c) h0 (hl c) (hs c) (hd c)
end L2
namespace L2
open PySem PySem.Spec PyProof.Rows
section
variable {src : List (Option Nat)} {te : TE} {σ : St} {H : Hp} {Q : VK}
end
end L2
namespace L2
open PySem PySem.Spec PyProof.Rows
section
variable {src : List (Option Nat)} {te : TE} {σ : St} {H : Hp} {Q : VK}
end
/-! the same within a comprehension, whose own block says the text's objects in its own words -/
section
variable {X : Cx} {K : PySem.W.Frag}
end
end L2
namespace L2
open PySem PySem.Spec PyProof.Rows
section
variable {tb : TS} {D : Ends} {σ : St} {H : Hp}
end
end L2
namespace L2
open PySem PySem.Spec PyProof.Rows
section
variable {X : Cx} {e st : Expr} {te ts : TE} {pos p2 : Pos}
/-- xs[::-1] of a list: a new list -/
def tRev (K : PySem.W.Frag) (te ts : TE) : TE := fun σ H Q => te σ H fun x H1 => ts σ H1 fun y H2 => y = .int (-1) ∧ ∃ a xs, x = .ref a ∧ SqL K H2 a xs ∧ ∀ p, H2 p = none → Q (.ref p) (upd H2 p (.lst xs.reverse))
end
end L2
namespace L2
open PySem PySem.Spec PyProof.Rows
section
variable {X : Cx} {pos : Pos}
def rBits : V → List V → Hp → VK → Prop := fun x vs H Q => ∃ i, x = .int i ∧ vs = [] ∧ Q (.int (Builtin.Int.intBits i : Nat)) H
def rFind : V → List V → Hp → VK → Prop := fun x vs H Q => ∃ (z y : Str), x = .str z ∧ vs = [.str y] ∧ Q (.int (Txt.find z y)) H
def tDict0 : TE := fun _ H Q => ∀ p, H p = none → Q (.ref p) (upd H p (.dK []))
end
/-- a tuple of texts of the module's top -/
def Gx.ConT (g : Gx) (x : Str) (xs : List V) : Prop := ∃ c, g.mg x = some (.ref c) ∧ ∀ H, SqT g.K H c xs
theorem conT_mk {K : PySem.W.Frag} {h : Heap} {mg : Str → Option Value} {x : Str} {i : Addr} {dc : Option Addr} {its : Array Value} {n : Nat} {sl : Array (Option Value)} {xs : List V} (X : K.In h) (G : h.Ns mainGlobals mg)
    (a : PySem.W.nsIn K mainGlobals x = some (some (.ref i))) (l : K.lookup i = some ⟨.type "tuple", dc, .seq its n, sl⟩) (hz : its.size ≤ sizeLine) (r : Vals xs its.toList) : ∀ P w base, (Gx.mk P w K mg base).ConT x xs :=
  fun P w base => ⟨i, PySem.W.mg_of X G a, fun H => .inr ⟨_, its, n, l, rfl, rfl, hz, r⟩⟩
section
variable {X : Cx} {g : Gx} {x : Str} {pos : Pos}
def tConT (K : PySem.W.Frag) (xs : List V) : TE := fun _ H Q => ∀ c, SqT K H c xs → Q (.ref c) H
theorem pe_gt {xs : List V} (F : g.ConT x xs) (hX : X.gx = g := by rfl) (hg : Gl X x := by rfl) (hd : (x == ("__debug__" : Str)) = false := by decide) : PE X (.Name x pos) (tConT g.K xs) := by
  subst hX
  obtain ⟨c, e, hc⟩ := F
  exact fun pins s σ H Q I h => pe_glob hg e (show RelV (.ref c) (.ref c) from rfl) hd pins s σ H Q I (h c (hc H))
end
end L2
namespace L2
open PySem PySem.Spec PyProof.Rows
theorem iteN {c A B : Prop} [Decidable c] (h : ¬ c) (hb : B) : if c then A else B := by rw [if_neg h]; exact hb
theorem iteY {c A B : Prop} [Decidable c] (h : c) (ha : A) : if c then A else B := by rw [if_pos h]; exact ha
section
variable {src : List (Option Nat)} {te : TE} {σ : St} {H : Hp} {Q : VK}
theorem tLC_str {tl : TE} {l : List Nat} (ys : List V) (ha : ∀ R : V → Hp → Prop, R (.str (S l)) H → tl σ H R) (hl : ys.length = l.length) (hlen : l.length ≤ 100000)
    (step : ∀ (i c : Nat) y H', l[i]? = some c → ys[i]? = some y → Same H H' → ∀ R : VK, (∀ H'', Same H' H'' → R y H'') → te (some (.str (S [c])) :: capSt src σ) H' R)
    (fin : ∀ D H', H D = none → Same H H' → H' D = some (.lst ys) → Q (.ref D) H') : tLC (none :: src) (iStr tl) (gName 0) tYes te σ H Q :=
  ha _ ⟨S l, rfl, fun D hD => lc_map (itseq_str (S l) (fun _ => True)) ys (fun _ _ => trivial) hD (by rw [S_list]; simpa using hl) (by rw [S_list]; simpa using hlen) (fun i x y H' hx hy sm R r => by
    rw [S_list, List.getElem?_map] at hx
    cases e : l[i]? with
    | none => rw [e] at hx; cases hx
    | some c =>
      rw [e] at hx
      have : V.str ⟨#[c]⟩ = x := Option.some.inj hx
      subst this
      exact step i c y H' e hy sm R r) fun H' => fin D H' hD⟩
end
section
variable {X : Cx} {K : PySem.W.Frag} {o e : Expr} {es : List Expr} {to : TE} {t : TA} {name : Str} {apos cpos : Pos} {T id : String} {r : V → List V → Hp → VK → Prop}
end
section
variable {X : Cx}
def CMulC (i j : Int) : Prop := CMulB i j ∨ CMul i j
theorem op_mulC : OpR X (binaryOp .Mult) (rI CMulC fun i j => .int (i * j)) := opI fun _ _ _ _ _ _ _ hc q => mul_int q (hc.elim (fun h => h.ok) fun h => h.ok)
end
theorem in_sign (l : List Nat) (c : Nat) : (!(Builtin.Str.occurrences (S l) (S [c]) 0 (S l).length 1).isEmpty) = decide (c ∈ l) := by
  have := PySem.StrLaws.found_one (S l) c
  rw [S_list] at this
  exact this
end L2
namespace L2
open PySem PySem.Spec PyProof.Rows
abbrev IsZipF (h : Heap) (z TI TO : Addr) (f0 : Value) (f1 : Bool) : Prop :=
  h.get? z = some { cls := .type "zip", dict := none, data := .fields #[f0, .bool f1, .bool false, .ref TI, .ref TO], slots := #[] }
section
variable {prog : Program} {w : World} {A : Around} {E : Value → Shared → Prop} {s : Shared} {z TI TO i1 i2 T : Addr} {S1 S2 : Nat → Heap → Prop} {R1 R2 : Heap → (Nat → Option Value) → Prop} {g1 g2 : Nat → Option Value} {k : Nat} {a b : Value} {f : Bool} {oT : Obj}
end
/-! list(zip(a, b)) of two tuples of one length -/
section
variable {prog : Program} {w : World} {A : Around} {s : Shared} {R : Result → Shared → Prop} {z TI TO i1 i2 S p1 p2 : Addr} {xs ys : List Value}
/-- the zip as it stands at turn i -/
def ZSt (h : Heap) (z TI TO i1 i2 p1 p2 : Addr) (i : Nat) (as : List Addr) : Prop :=
  IsPair h TI (.ref i1) (.ref i2) ∧ h.IsTupleIter i1 p1 i ∧ h.IsTupleIter i2 p2 i ∧ ((i = 0 ∧ IsZip h z TI TO .none ∧ ∃ a b, IsPair h TO a b) ∨ ∃ T f, T ∈ as ∧ IsZipF h z TI TO (rawInt T) f)
end
end L2
namespace L2
open PySem PySem.Calls PySem.Spec PyProof.Rows PyProof.V
section
variable {prog : Program} {w : World} {A : Around} {E : Value → Shared → Prop} {s : Shared} {z TI TO i1 i2 p1 p2 : Addr} {xs ys : List Value}
/-- what the list has at the end -/
structure ZGot (xs ys : List Value) (lo : Nat) (h : Heap) (as : List Addr) : Prop where
  len : as.length = xs.length
  rise : as.Pairwise (· < ·)
  above : ∀ a ∈ as, lo ≤ a
  pairs : ∀ (j : Nat) a x y, as[j]? = some a → xs[j]? = some x → ys[j]? = some y → IsPair h a x y
end
end L2
namespace L2
open PySem PySem.Spec PyProof.Rows
section
variable {X : Cx} {pins : List (Addr × Obj)} {σ : St} {H H' : Hp} {s : Shared} {h' : Heap}
end
section
variable {X : Cx}
/-- list(zip(a, b)) of two tuples of one length -/
def tLZ (K : PySem.W.Frag) (ta : TA) : TE := fun σ H Q => ta σ H fun vs H1 => ∃ a b xs ys, vs = [.ref a, .ref b] ∧ SqT K H1 a xs ∧ SqT K H1 b ys ∧ xs.length = ys.length ∧
  ∀ (l : Addr) (as : List Addr) (H2 : Hp), H1 l = none → Same H1 H2 → H2 l = some (.lst (as.map V.ref)) → as.length = xs.length →
    (∀ (j : Nat) a x y, as[j]? = some a → xs[j]? = some x → ys[j]? = some y → H1 a = none ∧ H2 a = some (.tup [x, y])) → Q (.ref l) H2
end
end L2
namespace L2
open PySem PySem.Spec PyProof.Rows
section
variable {src : List (Option Nat)} {te : TE} {σ : St} {H : Hp} {Q : VK}
end
end L2
namespace L2
open PySem PySem.Spec PyProof.Rows
section
variable {X : Cx}
end
end L2
namespace L2
open PySem PySem.Spec PyProof.Rows
/-! ### an exception of the program's own: it flies over B, which is all that stays behind it but the frames -/
structure Fly (P : Program) (w : World) (l : List Env) (H : Hp) (h : Heap) (e : Addr) (cls : Value) (H' : Hp) (h' B : Heap) : Prop where
  fl : ∃ a0, Heap.FlyingW B l e cls a0 h'
  hok : HOk P w H' B
  keep : ∀ b o, h.get? b = some o → H b = none → b ∉ frs l → B.get? b = some o
  slot : ∀ b o, h.get? b = some o → H b = none → b ∈ frs l → ∃ sl, h'.get? b = some { o with slots := sl }
  al : ∀ b o, h.get? b = some o → b ∉ frs l → ∃ o', B.get? b = some o'
  free : ∀ b o, h.get? b = some o → H b = none → H' b = none
  tups : ∀ b xs, H b = some (.tup xs) → H' b = some (.tup xs)
  frzs : ∀ b o u, H b = some (.frz o u) → H' b = some (.frz o u)
  tbls : ∀ b ps, H b = some (.tbl ps) → ∃ more, H' b = some (.tbl (ps ++ more))
section
variable {P : Program} {w : World} {l : List Env} {H H' : Hp} {h h' h'' B : Heap} {e : Addr} {cls : Value}
theorem Fly.un (F : Fly P w l H h e cls H' h' B) (hf : ∀ b ∈ frs l, H b = none) : Un (frs l) [] H H' h h' := by
  obtain ⟨a0, fl⟩ := F.fl
  refine ⟨fun b o q n hb _ => fl.1 b o (F.keep b o q n hb), fun b o q n hb _ => F.slot b o q n hb, fun b o q n _ => F.free b o q n, fun b o q _ => ?_, F.tups, F.frzs, F.tbls⟩
  by_cases hb : b ∈ frs l
  · obtain ⟨sl, z⟩ := F.slot b o q (hf b hb) hb
    exact ⟨_, z⟩
  · obtain ⟨o', z⟩ := F.al b o q hb
    exact ⟨o', fl.1 b o' z⟩
theorem Fly.held (F : Fly P w l H h e cls H' h' B) : HOk P w H' h' := by
  obtain ⟨a0, fl⟩ := F.fl
  exact F.hok.kept fl.1
theorem Fly.on (F : Fly P w l H h e cls H' h' B) (fl : ∃ a0, Heap.FlyingW B l e cls a0 h'') (nf : ∀ b ∈ frs l, ∀ o, h.get? b = some o → ∀ vs, o.data ≠ .fields vs) (sm : h'.UpToSlots h'') : Fly P w l H h e cls H' h'' B :=
  ⟨fl, F.hok, F.keep, fun b o q n hb => by
    obtain ⟨sl, z⟩ := F.slot b o q n hb
    obtain ⟨sl', z'⟩ := sm b _ z (nf b hb o q)
    exact ⟨sl', z'⟩, F.al, F.free, F.tups, F.frzs, F.tbls⟩
end
section
variable {X : Cx} {pins : List (Addr × Obj)} {σ : St} {H H' : Hp} {s s' : Shared} {h' B : Heap} {e : Addr} {cls : Value} {M : Model} {A : Around} {Q : Unit → Shared → Prop} {EE : Value → Shared → Prop}
theorem Inv.notL (I : Inv X pins σ H s) {b : Addr} {o : Obj} (q : X.s₀.heap.get? b = some o) : b ≠ X.env.locals := Nat.ne_of_lt (Nat.lt_of_lt_of_le (Heap.lt_size q) I.ok.above)
theorem Inv.notStk (I : Inv X pins σ H s) (hf : X.env.frame = some X.env.locals) {b : Addr} {o : Obj} (q : X.s₀.heap.get? b = some o) (n : b ∉ X.fs) : b ∉ frs (X.env :: X.outer) := fun z => by
  unfold frs at z
  rw [List.filterMap_cons, hf] at z
  rcases List.mem_cons.mp z with z | z
  · exact I.notL q z
  · exact n z
theorem Inv.inStk (I : Inv X pins σ H s) (hf : X.env.frame = some X.env.locals) {b : Addr} (n : b ∈ X.fs) : b ∈ frs (X.env :: X.outer) := by
  unfold frs
  rw [List.filterMap_cons, hf]
  exact List.mem_cons_of_mem _ n
/-- a new exception leaves the body -/
theorem Inv.leave_made {vs : List Value} (I : Inv X pins σ H s) (hs : X.stack = X.env :: X.outer) (hf : X.env.frame = some X.env.locals) (hex : X.ex = []) (hA : A.frames = some (X.env :: X.outer)) (hm : Heap.MadeExcOf s.heap h' e cls vs)
    (hQ : ∀ h'' B, Fly X.prog X.w X.outer X.H₀ X.s₀.heap e cls H h'' B → Q () { s with heap := h'' }) : wpAny M A (leaving X.env (.ref e)) Q EE { s with heap := h' } := by
  have nx : ∀ b : Addr, b ∉ X.ex := by
    rw [hex]
    intro b z
    cases z
  have st := I.stack
  have sf := I.stkFree
  rw [hs] at st sf
  refine wpAny_leaves_madeW (base := PySem.W.hideAll s.heap (frs (X.env :: X.outer))) (h := s.heap) hA hf (fun b o q => PySem.W.of_hideAll _ q) (PySem.W.funFrames_hide st fun env he a ha => List.mem_filterMap.mpr ⟨env, he, ha⟩) hm fun h'' t x1 x2 x3 x4 => hQ h'' (PySem.W.hideAll s.heap (frs (X.env :: X.outer))) ?_
  refine ⟨⟨_, x1⟩, fun b u q => ?_, fun b o q n nb => PySem.W.hideAll_get _ (I.base.keep b o q n nb (nx b)) (I.notStk hf q nb), fun b o q n hb => ?_, fun b o q nb => ?_, fun b o q n => I.base.free b o q n (nx b), I.base.tups, I.base.frzs, I.base.tbls⟩
  · refine (I.hok b u q).stay (fun c v hc r => PySem.W.hideAll_get _ r fun z => ?_) (fun _ z => z) fun _ _ z => z
    have n := sf c z
    rcases hc with rfl | hc
    · rw [n] at q; cases q
    · rw [n] at hc; cases hc
  · obtain ⟨sl, e1⟩ := I.base.slot b o q n hb (nx b)
    obtain ⟨_, o', e', d⟩ := I.ok.funs.mem hb
    rw [q] at e'
    cases e'
    obtain ⟨sl', e2⟩ := x4 b _ (hm.keeps b _ e1) d
    exact ⟨sl', e2⟩
  · obtain ⟨o', e1⟩ := I.base.there b o q (nx b)
    exact ⟨o', PySem.W.hideAll_get _ e1 (I.notStk hf q nb)⟩
/-- one that a callee let go leaves the body too -/
theorem Inv.leave_on (I : Inv X pins σ H s) (hs : X.stack = X.env :: X.outer) (hf : X.env.frame = some X.env.locals) (hex : X.ex = []) (hA : A.frames = some (X.env :: X.outer)) (F : Fly X.prog X.w X.stack H s.heap e cls H' s'.heap B)
    (hQ : ∀ h'', Fly X.prog X.w X.outer X.H₀ X.s₀.heap e cls H' h'' B → Q () { s' with heap := h'' }) : wpAny M A (leaving X.env (.ref e)) Q EE s' := by
  have nx : ∀ b : Addr, b ∉ X.ex := by
    rw [hex]
    intro b z
    cases z
  rw [hs] at F
  obtain ⟨a0, fl⟩ := F.fl
  refine wpAny_leaves_onW hA hf fl fun h'' x1 x2 => hQ h'' ?_
  refine ⟨⟨_, x1⟩, F.hok, fun b o q n nb => F.keep b o (I.base.keep b o q n nb (nx b)) (I.base.free b o q n (nx b)) (I.notStk hf q nb), fun b o q n hb => ?_, fun b o q nb => ?_, fun b o q n => ?_, fun b xs q => F.tups b xs (I.base.tups b xs q), fun b o u q => F.frzs b o u (I.base.frzs b o u q), fun b ps q => ?_⟩
  · obtain ⟨sl, e1⟩ := I.base.slot b o q n hb (nx b)
    obtain ⟨sl1, e2⟩ := F.slot b _ e1 (I.base.free b o q n (nx b)) (I.inStk hf hb)
    obtain ⟨_, o', e', d⟩ := I.ok.funs.mem hb
    rw [q] at e'
    cases e'
    obtain ⟨sl', e3⟩ := x2 b _ e2 d
    exact ⟨sl', e3⟩
  · obtain ⟨o', e1⟩ := I.base.there b o q (nx b)
    exact F.al b o' e1 (I.notStk hf q nb)
  · obtain ⟨o', e1⟩ := I.base.there b o q (nx b)
    exact F.free b o' e1 (I.base.free b o q n (nx b))
  · obtain ⟨m1, e1⟩ := I.base.tbls b ps q
    obtain ⟨m2, e2⟩ := F.tbls b _ e1
    exact ⟨m1 ++ m2, by rw [e2, Array.append_assoc]⟩
end
/-- how an exception lies behind a call -/
def CXF (P : Program) (w : World) : CXT := fun l H s E e s' => ∃ (a : Addr) (cls : Value) (H' : Hp) (B : Heap), e = .ref a ∧ s'.os = s.os ∧ AllBare s'.gens ∧ Fly P w l H s.heap a cls H' s'.heap B ∧ E cls none H'
/-- a body from which exceptions may go -/
abbrev Gx.cxX (g : Gx) (N : List Str) (qual : Str) (st : Stmt) (f : Addr) (cdv : Value) (A : Around) (outer : List Env) (s : Shared) (H : Hp) (E : XK) : Cx := cxOf (CXF g.P g.w) g.P g.w g.K g.mg g.base N qual (defScope st) f cdv A outer s H E
section
variable {g : Gx} {N : List Str} {qual : Str} {st : Stmt} {f : Addr} {cdv : Value} {A : Around} {outer : List Env} {s : Shared} {H : Hp} {E : XK}
theorem passF : Passes (CXF g.P g.w) (g.cxX N qual st f cdv A outer s H E) E := by
  intro pins σ H1 s1 e s' I hq
  obtain ⟨a, cls, H', B, he, os, bare, F, q⟩ := hq
  subst he
  exact I.leave_on rfl rfl rfl I.ok.frames F fun h'' F' => ⟨a, cls, H', B, rfl, os.trans I.os, bare, F', q⟩
/-- what a raise asks -/
def Raises (X : Cx) (E : XK) : Prop := ∀ (pins : List (Addr × Obj)) (σ : St) (H : Hp) (s : Shared) (h' : Heap) (e : Addr) (cls : Value) (vs : List Value), Inv X pins σ H s → Heap.MadeExcOf s.heap h' e cls vs → E cls none H → X.xe (.ref e) { s with heap := h' }
theorem raiseF : Raises (g.cxX N qual st f cdv A outer s H E) E := by
  intro pins σ H1 s1 h' e cls vs I hm q
  exact I.leave_made rfl rfl rfl I.ok.frames hm fun h'' B F => ⟨e, cls, H1, B, rfl, I.os, I.bare, F, q⟩
end
def Gx.FnX (g : Gx) (k : Nat) (x : Str) (ps : List Str) (sp : Sp) : Prop := ∃ f fd, FnOk g.P g.w g.K g.mg g.base (CXF g.P g.w) k f fd ps sp ∧ Binds g.K fd ps [] ∧ PySem.W.keepIn g.K (.ref f) = true ∧ g.mg x = some (.ref f)
def BodyX (g : Gx) (k : Nat) (N : List Str) (qual : Str) (st : Stmt) (sp : Sp) : Prop := ∀ (f : Addr) (cdv : Value) (A : Around) (outer : List Env) (s : Shared) (H : Hp) (vs : List V) (Q : VK) (E : XK), Room k (g.cxX N qual st f cdv A outer s H E).A → sp vs H Q E →
  ∃ t, PSs (g.cxX N qual st f cdv A outer s H E) (defBody st) t ∧ t { nx := fun _ H' => Q .non H', rt := Q } (start N vs) H
section
variable {g : Gx} {k : Nat} {x qual m : Str} {st : Stmt} {N ps : List Str} {sp : Sp} {C : Addr}
theorem Gx.Raw.fnX (R : g.Raw x qual st ps) (S : FnScope N ps (defScope st)) (len : ∀ vs H Q E, sp vs H Q E → vs.length = ps.length) (b : BodyX g k N qual st sp) : g.FnX (k + 1) x ps sp := by
  obtain ⟨f, fd, F, bd, hm⟩ := R
  refine ⟨f, fd, ?_, bd, F.kp, hm⟩
  obtain ⟨oc, od, kV, doc, pm, an, cdv, ct, osl, rfl, lk, hcd⟩ := F.ex
  exact fn_of lk hcd S len fun A outer s H vs Q E hr h => b f cdv A outer s H vs Q E hr h
theorem Gx.FnX.mono {j : Nat} (F : g.FnX j x ps sp) (h : j ≤ k) : g.FnX k x ps sp := by
  obtain ⟨f, fd, F, r⟩ := F
  exact ⟨f, fd, F.mono h, r⟩
end
section
variable {g : Gx} {X : Cx} {k j : Nat} {x : Str} {ps : List Str} {sp : Sp} {E : XK} {e : Expr} {es : List Expr} {t : TA} {p pos cpos np : Pos}
/-- f(e, ..), f may raise: what it raises goes on -/
theorem pe_fnX (F : g.FnX j x ps sp) (hr : Room k X.A) (hp : Passes (CXF g.P g.w) X E) (ha : PA X (e :: es) t) (hj : j ≤ k := by omega) (hX : X.gx = g := by rfl) (hg : Gl X x := by rfl) (hdb : (x == ("__debug__" : Str)) = false := by decide)
    (he : starEach (e :: es) X.env = (false, eval e X.env) :: starEach es X.env := by rfl) (hpl : (backTo pos (starEach es X.env)).any (·.1) = false := by rfl) : PE X (.Call (.Name x p) (e :: es) [] pos) (tCall sp [] E t) := by
  subst hX
  obtain ⟨f, fd, F, b, kp, hm⟩ := F
  exact pe_call F (hr.mono hj) hg hm kp b .nil hp ha hdb he hpl
theorem PS.nox {st : Stmt} {t : TS} (h : PS X.nox st t) : PS X st t := fun pins s σ H D I hw =>
  wpAny_mono (h pins s σ H D (I.wish _) hw) (fun _ _ q => q.unwish) fun _ _ z => False.elim z
/-- the built-in line that our classes stand in -/
abbrev veLine : List Value := [.type "ValueError", .type "Exception", .type "BaseException", .type "object"]
/-- an exception class of the text, without an __init__ of its own -/
structure Gx.Exc (g : Gx) (x : Str) (C : Addr) : Prop where
  bound : g.mg x = some (.ref C)
  own : PySem.W.excIn g.K C veLine "ValueError.__new__" = true
theorem exc_obj {K : PySem.W.Frag} {h : Heap} {C : Addr} {tl : List Value} {nw : String} (In : K.In h) (q : PySem.W.excIn K C tl nw = true) :
    ∃ (bm : List Value) (ns : Addr) (nm qn : Str) (bs : List Value) (hd : Bool) (sn : List Str) (sub : List Value) (ab : Bool) (col : Option Bool) (dd : Option Addr) (k0 k1 k2 k3 k5 : Option Value) (mN : Str → Option Value),
      h.get? C = some (excClassObj nm qn C ns bs bm hd sn sub ab col dd k0 k1 k2 k3 k5 nw) ∧ h.Ns ns mN ∧ mN "__init__" = none ∧ OwnTail h tl bm := by
  unfold PySem.W.excIn at q
  split at q
  case h_2 => exact absurd q (by decide)
  case h_1 dd cd sl lk =>
    split at q
    case h_2 => exact absurd q (by decide)
    case h_1 c2 bm k0 k1 k2 k3 n k5 em es =>
      simp only [beq_iff_eq, Bool.and_eq_true, Bool.not_eq_true'] at q
      obtain ⟨⟨⟨⟨⟨q1, q2⟩, q3⟩, q4⟩, q5⟩, q6⟩ := q
      obtain ⟨nm, bs, mro, ns, qn, hd, sn, sub, ab, col, del⟩ := cd
      obtain ⟨lst⟩ := sl
      dsimp only at em q3 q5 q6 es
      subst q1 q2 em q3 es
      exact ⟨bm, ns, nm, qn, bs, hd, sn, sub, ab, col, dd, k0, k1, k2, k3, k5, _, In _ _ lk, .of_isNs (PySem.W.isNs_of_in In q5), PySem.W.nsMap_none_of_in In q5 q6, PySem.W.tail_of_in In q4⟩
def tRaise (C : Addr) (E : XK) (t : TA) : TS := fun _ σ H => t σ H fun vs H1 => vs.length ≤ sizeLine ∧ E (.ref C) none H1
/-- raise C(e, ..) -/
theorem ps_raise {C : Addr} (hC : g.Exc x C) (hR : Raises X E) (ha : PA X (e :: es) t) (hc : X.calm = true := by rfl) (hX : X.gx = g := by rfl) (hg : Gl X x := by rfl) (hdb : (x == ("__debug__" : Str)) = false := by decide)
    (he : starEach (e :: es) X.env = (false, eval e X.env) :: starEach es X.env := by rfl) (hpl : (backTo cpos (starEach es X.env)).any (·.1) = false := by rfl) :
    PS X (.Raise (some (.Call (.Name x np) (e :: es) [] cpos)) none pos) (tRaise C E t) := by
  subst hX
  intro pins s σ H D I h
  obtain ⟨bm, ns, nm, qn, bs, hd, sn, sub, ab, col, dd, k0, k1, k2, k3, k5, mN, hO, hN, hni, T⟩ := exc_obj I.mod.kin hC.own
  refine wpAny_Raise_call_subT (C := C) (nm := nm) (q := qn) (N := ns) (bs := bs) (bm := bm) (hdct := hd) (sn := sn) (sub := sub) (ab := ab) (col := col) (dd := dd) (k0 := k0) (k1 := k1) (k2 := k2) (k3 := k3) (k5 := k5)
    F.excBase_ValueError (mN := mN) (T.hasType F.excBase_ValueError.hasBase) (I.ok.hd hc) ?_ hni (ld_glob I hg hC.bound ⟨rfl, ?_⟩ hdb)
  · rw [he]
    show (false || (backTo cpos (starEach es X.env)).any (·.1)) = false
    rw [hpl]; rfl
  · have a1 := ha cpos pins s σ H _ I h
    rw [he] at a1 ⊢
    refine Calls.evalArgs_plain (wpAny_mono a1 (fun us s2 hz => ?_) fun _ _ y => y)
    obtain ⟨vs, H2, I2, r, q1, q2⟩ := hz
    exact ⟨rfl, by rw [← r.length]; exact q1, I2.bk _ _ hO, hN.keeps I2.bk, T.keeps I2.bk, fun h' e hm => hR pins σ H2 s2 h' e _ us I2 hm q2⟩
end
/-! ### try: x = f(..) except C: suite -/
abbrev Cx.caught (X : Cx) (e : Addr) : Cx := { X with A := X.A.mark (some (.ref e)), calm := false, xe := fun _ _ => False }
section
variable {X : Cx} {pins : List (Addr × Obj)} {σ : St} {H H' H1 : Hp} {s s1 s' : Shared} {e : Value} {D : Ends} {ts : TS} {b₀ : Stmt} {suite : List Stmt} {c : Str} {cv : Value} {cp hpos : Pos}
theorem Inv.caught (I : Inv X pins σ H s) (a : Addr) : Inv (X.caught a) pins σ H s :=
  ⟨⟨I.ok.mod, I.ok.kind, I.ok.glob, I.ok.blt, I.ok.above, I.ok.inj, I.ok.has, I.ok.cab, fun z => (by cases z), I.ok.frames, I.ok.stk, I.ok.exf, I.ok.bs, I.ok.bsz, I.ok.noex, I.ok.exfs, I.ok.funs, I.ok.frf⟩, I.os, I.bare, I.base, I.loc, I.cell, I.free, I.freeC, I.pin, I.hok, I.len⟩
theorem Inv.uncaught {a : Addr} (hd : X.calm = true → X.A.handled = none) (I : Inv (X.caught a) pins σ H s) : Inv X pins σ H s :=
  ⟨⟨I.ok.mod, I.ok.kind, I.ok.glob, I.ok.blt, I.ok.above, I.ok.inj, I.ok.has, I.ok.cab, hd, I.ok.frames, I.ok.stk, I.ok.exf, I.ok.bs, I.ok.bsz, I.ok.noex, I.ok.exfs, I.ok.funs, I.ok.frf⟩, I.os, I.bare, I.base, I.loc, I.cell, I.free, I.freeC, I.pin, I.hok, I.len⟩
/-- a flying exception, seen from the body that called: the body's state -/
theorem Inv.seen {a : Addr} {cls : Value} {B : Heap} (I : Inv X pins σ H1 s1) (F : Fly X.prog X.w X.stack H1 s1.heap a cls H' s'.heap B) (os : s'.os = s1.os) (bare : AllBare s'.gens) : Inv X pins σ H' s' :=
  I.call' (ch := []) os (F.un I.stkFree) F.held bare fun b z => nomatch z
theorem Inv.stkData (I : Inv X pins σ H1 s1) : ∀ b ∈ frs X.stack, ∀ o, s1.heap.get? b = some o → ∀ vs, o.data ≠ .fields vs := fun b hb o q => by
  obtain ⟨_, o', e', d⟩ := I.stack.mem hb
  rw [q] at e'
  cases e'
  exact d
end
def tTry (K : PySem.W.Frag) (cv : Value) (sp : Sp) (t : TA) (i : Nat) (ts : TS) : TS := fun D σ H => t σ H fun vs H1 => sp (vs ++ []) H1 (fun v H2 => D.nx (σ.set i (some v)) H2) (fun cls _ H2 => PySem.W.exmOne K cls cv = some true ∧ ts D σ H2)
section
variable {g : Gx} {X : Cx} {k j i : Nat} {x f c : Str} {ps : List Str} {sp : Sp} {e : Expr} {es : List Expr} {t : TA} {ts : TS} {b₀ : Stmt} {suite : List Stmt} {cv : Value} {fp px cp hpos apos cpos pos : Pos}
end
end L2
namespace L2
open PySem PySem.Spec PyProof.Rows
/-! ### enumerate, over a tuple, or from a number on -/
def Ite' (k : Nat) (G : Hp → List V → Prop) : It :=
  ⟨fun i H => ∃ xs x, G H xs ∧ xs[i]? = some x, fun i H v H' => ∃ T, v = .ref T ∧ H T = none ∧ ∀ xs x, G H xs → xs[i]? = some x → H' = upd H T (.tup [.int ((i + k : Nat) : Int), x]), fun i H => ∃ xs, G H xs ∧ xs.length = i⟩
section
variable {prog : Program} {w : World} {A : Around} {E : Value → Shared → Prop} {s : Shared}
open AutoSeq1 (wpAny_loadPart') in
end
section
variable {X : Cx} {elts : List Expr} {kk : Nat} {tpos : Pos}
def iEnumT (K : PySem.W.Frag) (ta : TA) : TI := fun σ H R => ta σ H fun vs H1 => ∃ a xs, vs = [.ref a] ∧ SqT K H1 a xs ∧ R (Ite' 0 fun H xs => SqT K H a xs) H1
end
/-! ### loops over it -/
section
variable {g : TG} {tb : TS} {D : Ends} {σ : St} {H : Hp}
end
end L2
namespace L2
open PySem PySem.Spec PyProof.Rows
/-! ### enumerate(xs, start=1) -/
section
variable {prog : Program} {w : World} {A : Around} {E : Value → Shared → Prop} {s : Shared}
open AutoSeq1 (wpAny_loadPart') in
end
end L2
namespace L2
open PySem PySem.Spec PyProof.Rows
section
variable {X : Cx} {elts : List Expr} {kk : Nat} {tpos : Pos}
def iEnum1 (K : PySem.W.Frag) (ta : TA) : TI := fun σ H R => ta σ H fun vs H1 => ∃ a xs, vs = [.ref a] ∧ SqL K H1 a xs ∧ R (Ite' 1 fun H xs => SqL K H a xs) H1
end
section
variable {g : TG} {tb : TS} {D : Ends} {σ : St} {H : Hp}
end
/-! ### range(a, b, c), c above 0 -/
section
variable {X : Cx} {tg : Expr}
/-- lo, lo + c, .., n of them -/
def Itu (lo c : Int) (n : Nat) : It := ⟨fun i _ => i < n, fun i H v H' => v = .int (lo + i * c) ∧ H' = H, fun i _ => n ≤ i⟩
def iRngU (ta : TA) : TI := fun σ H R => ta σ H fun vs H1 => ∃ i j c : Int, vs = [.int i, .int j, .int c] ∧ (-(2 ^ 60) ≤ i ∧ i < 2 ^ 60 ∧ -(2 ^ 60) ≤ j ∧ j < 2 ^ 60 ∧ 0 < c ∧ c < 2 ^ 29) ∧ R (Itu i c (Builtin.Range.rangeSize i j c).toNat) H1
end
end L2
namespace L2
open PySem PySem.Spec PyProof.Rows
/-! ### an exception that was caught by a name: a thing of the heap -/
def ExcO (a : Addr) (cls : Value) : HO := .ext fun h => ∃ o vs, h.get? a = some o ∧ o.cls = cls ∧ o.data = .fields vs
section
variable {P : Program} {w : World} {l : List Env} {H H' : Hp} {h h' h'' B : Heap} {a e : Addr} {cls : Value} {o : HO}
theorem ObjOk.alive (x : ObjOk P w H h a o) : ∃ u, h.get? a = some u := by
  cases o with
  | lst xs => obtain ⟨_, _, _, _, e⟩ := x; exact ⟨_, e⟩
  | tup xs => obtain ⟨_, _, _, u, e, _⟩ := x; exact ⟨_, e⟩
  | dK kvs => obtain ⟨_, _, _, _, o, _, _, e, _⟩ := x; exact ⟨_, e⟩
  | dT kvs => obtain ⟨_, _, _, _, o, _, _, e, _⟩ := x; exact ⟨_, e⟩
  | set S n => obtain ⟨o, _, _, _, e, _⟩ := x; exact ⟨_, e⟩
  | ins C dx fs => obtain ⟨_, _, _, e, _⟩ := x; exact ⟨_, e⟩
  | own y => exact x
  | xd fs => obtain ⟨_, ⟨_, _, _, e, _⟩, _⟩ := x; exact ⟨_, e⟩
  | rng lo hi => obtain ⟨_, _, _, e⟩ := x; exact ⟨_, e⟩
  | frz ob u => obtain ⟨e, _⟩ := x; exact ⟨_, e⟩
  | tbl ps => exact ⟨_, (show h.get? a = some _ from x)⟩
  | met f y => exact ⟨_, (show h.get? a = some _ from x)⟩
  | ext φ => exact x.2.1
theorem Fly.new (F : Fly P w l H h e cls H' h' B) (hf : ∀ b ∈ frs l, H b = none) (nf : ∀ b ∈ frs l, ∀ o, h.get? b = some o → ∀ vs, o.data ≠ .fields vs) : h.get? e = none := by
  obtain ⟨a0, fl⟩ := F.fl
  cases q : h.get? e with
  | none => rfl
  | some o =>
    by_cases hb : e ∈ frs l
    · obtain ⟨sl, z⟩ := F.slot e o q (hf e hb) hb
      obtain ⟨oe, vs, z', _, d, _⟩ := fl.first
      rw [z] at z'
      cases z'
      exact absurd d (nf e hb o q vs)
    · obtain ⟨o', z⟩ := F.al e o q hb
      rw [fl.2.1] at z
      cases z
theorem Fly.out (F : Fly P w l H h e cls H' h' B) : H' e = none := by
  obtain ⟨a0, fl⟩ := F.fl
  cases q : H' e with
  | none => rfl
  | some u =>
    obtain ⟨o, z⟩ := (F.hok e u q).alive
    rw [fl.2.1] at z
    cases z
theorem Fly.track (F : Fly P w l H h e cls H' h' B) (hf : ∀ b ∈ frs l, H b = none) (nf : ∀ b ∈ frs l, ∀ o, h.get? b = some o → ∀ vs, o.data ≠ .fields vs) :
    Un (frs l) [] H (upd H' e (ExcO e cls)) h h' ∧ HOk P w (upd H' e (ExcO e cls)) h' := by
  have n1 := F.new hf nf
  have n2 := F.out
  have u := F.un hf
  have ok := F.held
  obtain ⟨a0, fl⟩ := F.fl
  refine ⟨⟨u.keep, u.slot, fun b o q n hx => ?_, u.there, fun b xs q => ?_, fun b o x q => ?_, fun b ps q => ?_⟩, fun b x q => ?_⟩
  · rw [upd_ne (fun z => by rw [z, n1] at q; cases q)]
    exact u.free b o q n hx
  · rw [upd_ne (ne_of_none (u.tups b xs q) n2)]
    exact u.tups b xs q
  · rw [upd_ne (ne_of_none (u.frzs b o x q) n2)]
    exact u.frzs b o x q
  · obtain ⟨m, z⟩ := u.tbls b ps q
    exact ⟨m, by rw [upd_ne (ne_of_none z n2)]; exact z⟩
  · by_cases hb : b = e
    · subst hb
      rw [upd_same] at q
      cases q
      obtain ⟨oe, vs, z1, z2, z3, _⟩ := fl.first
      exact ⟨⟨oe, vs, z1, z2, z3⟩, ⟨oe, z1⟩, fun h1 h2 p k => by obtain ⟨o, vs, y1, y2, y3⟩ := p; exact ⟨o, vs, k o y1, y2, y3⟩⟩
    · rw [upd_ne hb] at q
      exact (ok b x q).stay (fun c v _ r => r) (fun c r => by rw [upd_ne (ne_of_none r n2)]; exact r) fun c xs r => by rw [upd_ne (ne_of_none r n2)]; exact r
end
section
variable {X : Cx} {pins : List (Addr × Obj)} {σ : St} {H H' H1 : Hp} {s s1 s' : Shared}
/-- the name of an except clause is let go -/
theorem goes_ok {M : Model} {A : Around} {E : Value → Shared → Prop} {j : Nat} {n : Str} {pos : Pos} {Q : Unit → Shared → Prop} (I : Inv X pins σ H s) (hN : X.N.Nodup) (hj : X.N[j]? = some n) (hk : X.env.scope.names.lookup n = some .local)
    (h : ∀ s', Inv X pins (σ.set j none) H s' → Q () s') : wpAny M A (do bindName X.env n .none; unbindBehindTheSuite X.env n pos) Q E s := by
  obtain ⟨m, hn, hl⟩ := id I.loc
  have hcls : (X.env.scope.kind == .class || (X.env.scope.kind == .module && X.env.locals != X.env.globals)) = false := by rw [I.ok.kind]; rfl
  have cne := I.cne
  have tracked : ∀ {a : Addr} {h' : Heap}, (∃ o, s.heap.get? a = some o ∧ H a = none) → Heap.SameBut a s.heap h' → HOk X.prog X.w H h' := fun {a h'} ha hs b ob e => by
    obtain ⟨_, _, hfree⟩ := ha
    refine (I.hok b ob e).stay (fun c w' hc q => (hs.2 c ?_).trans q) (fun _ q => q) fun _ _ q => q
    rintro rfl
    rcases hc with rfl | hc
    · rw [hfree] at e; cases e
    · rw [hfree] at hc; cases hc
  refine wpAny_nameGoes_keeps hk hn hcls fun h' v hn' hs => ?_
  obtain ⟨oL, _, _, hoL, _⟩ := id hn
  refine h _ ⟨I.ok, I.os, I.bare, ⟨fun b o e n hb hx => ?_, fun b o e n hb hx => ?_, I.base.free, fun b o e hx => ?_, I.base.tups, I.base.frzs, I.base.tbls⟩, ⟨_, hn', fun i y v' e1 e2 e3 => ?_⟩, fun y c e => ?_, I.free, I.freeC, fun p hp => ?_, tracked ⟨oL, hoL, I.free⟩ hs, by simpa using I.len⟩
  · exact (hs.2 b (I.notL e)).trans (I.base.keep b o e n hb hx)
  · obtain ⟨sl, e1⟩ := I.base.slot b o e n hb hx
    exact ⟨sl, (hs.2 b (I.notL e)).trans e1⟩
  · obtain ⟨o', e1⟩ := I.base.there b o e hx
    exact ⟨o', (hs.2 b (I.notL e)).trans e1⟩
  · by_cases hji : i = j
    · subst hji
      rw [List.getElem?_set] at e2
      split at e2
      · split at e2 <;> cases e2
      · rename_i z; exact absurd rfl z
    · rw [List.getElem?_set_ne (Ne.symm hji)] at e2
      obtain ⟨u', r', q⟩ := hl i y v' e1 e2 e3
      refine ⟨u', r', ?_⟩
      rcases q with ⟨k, e⟩ | ⟨k, c, e, z⟩
      · refine .inl ⟨k, ?_⟩
        have : y ≠ n := fun e => hji (nodup_ix hN e1 (e ▸ hj))
        simp [this, e]
      · exact .inr ⟨k, c, e, z.sameBut hs (cne y c e)⟩
  · obtain ⟨w', z⟩ := I.cell y c e
    exact ⟨w', z.sameBut hs (cne y c e)⟩
  · obtain ⟨e, n, ne, nf, d⟩ := I.pin p hp
    exact ⟨(hs.2 p.1 ne).trans e, n, ne, nf, d⟩
end
/-- behind an except clause by a name: the name stands for nothing -/
def Ends.gone (D : Ends) (j : Nat) : Ends := { nx := fun σ H => D.nx (σ.set j none) H, rt := D.rt, bk := fun σ H => D.bk (σ.set j none) H, ct := fun σ H => D.ct (σ.set j none) H }
section
variable {X : Cx} {pins : List (Addr × Obj)} {σ : St} {H H' H1 : Hp} {s s1 s' : Shared} {e : Value} {D : Ends} {ts : TS} {b₀ : Stmt} {suite : List Stmt} {c n : Str} {cv : Value} {cp hpos : Pos} {j : Nat}
theorem Inv.catchAs (I : Inv X pins σ H1 s1) (hs : X.stack = X.env :: X.outer) (hf : X.env.frame = some X.env.locals) (hN : X.N.Nodup) (hj : X.N[j]? = some n) (hk : X.env.scope.names.lookup n = some .local)
    (hq : CXF X.prog X.w X.stack H1 s1 (fun cls _ H2 => PySem.W.exmOne X.K cls cv = some true ∧ ∀ a, H2 a = none → ts (D.gone j) (σ.set j (some (.ref a))) (upd H2 a (ExcO a cls))) e s')
    (hsu : ∀ a, PSs (X.caught a) (b₀ :: suite) ts) (hc : Gl X c) (hcm : X.mg c = some cv) (hdb : (c == ("__debug__" : Str)) = false) :
    wpAny (model X.prog X.w) X.A (noteFrame e X.env) (fun _ s₂ => wpAny (model X.prog X.w) X.A (setFlight e none) (fun _ s₃ => wpAny (model X.prog X.w) X.A (handleBy e X.env [.ExceptHandler (some (.Name c cp)) (some n) (b₀ :: suite) hpos]) (SP X pins D) X.xe s₃) X.xe s₂) X.xe s' := by
  obtain ⟨a, cls, H2, B, rfl, os, bare, F, hm, ht⟩ := hq
  obtain ⟨a0, fl⟩ := F.fl
  have nf := I.stkData
  have fl' := fl
  rw [hs] at fl'
  have hfr := I.ok.frames
  rw [hs] at hfr
  refine wpAny_looks_onW hfr hf fl' fun h₄ held sm4 => wpAny_landsW held fun h₅ fl5 sm5 => ?_
  rw [← hs] at fl5
  have F5 := F.on ⟨a0, fl5⟩ nf (sm4.trans sm5)
  have I5 : Inv X pins σ H2 { s' with heap := h₅ } := I.seen (s' := { s' with heap := h₅ }) F5 os bare
  have I5c := I5.caught a
  refine wpAny_handleBy_cons (codeAny_handlers_test (ld_glob I5c hc hcm ?_ hdb)) (by intro q; cases q)
  obtain ⟨ob, hob, hcl⟩ := fl5.there
  have LT : PySem.W.Looks (model X.prog X.w) h₅ (typeOf (.ref a)) cls := by
    subst hcl
    exact (PySem.W.Looks.ld hob).andThen .now
  refine PySem.W.exm_one (K := X.K) (h := h₅) I5.kIn LT hm _ _ _ _ (fun _ _ z => z) ?_
  refine codeAny_handlers_suite_as ?_
  refine lands_againW fl5 fun h₆ fl6 sm6 => ?_
  have F6 := F5.on ⟨a0, fl6⟩ nf sm6
  obtain ⟨u6, ok6⟩ := F6.track I.stkFree nf
  have I6 : Inv X pins σ (upd H2 a (ExcO a cls)) { s' with heap := h₆ } := I.call' (s' := { s' with heap := h₆ }) (ch := []) os u6 ok6 bare fun b z => nomatch z
  have I6c := I6.caught a
  refine store_ok (X := X.caught a) I6c hN hj (.inl hk) (v := .ref a) rfl (fun s7 I7 => ?_) (.inr hk)
  refine wpAny_mono (hsu a pins _ _ _ (D.gone j) I7 (ht a F6.out)) (fun f s8 z => ?_) fun _ _ z => z.elim
  have key : ∀ {σ' : St} {H' : Hp} {Q : St → Hp → Prop}, Inv (X.caught a) pins σ' H' s8 → Q (σ'.set j none) H' → ∀ {R : Unit → Shared → Prop}, (∀ s9, Inv X pins (σ'.set j none) H' s9 → R () s9) → wpAny (model X.prog X.w) X.A (do bindName X.env n .none; unbindBehindTheSuite X.env n hpos) R X.xe s8 :=
    fun {σ' H' Q} J _ {R} hR => goes_ok (J.uncaught I.ok.hd) hN hj hk hR
  cases f with
  | next => obtain ⟨σ', H', J, q⟩ := z; exact key (Q := fun _ _ => True) J trivial fun s9 J9 => ⟨_, _, J9, q⟩
  | brk => obtain ⟨σ', H', J, q⟩ := z; exact key (Q := fun _ _ => True) J trivial fun s9 J9 => ⟨_, _, J9, q⟩
  | cont => obtain ⟨σ', H', J, q⟩ := z; exact key (Q := fun _ _ => True) J trivial fun s9 J9 => ⟨_, _, J9, q⟩
  | ret u => obtain ⟨v, σ', H', J, r, q⟩ := z; exact key (Q := fun _ _ => True) J trivial fun s9 J9 => ⟨v, _, _, J9, r, q⟩
end
end L2
namespace L2
open PySem PySem.Spec PyProof.Rows
/-! ### try by a name; a def that is called within an except suite -/
def tTryAs (K : PySem.W.Frag) (cv : Value) (sp : Sp) (t : TA) (i j : Nat) (ts : TS) : TS := fun D σ H => t σ H fun vs H1 => sp (vs ++ []) H1 (fun v H2 => D.nx (σ.set i (some v)) H2) (fun cls _ H2 => PySem.W.exmOne K cls cv = some true ∧ ∀ a, H2 a = none → ts (D.gone j) (σ.set j (some (.ref a))) (upd H2 a (ExcO a cls)))
section
variable {g : Gx} {X : Cx} {k jj i j : Nat} {x f c n : Str} {ps : List Str} {sp : Sp} {e : Expr} {es : List Expr} {t : TA} {ts : TS} {b₀ : Stmt} {suite : List Stmt} {cv : Value} {fp px cp hpos apos cpos pos : Pos}
end
/-- room, whatever is handled -/
structure RoomM (k : Nat) (A : Around) : Prop where
  dp : A.depth + 3 * k + 5 < recursionLimit
  un : A.units + 16 * k + 200 < cLine
structure FnOkM (P : Program) (w : World) (K : PySem.W.Frag) (mg : Str → Option Value) (base : Heap) (k : Nat) (f : Addr) (fd : FuncData) (ps : List Str) (sp : Sp) : Prop where
  len : ∀ vs H Q E, sp vs H Q E → vs.length = ps.length
  run : ∀ (A : Around) (outer : List Env) (s : Shared) (H : Hp) (args : Args) (us : List Value) (vs : List V) (Q : VK) (E : XK), RoomM k A → Env0 P w K mg base A outer s H → BindsTo s fd args (ps.zip us) → Vals vs us → sp vs H Q E →
    codeAny (model P w) A (.call (.ref f) args) (CR CX0 outer P w H s Q E) s
def Gx.FnM (g : Gx) (k : Nat) (x : Str) (ps : List Str) (sp : Sp) : Prop := ∃ f fd, FnOkM g.P g.w g.K g.mg g.base k f fd ps sp ∧ Binds g.K fd ps [] ∧ PySem.W.keepIn g.K (.ref f) = true ∧ g.mg x = some (.ref f)
abbrev Gx.cxM (g : Gx) (N : List Str) (qual : Str) (st : Stmt) (f : Addr) (cdv : Value) (A : Around) (outer : List Env) (s : Shared) (H : Hp) (E : XK) : Cx := { cxOf CX0 g.P g.w g.K g.mg g.base N qual (defScope st) f cdv A outer s H E with calm := false, xe := fun _ _ => False }
def BodyM (g : Gx) (k : Nat) (N : List Str) (qual : Str) (st : Stmt) (sp : Sp) : Prop := ∀ (f : Addr) (cdv : Value) (A : Around) (outer : List Env) (s : Shared) (H : Hp) (vs : List V) (Q : VK) (E : XK), RoomM k (g.cxM N qual st f cdv A outer s H E).A → sp vs H Q E →
  ∃ t, PSs (g.cxM N qual st f cdv A outer s H E) (defBody st) t ∧ t { nx := fun _ H' => Q .non H', rt := Q } (start N vs) H
section
variable {g : Gx} {k : Nat} {x qual : Str} {st : Stmt} {N ps : List Str} {sp : Sp}
end
section
variable {g : Gx} {X : Cx} {k j : Nat} {x : Str} {ps : List Str} {sp : Sp} {e : Expr} {es : List Expr} {t : TA} {p pos : Pos}
end
end L2
namespace PySem.W
open PySem PySem.Calls PyProof.Rows Builtin Builtin.ObjectAttr Builtin.Getset_descriptor
section
variable {prog : Program} {w : World} {A : Around} {E : Value → Shared → Prop} {K : Frag} {x C : Addr} {ox : Obj} {hh : Heap} {g : Array GenState} {d : Drawn} {t : Nat} {os : OsState}
theorem bexc_bind (v : Value) : bindSpecial (.builtin "BaseException.__getattribute__") v = pure (.builtin "BaseException.__getattribute__", [v]) := by
  have h1 : withoutEnding? "BaseException.__getattribute__" "#opaque" = none := by decide +kernel
  have h2 : withoutEnding? "BaseException.__getattribute__" "#data" = none := by decide +kernel
  have h3 : builtinKind "BaseException.__getattribute__" = some .slot := by decide +kernel
  simp only [bindSpecial, typeOf, builtinType, h1, h2, h3]
  rfl
theorem excls_get {tp : Value} {R : Result → Shared → Prop} (In : K.In hh) (hx : hh.get? x = some ox) (hc : ox.cls = .ref C) (hm : mroIn K C (.type "object") = some true)
    (h : R (.ok (.ret (.ref C))) ⟨hh, g, d, t, os⟩) : codeAny (model prog w) A (.call (.builtin "getset_descriptor.__get__") ⟨[.builtin "object.__class__", .ref x, tp], []⟩) R ⟨hh, g, d, t, os⟩ := by
  have L0 : Looks (model prog w) hh (typeOf (.ref x)) (.ref C) := by rw [← hc]; exact (Looks.ld hx).andThen .now
  have L1 := looks_mroIn (M := model prog w) In hm
  refine codeAny_call_builtin KF.slot_gs.plain KF.entry_gs (KF.slot_gs.check _ _ _ _ _ _ _ _ KF.type_class (KF.args_gs _ _ _) ?_)
  unfold Builtin.«getset_descriptor.__get__»
  unfold descrGet
  rw [dga_obj]
  refine wpAny_bind (wpAny_pure ?_)
  unfold descrGetter
  unfold descrCheckInstance descrNameAndClass
  unfold isInstance
  simp only [KF.owner_class]
  repeat lk
  refine ⟨Code.quiet_builtin _ (by decide +kernel), codeAny_builtin KF.entry_class ?_⟩
  unfold Builtin.«object.__class__»
  unfold shownTypeOf
  repeat lk
  exact h
theorem excls_entry {tk : Tok} {Q : Fin → Shared → Prop} (In : K.In hh) (hx : hh.get? x = some ox) (hc : ox.cls = .ref C) (hm : mroIn K C (.type "object") = some true) (ha : findIn K (.ref C) "__class__" = some (some (.builtin "object.__class__")))
    (hq : Q (.done (.ret (.ref C))) ⟨hh, g, d, t, os⟩) : wpAny (model prog w) A (Builtin.«object.__getattribute__» ⟨[.ref x, .str "__class__" tk], []⟩) Q E ⟨hh, g, d, t, os⟩ := by
  have hT5 : (⟨hh, g, d, t, os⟩ : Shared).TypeIs (.builtin "object.__class__") "getset_descriptor" := F.typeOf_object_class
  have f5 := F.typeOf_object_class
  have f6 := F.slot_gs_get.lookup
  have f7 := F.slot_gs_set.lookup
  have L3 := looks_findIn (M := model prog w) In ha
  repeat (any_goals (first | assumption | (with_reducible refine wpAny_loadPart_at hx ?_; rw [hc]) | with_reducible refine L3.at ?_ | wp_step))
  refine excls_get In hx hc hm ?_
  repeat (any_goals (first | assumption | wp_step))
theorem excls_check {nv : Value} {Q : Unit → Shared → Prop} (In : K.In hh) (hx : hh.get? x = some ox) (hc : ox.cls = .ref C) (hb : mroIn K C (.type "BaseException") = some true) (hq : Q () ⟨hh, g, d, t, os⟩) :
    wpAny (model prog w) A (checkBuiltinCall "BaseException.__getattribute__" ⟨[.ref x, nv], []⟩) Q E ⟨hh, g, d, t, os⟩ := by
  have k1 : builtinKind "BaseException.__getattribute__" = some .slot := by decide +kernel
  have k2 : splitId "BaseException.__getattribute__" = some ("BaseException", "__getattribute__") := by decide +kernel
  have k3 := F.args_bexc_ga (.ref x) nv
  have L1 := looks_mroIn (M := model prog w) In hb
  simp only [checkBuiltinCall, k1, k2]
  refine wpAny_bind ?_
  unfold isInstance
  repeat (first | (with_reducible refine wpAny_loadPart_at hx ?_; rw [hc]) | with_reducible refine L1.at ?_ | wp_step)
  exact hq
theorem excls_call {tk : Tok} {R : Result → Shared → Prop} (In : K.In hh) (hx : hh.get? x = some ox) (hc : ox.cls = .ref C) (hm : mroIn K C (.type "object") = some true) (hb : mroIn K C (.type "BaseException") = some true) (ha : findIn K (.ref C) "__class__" = some (some (.builtin "object.__class__")))
    (hq : R (.ok (.ret (.ref C))) ⟨hh, g, d, t, os⟩) : codeAny (model prog w) A (.call (.builtin "BaseException.__getattribute__") ⟨[.ref x, .str "__class__" tk], []⟩) R ⟨hh, g, d, t, os⟩ :=
  codeAny_call_builtin (by decide +kernel) F.entry_bexc_ga (excls_check In hx hc hb (excls_entry In hx hc hm ha hq))
theorem excls_by {tk : Tok} {Q : Value → Shared → Prop} (In : K.In hh) (hx : hh.get? x = some ox) (hc : ox.cls = .ref C) (hm : mroIn K C (.type "object") = some true) (hb : mroIn K C (.type "BaseException") = some true) (ha : findIn K (.ref C) "__class__" = some (some (.builtin "object.__class__")))
    (hga : findIn K (.ref C) "__getattribute__" = some (some (.builtin "BaseException.__getattribute__"))) (hgt : findIn K (.ref C) "__getattr__" = some none) (hbd : bindSpecial (.builtin "BaseException.__getattribute__") (.ref x) = pure (.builtin "BaseException.__getattribute__", [.ref x])) (hq : Q (.ref C) ⟨hh, g, d, t, os⟩) :
    wpAny (model prog w) A (getAttrBy (.ref x) (.str "__class__" tk) false) Q E ⟨hh, g, d, t, os⟩ := by
  have e2 : (Value.builtin "BaseException.__getattribute__" == Value.builtin "object.__getattribute__") = false := by decide +kernel
  have e1 : (onTheHeap (Value.ref C) && Value.builtin "BaseException.__getattribute__" == Value.builtin "object.__getattribute__") = false := by rw [e2]; rfl
  have e0 : (false && onTheHeap (Value.builtin "BaseException.__getattribute__")) = false := rfl
  have L1 := looks_findIn (M := model prog w) In hga
  have L2 := looks_findIn (M := model prog w) In hgt
  repeat (any_goals (first | assumption | (with_reducible refine wpAny_loadPart_at hx ?_; rw [hc]) | with_reducible refine L1.at ?_ | with_reducible refine L2.at ?_ | wp_step))
  refine excls_call In hx hc hm hb ha ?_
  repeat (any_goals (first | assumption | wp_step))
theorem excls_attr {Q : Option Value → Shared → Prop} (In : K.In hh) (hx : hh.get? x = some ox) (hc : ox.cls = .ref C) (hm : mroIn K C (.type "object") = some true) (hb : mroIn K C (.type "BaseException") = some true) (ha : findIn K (.ref C) "__class__" = some (some (.builtin "object.__class__")))
    (hga : findIn K (.ref C) "__getattribute__" = some (some (.builtin "BaseException.__getattribute__"))) (hgt : findIn K (.ref C) "__getattr__" = some none) (hq : Q (some (.ref C)) ⟨hh, g, d, t + 1, os⟩) :
    wpAny (model prog w) A (getAttr? (.ref x) "__class__") Q E ⟨hh, g, d, t, os⟩ := by
  unfold getAttr? getAttrBy?
  refine wpAny_bind (wpAny_mkText (wpAny_bind (wpAny_attempt (excls_by In hx hc hm hb ha hga hgt ?_ (wpAny_pure hq)))))
  exact bexc_bind (.ref x)
theorem kitx_exc (hd : hasDictIn K C = true) (hm : mroIn K C (.type "object") = some true) (hb : mroIn K C (.type "BaseException") = some true) (ha : findIn K (.ref C) "__class__" = some (some (.builtin "object.__class__")))
    (hga : findIn K (.ref C) "__getattribute__" = some (some (.builtin "BaseException.__getattribute__"))) (hgt : findIn K (.ref C) "__getattr__" = some none) : KitX K (.ref x) (.ref C) (fun h => ∃ o, h.get? x = some o ∧ o.cls = .ref C) where
  ty := fun M h _ ⟨o, hx, hc⟩ => by rw [← hc]; exact (Looks.ld hx).andThen .now
  it := fun M h In _ => by
    obtain ⟨cd, e, _⟩ := any_some hd
    unfold clsIn at e
    split at e
    case h_2 => cases e
    case h_1 q =>
      intro A' Q' E' s' k z
      unfold isType
      unfold loadHead
      exact wpAny_bind (wpAny_loadPart (k _ _ (In _ _ q)) (wpAny_pure z))
  ne := fun h tp dd its n sl In htp => by
    obtain ⟨cd, e, _⟩ := any_some hd
    refine Bool.eq_false_iff.mpr fun z => ?_
    have z1 : C = tp := Value.ref.inj (beq_iff_eq.mp z)
    subst z1
    unfold clsIn at e
    split at e
    case h_2 => cases e
    case h_1 q =>
      have y := (In _ _ q).symm.trans htp
      cases y
  ca := fun {prog w A E Q s} In ⟨o, hx, hc⟩ k => by
    obtain ⟨hh, g, d, t, os⟩ := s
    exact excls_attr In hx hc hm hb ha hga hgt k
end
end PySem.W
namespace L2
open PySem PySem.Spec PyProof.Rows
/-- what the text's exception class has from its line -/
structure ExcT (K : PySem.W.Frag) (C : Addr) : Prop where
  hd : PySem.W.hasDictIn K C = true
  hm : PySem.W.mroIn K C (.type "object") = some true
  hb : PySem.W.mroIn K C (.type "BaseException") = some true
  ha : PySem.W.findIn K (.ref C) "__class__" = some (some (.builtin "object.__class__"))
  hga : PySem.W.findIn K (.ref C) "__getattribute__" = some (some (.builtin "BaseException.__getattribute__"))
  hgt : PySem.W.findIn K (.ref C) "__getattr__" = some none
section
variable {X : Cx}
/-- isinstance of a caught exception -/
theorem call_isinstX {C : Addr} (T : ExcT X.K C) : CallR X (.builtin "isinstance") (fun xs H Q => ∃ a c cv b, xs = [.ref a, c] ∧ clsV c = some cv ∧ H a = some (ExcO a (.ref C)) ∧ PySem.W.kitOne X.K (.ref C) cv = some b ∧ Q (.bl b) H) := by
  intro pins s σ H xs us Q I r h
  obtain ⟨a, c, cv, b, rfl, ec, ha, e, q⟩ := h
  obtain ⟨u, w', rfl, ru, rw'⟩ := vals2 r
  have ew : w' = cv := by
    cases c with
    | ty n => cases (show w' = Value.type n from rw'); simpa [clsV] using ec
    | ref a => cases (show w' = Value.ref a from rw'); simpa [clsV] using ec
    | _ => simp [clsV] at ec
  subst ew
  cases (show u = Value.ref a from ru)
  obtain ⟨⟨o, vs, h1, h2, _⟩, _⟩ := (show ObjOk X.prog X.w H s.heap a (ExcO a (.ref C)) from I.hok a _ ha)
  exact PySem.W.kia_one (PySem.W.kitx_exc T.hd T.hm T.hb T.ha T.hga T.hgt) I.kIn ⟨o, h1, h2⟩ e (fun z => nomatch z) fun tk => ⟨.bl b, H, I.tok tk, rfl, q⟩
theorem call_isinstXK {K : PySem.W.Frag} {C : Addr} (T : ExcT K C) (h : X.K = K := by rfl) : CallR X (.builtin "isinstance") (fun xs H Q => ∃ a c cv b, xs = [.ref a, c] ∧ clsV c = some cv ∧ H a = some (ExcO a (.ref C)) ∧ PySem.W.kitOne K (.ref C) cv = some b ∧ Q (.bl b) H) := by subst h; exact call_isinstX T
/-- a class of the text, as a value -/
theorem pe_cla {g : Gx} {x : Str} {C : Addr} {pos : Pos} (h : g.mg x = some (.ref C)) (hX : X.gx = g := by rfl) (hg : Gl X x := by rfl) (hd : (x == ("__debug__" : Str)) = false := by decide) : PE X (.Name x pos) (tC (.ref C)) := by
  subst hX
  exact pe_glob hg h rfl hd
end
theorem caught_K {X : Cx} {a : Addr} : (X.caught a).K = X.K := rfl
end L2
namespace L2
open PySem PySem.Spec PyProof.Rows
theorem noattr_mk {K : PySem.W.Frag} {C : Addr} {f : Str} (h : PySem.W.findIn K (.ref C) f = some none) : NoAttr K C f := h
end L2
namespace L2
open PySem PySem.Spec PyProof.Rows
section
variable {src : List (Option Nat)} {te : TE} {σ : St} {H : Hp} {Q : VK}
end
end L2
namespace L2
open PySem PySem.Spec PyProof.Rows
section
variable {X : Cx}
end
end L2
namespace L2
open PySem PySem.Spec PyProof.Rows
section
variable {src : List (Option Nat)} {te : TE} {σ : St} {H : Hp} {Q : VK}
end
end L2
namespace L2
open PySem PySem.Spec PyProof.Rows
/-! the script itself as a list that + may read -/
def SqX (K : PySem.W.Frag) (H : Hp) (a : Addr) (xs : List V) : Prop := Rd H a (.lst xs) ∨ ∃ (its : Array Value) (n : Nat), K.lookup a = some { cls := .type "list", data := .seq its n } ∧ its.size ≤ sizeLine ∧ Vals xs its.toList
section
variable {X : Cx}
def rCatX (K : PySem.W.Frag) : R2 := fun x y H Q => ∃ l b xs zs, x = .ref l ∧ y = .ref b ∧ SqX K H l xs ∧ SqX K H b zs ∧ xs.length + zs.length ≤ sizeLine ∧ ∀ p, H p = none → Q (.ref p) (upd H p (.lst (xs ++ zs)))
end
def spTrueX (K : PySem.W.Frag) : Sp := fun vs H Q _ => ∃ (a : Addr) (ns : List Int), vs = [.ref a] ∧ SqX K H a (ns.map V.int) ∧ ns.length ≤ 63 ∧ ∀ H', Q (.bl true) H'
end L2
namespace L2
open PySem PySem.Spec PyProof.Rows
/-! defs as values: a def's name as an argument, a call of what a name of one's own holds -/
def Gx.FnV (g : Gx) (k : Nat) (f : Addr) (ps : List Str) (sp : Sp) : Prop := ∃ fd, FnOk g.P g.w g.K g.mg g.base CX0 k f fd ps sp ∧ Binds g.K fd ps [] ∧ PySem.W.keepIn g.K (.ref f) = true
def tFn (g : Gx) (k : Nat) (ps : List Str) (sp : Sp) : TE := fun _ H Q => ∀ f, g.FnV k f ps sp → Q (.ref f) H
def tCallV (g : Gx) (k i : Nat) (t : TA) : TE := fun σ H Q => ∃ f ps sp, σ[i]? = some (some (.ref f)) ∧ g.FnV k f ps sp ∧ t σ H fun vs H1 => sp vs H1 Q E0
section
variable {X : Cx} {g : Gx} {k j i : Nat} {x : Str} {ps : List Str} {sp : Sp} {p pos : Pos} {e : Expr} {es : List Expr} {t : TA}
end
/-! the arguments of a call, one by one: for tuples and lists, said once (by rfl at the place it costs minutes) -/
theorem star_tup (es : List Expr) (x : Nat) (p : Pos) (es' : List Expr) (env : Env) : starEach (.Tuple es x p :: es') env = (false, eval (.Tuple es x p) env) :: starEach es' env := rfl
end L2
namespace L2
open PySem PySem.Spec PyProof.Rows
/-! isinstance(x, (T, U)); comprehensions over the pairs of two lists, two tuples, either -/
section
variable {X : Cx} {pins : List (Addr × Obj)} {σ : St} {H : Hp} {s : Shared} {A : Around} {E Q : Value → Shared → Prop}
end
section
variable {X : Cx}
end
section
variable {src : List (Option Nat)} {te : TE} {σ : St} {Q : VK}
variable {X : Cx} {H : Hp}
/-- an iteration over either of two kinds -/
def iOr (a b : TI) : TI := fun σ H R => a σ H R ∨ b σ H R
end
end L2
namespace L2
open PySem PySem.Spec PyProof.Rows
/-! ### < of data: ints and tuples of them, to any depth -/
mutual
/-- d < e, of which this is the answer -/
inductive LtR : PyData → PyData → Bool → Prop
  | int (i j : Int) : LtR (.int i) (.int j) (decide (i < j))
  | tup {ds es : List PyData} {b : Bool} : LtA ds es b → LtR (.tuple ds) (.tuple es) b
inductive LtA : List PyData → List PyData → Bool → Prop
  | nn : LtA [] [] false
  | nc {e : PyData} {es : List PyData} : LtA [] (e :: es) true
  | cn {d : PyData} {ds : List PyData} : LtA (d :: ds) [] false
  | eq {d e : PyData} {ds es : List PyData} {b : Bool} : PyData.eqv d e = true → LtA ds es b → LtA (d :: ds) (e :: es) b
  | ne {d e : PyData} {ds es : List PyData} {b : Bool} : PyData.eqv d e = false → LtR d e b → LtA (d :: ds) (e :: es) b
end
def LtAt (A : Around) (s : Shared) (u v : Value) (b : Bool) : Prop := ∀ (prog : Program) (w : World) (E : Value → Shared → Prop) (Q : Value → Shared → Prop), Q (.bool b) s → wpAny (model prog w) A (richCompare .Lt u v) Q E s
section
open PySem.SeqAt
open PySem.AutoSeq1 (wpAny_loadPart')
open PySem.MeetsSeq PySem.MeetsSeq2 PySem.MeetsSeq3
/-- pairs of items: equal by the data, or comparable -/
inductive Two (A : Around) (s : Shared) : List Value → List Value → Bool → Prop
  | nn : Two A s [] [] false
  | nc {v : Value} {vs : List Value} : Two A s [] (v :: vs) true
  | cn {v : Value} {vs : List Value} : Two A s (v :: vs) [] false
  | eq {u v : Value} {us vs : List Value} {b : Bool} : EqAt A s u v true → Two A s us vs b → Two A s (u :: us) (v :: vs) b
  | ne {u v : Value} {us vs : List Value} {b : Bool} : EqAt A s u v false → LtAt A s u v b → Two A s (u :: us) (v :: vs) b
variable {X : Cx}
end
end L2
namespace L2
open PySem PySem.Spec PyProof.Rows
/-! ### <= of data: ints and tuples of them, to any depth -/
mutual
/-- d <= e, of which this is the answer -/
inductive LeR : PyData → PyData → Bool → Prop
  | int (i j : Int) : LeR (.int i) (.int j) (decide (i ≤ j))
  | tup {ds es : List PyData} {b : Bool} : LeA ds es b → LeR (.tuple ds) (.tuple es) b
inductive LeA : List PyData → List PyData → Bool → Prop
  | nn : LeA [] [] true
  | nc {e : PyData} {es : List PyData} : LeA [] (e :: es) true
  | cn {d : PyData} {ds : List PyData} : LeA (d :: ds) [] false
  | eq {d e : PyData} {ds es : List PyData} {b : Bool} : PyData.eqv d e = true → LeA ds es b → LeA (d :: ds) (e :: es) b
  | ne {d e : PyData} {ds es : List PyData} {b : Bool} : PyData.eqv d e = false → LeR d e b → LeA (d :: ds) (e :: es) b
end
def LeAt (A : Around) (s : Shared) (u v : Value) (b : Bool) : Prop := ∀ (prog : Program) (w : World) (E : Value → Shared → Prop) (Q : Value → Shared → Prop), Q (.bool b) s → wpAny (model prog w) A (richCompare .LtE u v) Q E s
section
open PySem.SeqAt
open PySem.AutoSeq1 (wpAny_loadPart')
open PySem.MeetsSeq PySem.MeetsSeq2 PySem.MeetsSeq3
/-- pairs of items: equal by the data, or comparable -/
inductive TwoE (A : Around) (s : Shared) : List Value → List Value → Bool → Prop
  | nn : TwoE A s [] [] true
  | nc {v : Value} {vs : List Value} : TwoE A s [] (v :: vs) true
  | cn {v : Value} {vs : List Value} : TwoE A s (v :: vs) [] false
  | eq {u v : Value} {us vs : List Value} {b : Bool} : EqAt A s u v true → TwoE A s us vs b → TwoE A s (u :: us) (v :: vs) b
  | ne {u v : Value} {us vs : List Value} {b : Bool} : EqAt A s u v false → LeAt A s u v b → TwoE A s (u :: us) (v :: vs) b
variable {X : Cx}
variable {K : PySem.W.Frag}
end
end L2
namespace L2
open PySem
/-! keys: ints and tuples of keys; their order -/
mutual
inductive KD : PyData → Prop
  | int (i : Int) : KD (.int i)
  | tup {ds : List PyData} : KDs ds → KD (.tuple ds)
inductive KDs : List PyData → Prop
  | nil : KDs []
  | cons {d : PyData} {ds : List PyData} : KD d → KDs ds → KDs (d :: ds)
end
mutual
/-- the order of keys, ints ahead of tuples -/
inductive KLt : PyData → PyData → Prop
  | int {i j : Int} : i < j → KLt (.int i) (.int j)
  | mix {i : Int} {ds : List PyData} : KLt (.int i) (.tuple ds)
  | tup {ds es : List PyData} : KLs ds es → KLt (.tuple ds) (.tuple es)
inductive KLs : List PyData → List PyData → Prop
  | nil {e : PyData} {es : List PyData} : KLs [] (e :: es)
  | here {d e : PyData} {ds es : List PyData} : KLt d e → KLs (d :: ds) (e :: es)
  | there {d : PyData} {ds es : List PyData} : KLs ds es → KLs (d :: ds) (d :: es)
end
/-! where < answers, it answers by the order -/
/-! two keys that < can be asked of: of one make where they first differ -/
mutual
inductive Sim : PyData → PyData → Prop
  | int (i j : Int) : Sim (.int i) (.int j)
  | tup {ds es : List PyData} : Sims ds es → Sim (.tuple ds) (.tuple es)
inductive Sims : List PyData → List PyData → Prop
  | nil {es : List PyData} : Sims [] es
  | end_ {ds : List PyData} : Sims ds []
  | cons {d e : PyData} {ds es : List PyData} : Sim d e → (d = e → Sims ds es) → Sims (d :: ds) (e :: es)
end
end L2
namespace L2
open PySem
section
variable {src : List (Option Nat)} {te : TE} {σ : St} {H : Hp} {Q : VK}
end
end L2
namespace L2
open PySem
/-! values with the lists that stand in them, in their order -/
mutual
inductive VL (H : Hp) : V → PyData → List Addr → Prop
  | int (i : Int) : VL H (.int i) (.int i) []
  | str (x : Str) (h : PyData.strOk x = true) : VL H (.str x) (.str x) []
  | lst {a : Addr} {vs : List V} {ds : List PyData} {L : List Addr} : H a = some (.lst vs) → vs.length ≤ 10000 → VLs H vs ds L → VL H (.ref a) (.list ds) (a :: L)
  | tup {a : Addr} {vs : List V} {ds : List PyData} {L : List Addr} : H a = some (.tup vs) → vs.length ≤ 10000 → VLs H vs ds L → VL H (.ref a) (.tuple ds) L
inductive VLs (H : Hp) : List V → List PyData → List Addr → Prop
  | nil : VLs H [] [] []
  | cons {v : V} {d : PyData} {L : List Addr} {vs : List V} {ds : List PyData} {L' : List Addr} : VL H v d L → VLs H vs ds L' → VLs H (v :: vs) (d :: ds) (L ++ L')
end
/-- tuples stay -/
def Tps (H H' : Hp) : Prop := ∀ a vs, H a = some (.tup vs) → H' a = some (.tup vs)
/-- its lists are all new, each but once -/
structure Own (H0 H : Hp) (v : V) (d : PyData) (L : List Addr) : Prop where
  vl : VL H v d L
  nd : L.Nodup
  new : ∀ a ∈ L, H0 a = none
structure Owns (H0 H : Hp) (vs : List V) (ds : List PyData) (L : List Addr) : Prop where
  vl : VLs H vs ds L
  nd : L.Nodup
  new : ∀ a ∈ L, H0 a = none
section
variable {src : List (Option Nat)} {te : TE} {σ : St} {H : Hp} {Q : VK}
/-- so many turns of range(0, n, c) -/
def UpTo (n c m : Nat) : Prop := (∀ i, i < m → i * c < n) ∧ n ≤ m * c
/-- what is left of a list by the places -/
def sel (p : Nat → Bool) (ds : List PyData) (n : Nat) : List PyData := ((List.range n).filter p).filterMap (ds[·]?)
end
end L2
namespace L2
open PySem PySem.Spec PyProof.Rows
section
variable {X : Cx} {pos : Pos}
def rStarts : V → List V → Hp → VK → Prop := fun x vs H Q => ∃ (z y : Str), x = .str z ∧ vs = [.str y] ∧ Q (.bl (Txt.startswith z y)) H
theorem mt_starts : MtR X "str.startswith" rStarts := by
  intro pins s σ H x vs v us Q I rx r h
  obtain ⟨z, y, rfl, rfl, q⟩ := h
  obtain ⟨t, rfl⟩ := rx
  obtain ⟨u, rfl, ru⟩ := vals1 r
  obtain ⟨t', rfl⟩ := ru
  exact call_gives F.slot_str_startswith (typeIs_str s z t) F.entry_str_startswith (F.args_str_startswith_2 _ _) (gives_str_startswith z y t t') ⟨.bl _, H, I, rfl, q⟩
theorem call_int_text : CallR X (.type "int") (fun xs H Q => ∃ x n, xs = [.str x] ∧ PySem.intText? x = some n ∧ x.length ≤ 640 ∧ Q (.int n) H) := by
  intro pins s σ H xs us Q I r h
  obtain ⟨x, n, rfl, hn, hl, q⟩ := h
  obtain ⟨u, rfl, t, rfl⟩ := vals1 r
  exact PySem.W.KIN.call_text hn hl ⟨.int n, H, I.tok _, ⟨_, rfl⟩, q⟩
end
/-- the signs of a number's text -/
def dg (i : Int) : List Nat := (Str.ofString (toString i)).cps.toList
theorem dg_str (i : Int) : Str.ofString (toString i) = S (dg i) := by unfold dg S; simp
theorem dg_nat (n : Nat) : dg (n : Int) = (Nat.toDigits 10 n).map Char.toNat := PySem.W.KIN.signs_num n
theorem dg_digits (n : Nat) : ∀ c ∈ dg (n : Int), 48 ≤ c ∧ c ≤ 57 := by
  intro c hc
  rw [dg_nat] at hc
  obtain ⟨ch, hch, e⟩ := List.mem_map.mp hc
  have r := PyProof.Rows.digit_range (Nat.isDigit_of_mem_toDigits (by decide) (by decide) hch)
  rw [← e]
  exact r
theorem dg_head {n : Nat} (h : 0 < n) : ∃ c r, dg (n : Int) = c :: r ∧ c ≠ 48 := by
  rw [dg_nat]
  induction n using Nat.strongRecOn with
  | _ m ih =>
    by_cases h1 : m < 10
    · rw [Nat.toDigits_of_lt_base h1]
      refine ⟨_, [], rfl, ?_⟩
      have : ∀ d : Nat, d < 10 → 0 < d → (Nat.digitChar d).toNat ≠ 48 := by decide
      exact this m h1 h
    · have hm : m % 10 < 10 := Nat.mod_lt m (by decide)
      have t : Nat.toDigits 10 (m / 10) ++ Nat.toDigits 10 (m % 10) = Nat.toDigits 10 (10 * (m / 10) + m % 10) := Nat.toDigits_append_toDigits (by decide) (by omega) hm
      rw [Nat.div_add_mod] at t
      obtain ⟨c, r, e, hc⟩ := ih (m / 10) (by omega) (by omega)
      rw [← t, List.map_append, e]
      exact ⟨c, _, rfl, hc⟩
theorem dg_ne (n : Nat) : dg (n : Int) ≠ [] := by
  by_cases h : n = 0
  · subst h; decide +kernel
  · obtain ⟨c, r, e, _⟩ := dg_head (n := n) (by omega)
    rw [e]; simp
theorem dg_neg {n : Nat} (h : 0 < n) : dg (-(n : Int)) = 45 :: dg (n : Int) := by
  obtain ⟨m, rfl⟩ : ∃ m, n = m + 1 := ⟨n - 1, by omega⟩
  rw [dg_nat]
  unfold dg
  rw [Str.ofString_eq_byList]
  show ((toString (Int.negSucc m)).toList.map Char.toNat) = _
  have e : toString (Int.negSucc m) = "-" ++ Nat.repr (m + 1) := rfl
  rw [e, String.toList_append, List.map_append, Nat.toList_repr]
  rfl
theorem dg_len {n k : Nat} (hk : 0 < k) (h : n < 10 ^ k) : (dg (n : Int)).length ≤ k := by
  rw [dg_nat, List.length_map]
  have := (Nat.length_repr_le_iff hk).mpr h
  rwa [← String.length_toList, Nat.toList_repr] at this
theorem dg_val {i : Int} (h : i.natAbs < 10 ^ 600) : PySem.intText? (S (dg i)) = some i := by
  have hl := dg_len (k := 600) (by decide) h
  rcases Int.natAbs_eq i with e | e
  · rw [e]
    have e1 : (S (dg (i.natAbs : Int))).cps.toList = dg (i.natAbs : Int) := S_list _
    have := PySem.intText_digits (x := S (dg (i.natAbs : Int))) (by rw [e1]; exact dg_digits _) (by rw [e1]; exact dg_ne _) (by rw [S_len]; omega)
    rw [this, e1, dg_nat, PySem.W.KIN.val_back]
  · by_cases h0 : i.natAbs = 0
    · have : i = 0 := by omega
      subst this
      decide +kernel
    · rw [e, dg_neg (by omega)]
      have e1 : (S (45 :: dg (i.natAbs : Int))).cps.toList = 45 :: dg (i.natAbs : Int) := S_list _
      have := PySem.intText_neg (x := S (45 :: dg (i.natAbs : Int))) e1 (dg_digits _) (dg_ne _) (by rw [S_len, List.length_cons]; omega)
      rw [this, dg_nat, PySem.W.KIN.val_back]
end L2
namespace L2
open PySem
section
variable {src : List (Option Nat)} {te : TE} {σ : St} {H : Hp} {Q : VK}
end
end L2
namespace L2
open PySem PySem.Spec PyProof.Rows
/-! ### methods that may raise -/
def Gx.MeX (g : Gx) (k : Nat) (C : Addr) (m : Str) (ps : List Str) (sp : Sp) : Prop := ∃ f fd, FnOk g.P g.w g.K g.mg g.base (CXF g.P g.w) k f fd ps sp ∧ Binds g.K fd ps [] ∧ Meth g.K C m f
section
variable {g : Gx} {k : Nat} {x qual m : Str} {st : Stmt} {N ps : List Str} {sp : Sp} {C : Addr}
theorem Gx.RawM.meX (R : g.RawM C m qual st ps) (S : FnScope N ps (defScope st)) (len : ∀ vs H Q E, sp vs H Q E → vs.length = ps.length) (b : BodyX g k N qual st sp) : g.MeX (k + 1) C m ps sp := by
  obtain ⟨f, fd, F, bd, hm⟩ := R
  refine ⟨f, fd, ?_, bd, hm⟩
  obtain ⟨oc, od, kV, doc, pm, an, cdv, ct, osl, rfl, lk, hcd⟩ := F.ex
  exact fn_of lk hcd S len fun A outer s H vs Q E hr h => b f cdv A outer s H vs Q E hr h
theorem Gx.MeX.mono {j : Nat} (F : g.MeX j C m ps sp) (h : j ≤ k) : g.MeX k C m ps sp := by
  obtain ⟨f, fd, F, r⟩ := F
  exact ⟨f, fd, F.mono h, r⟩
theorem Gx.RawM.noneX (R : g.RawM C m qual st ps) (no : ∀ vs H Q E, ¬ sp vs H Q E) : g.MeX k C m ps sp := by
  obtain ⟨f, fd, F, bd, hm⟩ := R
  exact ⟨f, fd, ⟨fun vs H Q E h => absurd h (no vs H Q E), fun A outer s H args us vs Q E _ _ _ _ h => absurd h (no vs H Q E)⟩, bd, hm⟩
end
section
variable {g : Gx} {X : Cx} {k j : Nat} {x m : Str} {ps : List Str} {sp : Sp} {E : XK} {C : Addr} {e o : Expr} {es : List Expr} {t : TA} {ta : TE} {p pos apos : Pos}
theorem pe_meX0 {pl : Sem Bool} (F : g.MeX j C m ps sp) (c : Cls g.K C) (hr : Room k X.A) (hp : Passes (CXF g.P g.w) X E) (ho : PE X o ta) (hj : j ≤ k := by omega) (hX : X.gx = g := by rfl)
    (ht : eval (.Call (.Attribute o m apos) [] [] pos) X.env = (do
      let ov ← eval o X.env
      standAt apos.atName
      let (f, first) ← holding [ov] (getMethod ov m pl)
      callWith pos f first (backTo pos (starEach [] X.env)) (backToKw pos (keywordEach [] X.env))) := by rfl) : PE X (.Call (.Attribute o m apos) [] [] pos) (tMeth C m sp [] E ta tNil) := by
  subst hX
  obtain ⟨f, fd, F, b, hm⟩ := F
  exact pe_meth0 ho c hm F (hr.mono hj) b .nil hp ht
end
/-- a def that may raise, where it does not -/
theorem passNo {P : Program} {w : World} {X : Cx} : Passes (CXF P w) X (fun _ _ _ => False) := by
  intro pins σ H s e s' I h
  obtain ⟨_, _, _, _, _, _, _, _, z⟩ := h
  exact z.elim
/-- an expression that is never reached -/
def tNo : TE := fun _ _ _ => False
/-- a call by either of two rules -/
theorem callR_or {X : Cx} {f : Value} {r1 r2 : List V → Hp → VK → Prop} (h1 : CallR X f r1) (h2 : CallR X f r2) : CallR X f (fun xs H Q => r1 xs H Q ∨ r2 xs H Q) := fun pins s σ H xs us Q I v h =>
  h.elim (h1 pins s σ H xs us Q I v) (h2 pins s σ H xs us Q I v)
/-! ### try: f(..) except C as e: suite -/
def tTryE (K : PySem.W.Frag) (cv : Value) (sp : Sp) (t : TA) (j : Nat) (ts : TS) : TS := fun D σ H => t σ H fun vs H1 => sp (vs ++ []) H1 (fun v H2 => D.nx σ H2) (fun cls _ H2 => PySem.W.exmOne K cls cv = some true ∧ ∀ a, H2 a = none → ts (D.gone j) (σ.set j (some (.ref a))) (upd H2 a (ExcO a cls)))
section
variable {g : Gx} {X : Cx} {k jj j : Nat} {f c n : Str} {ps : List Str} {sp : Sp} {e : Expr} {es : List Expr} {t : TA} {ts : TS} {b₀ : Stmt} {suite : List Stmt} {cv : Value} {fp cp hpos apos cpos pos : Pos}
theorem ps_tryE (F : g.FnX jj f ps sp) (hr : Room k X.A) (hN : X.N.Nodup) (hj : X.N[j]? = some n) (hk : X.env.scope.names.lookup n = some .local) (ha : PA X.nox (e :: es) t) (hcm : g.mg c = some cv) (hsu : ∀ a, PSs (X.caught a) (b₀ :: suite) ts)
    (hjk : jj ≤ k := by omega) (hX : X.gx = g := by rfl) (hs : X.stack = X.env :: X.outer := by rfl) (hf : X.env.frame = some X.env.locals := by rfl) (hg : Gl X f := by rfl) (hc : Gl X c := by rfl) (hdf : (f == ("__debug__" : Str)) = false := by decide) (hdb : (c == ("__debug__" : Str)) = false := by decide)
    (he : starEach (e :: es) X.env = (false, eval e X.env) :: starEach es X.env := by rfl) (hpl : (backTo cpos (starEach es X.env)).any (·.1) = false := by rfl)
    (hsw : swapsWith (.Call (.Name f fp) (e :: es) [] cpos) none apos.line X.env = pure false := by rfl) :
    PS X (.Try [.Expr (.Call (.Name f fp) (e :: es) [] cpos) apos] [.ExceptHandler (some (.Name c cp)) (some n) (b₀ :: suite) hpos] [] [] pos) (tTryE X.K cv sp t j ts) := by
  subst hX
  intro pins s σ H D I h
  obtain ⟨fa, fd, F, b, kp, hm⟩ := F
  refine wpAny_Try_except ?_
  refine wpAny_execs_cons ?_
  refine wpAny_Expr_any (thn (Q := EP X pins σ fun v H2 => D.nx σ H2) ?_ fun v s1 hz => ?_) I.quiet hsw
  · refine wpAny_Call_Name_kw (ld_glob I hg hm ?_ hdf)
    refine PySem.W.callWith_K (h₀ := X.base) I.ok.mod.kin kp (wpAny_mono (ha cpos pins s σ H _ (I.wish _) h) (fun us s1 hz => ?_) fun _ _ z => z.elim) he hpl
    obtain ⟨vs, H1, I1, r, q⟩ := hz
    have I1 := I1.unwish
    refine ⟨I1.kIn, ?_⟩
    have r2 : Vals (vs ++ []) (us ++ []) := r.append .nil
    have hl : (us ++ []).length = ps.length := by rw [← r2.length]; exact F.len _ _ _ _ q
    refine wpAny_call (codeAny_mono (F.run X.A X.stack s1 H1 ⟨us, []⟩ (us ++ []) (vs ++ []) _ _ (hr.mono hjk) I1.env0 (b s1 us I1.kIn hl) r2 q) fun r s' hq => ?_)
    cases r with
    | error e => exact I1.catchAs hs hf hN hj hk hq hsu hc hcm hdb
    | ok fl =>
      cases fl with
      | ret u => exact I1.after hq
      | next => exact False.elim hq
      | brk => exact False.elim hq
      | cont => exact False.elim hq
  · obtain ⟨y, H1, I1, r1, q1⟩ := hz
    exact wpAny_execs_nil (wpAny_execs_nil ⟨_, H1, I1, q1⟩)
end
end L2
namespace L2
open PySem PySem.Spec PyProof.Rows
/-! ### sets of texts: set(text), set(list of texts), len of it -/
def addOnce (l : List Str) (v : Str) : List Str := if l.any (· == v) then l else l ++ [v]
def met (val : Nat → Str) (i : Nat) : List Str := ((List.range i).map val).foldl addOnce []
theorem met_zero (val : Nat → Str) : met val 0 = [] := rfl
theorem met_succ (val : Nat → Str) (i : Nat) : met val (i + 1) = addOnce (met val i) (val i) := by
  unfold met; rw [List.range_succ, List.map_append, List.foldl_append]; rfl
theorem met_le (val : Nat → Str) : ∀ i, (met val i).length ≤ i
  | 0 => by rw [met_zero]; exact Nat.le_refl _
  | i + 1 => by
    rw [met_succ]; unfold addOnce
    have ih := met_le val i
    split
    · omega
    · rw [List.length_append, List.length_singleton]; omega
theorem add_any (l : List Str) (v k : Str) : (addOnce l v).any (· == k) = (l.any (· == k) || decide (k = v)) := by
  unfold addOnce
  by_cases h : l.any (· == v) = true
  · rw [if_pos h]
    by_cases e : k = v
    · subst e; rw [h]; simp
    · simp [e]
  · rw [if_neg h, List.any_append]
    by_cases e : k = v
    · subst e; simp
    · have hb : (v == k) = false := by simpa [beq_iff_eq] using (fun h' : v = k => e h'.symm)
      simp [hb, e]
theorem add_len (l : List Str) (v : Str) : (addOnce l v).length = if l.any (· == v) then l.length else l.length + 1 := by
  unfold addOnce; split <;> simp
theorem met_all {val : Nat → Str} : ∀ {n : Nat}, (∀ i j, i < j → j < n → val i ≠ val j) → met val n = (List.range n).map val
  | 0, _ => rfl
  | n + 1, h => by
    rw [met_succ, met_all fun i j a b => h i j a (by omega), List.range_succ, List.map_append]
    unfold addOnce
    rw [if_neg]
    · rfl
    · simp only [List.any_map, List.any_eq_true, List.mem_range, Function.comp, beq_iff_eq, not_exists, not_and]
      intro i hi e
      exact h i n hi (by omega) e
section
variable {prog : Program} {w : World} {A : Around} {R : Result → Shared → Prop} {I : Addr} {fp wr : List Addr} {G : Array GenState → Array GenState → Prop} {n : Nat} {P : Nat → Value → Prop} {St : Nat → Shared → Prop}
theorem set_loop (W : WalksS prog w A.in1 I fp wr G n P St) (S : Addr) (hSf : S ∉ fp)
    (val : Nat → Str) (hval : ∀ i v, P i v → ∃ t, v = .str (val i) t) (hb : n + 1 < scanBound) :
    ∀ (k i : Nat) (s : Shared), n - i = k → i ≤ n → St i s →
      s.heap.SetOf (PySem.strKind prog w) S (fun k' => (met val i).any (· == k')) (met val i).length →
      (∀ s', Moved (S :: wr) G s s' → s'.heap.SetOf (PySem.strKind prog w) S (fun k' => (met val n).any (· == k')) (met val n).length → R (.ok (.ret .none)) s') →
      codeAny (model prog w) A (.builtin "set.update.loop" ⟨[.ref S, .ref I], []⟩) R s := by
  have hSw : S ∉ wr := fun h => hSf (W.sub _ h)
  have hsub : ∀ b ∈ wr, b ∈ S :: wr := fun b hb => List.mem_cons_of_mem _ hb
  intro k
  induction k with
  | zero =>
    intro i s hk hi hst hS hR
    have hin : i = n := by omega
    subst hin
    refine codeAny_builtin F.entry_set_update_loop ?_
    rw [Around.under_plainId F.plain_set_update_loop _]
    show wpAny _ A.in1 (pyNext (.ref I) >>= _) _ _ s
    refine wpAny_bind (W.done s _ _ hst fun s' hm => ?_)
    show wpAny _ A.in1 (ret Value.none) _ _ s'
    exact wpAny_pure (hR s' (hm.mono hsub) (by
      obtain ⟨o, es, ep, t, ho, rest⟩ := hS
      exact ⟨o, es, ep, t, hm.heap S _ hSw ho, rest⟩))
  | succ k ih =>
    intro i s hk hi hst hS hR
    have hlt : i < n := by omega
    refine codeAny_builtin F.entry_set_update_loop ?_
    rw [Around.under_plainId F.plain_set_update_loop _]
    show wpAny _ A.in1 (pyNext (.ref I) >>= _) _ _ s
    refine wpAny_bind (W.item i s _ _ hlt hst fun v s' hP hst' hm => ?_)
    obtain ⟨t, rfl⟩ := hval i v hP
    have hS' : s'.heap.SetOf (PySem.strKind prog w) S (fun k' => (met val i).any (· == k')) (met val i).length := by
      obtain ⟨o, es, ep, tb, ho, rest⟩ := hS
      exact ⟨o, es, ep, tb, hm.heap S _ hSw ho, rest⟩
    show wpAny _ A.in1 (holding [Value.str (val i) t] (setAdd S (.str (val i) t)) >>= _) _ _ s'
    refine wpAny_bind (wpAny_holding ?_)
    unfold setAdd
    refine wpAny_holding ?_
    have his : (PySem.strKind prog w).is (val i) (.str (val i) t) = true := by simp [PySem.strKind, Value.isStrOf]
    refine wpAny_bind ((PySem.strKind prog w).pyHash (k := val i) his ?_)
    have hroom : (met val i).length + 1 < scanBound := by have := met_le val i; omega
    refine wpAny_setAddHashed_of (knd := PySem.strKind prog w) (s := { s' with toks := s'.toks + 1 }) his rfl hS' hroom fun h' hsb hS2 => ?_
    have hSi : h'.SetOf (PySem.strKind prog w) S (fun k' => (met val (i + 1)).any (· == k')) (met val (i + 1)).length :=
      SetOf_congr hS2 (fun k' => by rw [met_succ, add_any]) (by rw [met_succ, add_len])
    refine wpAny_pure ⟨plainId_quiet F.plain_set_update_loop _, ih (i + 1) _ (by omega) hlt (W.frame _ s' _ _ hst' (Nat.le_succ _) fun b hb o e => ?_) hSi fun s'' hm'' hS'' => ?_⟩
    · rw [hsb.2 b (fun h : b = S => hSf (by rw [← h]; exact hb))]; exact e
    · refine hR s'' (Moved.trans W.gtrans ((hm.mono hsub).then_heap (Nat.le_succ _) fun b o hb e => ?_) hm'') hS''
      rw [hsb.2 b (fun h : b = S => hb (by rw [h]; exact List.mem_cons_self))]; exact e
end
end L2
namespace L2
open PySem PySem.Spec PyProof.Rows
theorem sub_str_set : isSubtype (.type "str") (.type "set") = pure false := by rw [isSubtype_type]; kernel_rfl
theorem sub_str_frozenset : isSubtype (.type "str") (.type "frozenset") = pure false := by rw [isSubtype_type]; kernel_rfl
def sg (x : Str) (i : Nat) : Str := ⟨#[x.cps.getD i 0]⟩
section
variable {prog : Program} {w : World} {A : Around} {E : Value → Shared → Prop} {s : Shared}
set_option maxHeartbeats 3200000 in
theorem set_of_str {x : Str} {u : Tok} {Q : Value → Shared → Prop}
    (hh : A.handled = none) (hb : x.cps.size + 1 < scanBound)
    (h : ∀ (h' : Heap) (tk : Nat), h'.SetOf (PySem.strKind prog w) s.heap.objs.size (fun k' => (met (sg x) x.cps.size).any (· == k')) (met (sg x) x.cps.size).length →
      (∀ b o, b < s.heap.objs.size → s.heap.get? b = some o → h'.get? b = some o) → Q (.ref s.heap.objs.size) { s with heap := h', toks := tk }) :
    wpAny (model prog w) A (call (.type "set") [.str x u]) Q E s := by
  obtain ⟨c, tl, hmro⟩ := PySem.F.called_set.mro
  have hmade := PySem.F.called_set.made
  have hsub := PySem.F.called_set.sub
  refine wpAny_call (codeAny_of_tree ?_)
  show wpAny _ _ (callAny (.type "set") _) _ _ _
  refine wpAny_pure ⟨Code.quiet_builtin _ (by decide +kernel), codeAny_builtin PySem.F.entry_type_call ?_⟩
  rw [Around.under_plain (weight_type_call_type "set" [.str x u] []) rfl]
  have h1 := PySem.F.called_set.notType
  have h2 := PySem.F.called_set.canCreate
  have hct := PySem.F.typeCall_set_1 (.str x u)
  repeat (any_goals (first | assumption | wp_step))
  refine codeAny_mono (code_set_new_1 (.str x u) (E := E) (Q₁ := fun obj s₁ => ∃ led : Bool, obj = .ref s.heap.objs.size ∧ s₁ = { s with heap := s.heap.push { cls := .type "set", dict := none, data := .set #[] 0 (.fresh 0 0 led) } }) fun led => ⟨led, rfl, rfl⟩) fun r s₁ hr => ?_
  cases r with
  | error e => exact hr
  | ok fl =>
    cases fl with
    | ret obj =>
      obtain ⟨led, rfl, rfl⟩ := hr
      have hS : (s.heap.push { cls := .type "set", dict := none, data := .set #[] 0 (.fresh 0 0 led) }).get? s.heap.objs.size = some { cls := .type "set", dict := none, data := .set #[] 0 (.fresh 0 0 led) } := Heap.get?_push_size _ rfl
      have hT : Shared.TypeIs { s with heap := s.heap.push { cls := .type "set", dict := none, data := .set #[] 0 (.fresh 0 0 led) } } (.ref s.heap.objs.size) "set" := ⟨_, hS, rfl⟩
      have hli := PySem.F.called_set.init.lookup
      have hbi := PySem.F.called_set.init.bind (.ref s.heap.objs.size)
      repeat (any_goals (first | assumption | wp_step))
      refine codeAny_mono (codeAny_call_builtin (R := wants (fun r s₂ => r = .none ∧ ∃ h' tk, s₂ = { s with heap := h', toks := tk } ∧
          h'.SetOf (PySem.strKind prog w) s.heap.objs.size (fun k' => (met (sg x) x.cps.size).any (· == k')) (met (sg x) x.cps.size).length ∧
          (∀ b o, b < s.heap.objs.size → s.heap.get? b = some o → h'.get? b = some o)) E) PySem.F.called_set.init.plain PySem.F.entry_set_init (check_set_init_1 hT ?_)) fun r₂ s₂ hr₂ => ?_
      · have hsls := sub_str_set
        have hslf := sub_str_frozenset
        have hne : (Value.type "str" == Value.type "dict") = false := by decide
        unfold Builtin.«set.__init__» noKeywords Builtin.Frozenset.updateFrom
        generalize hPI : pyIter = PI
        wp_walk
        subst hPI
        refine wpAny_pyIter_str fun oI St W st0 => ?_
        refine wpAny_bind (wpAny_runValue ?_)
        have hh3 : A.in1.in1.in1.handled = none := by simp [hh]
        have hSf : s.heap.objs.size ∉ [(s.heap.push { cls := .type "set", dict := none, data := .set #[] 0 (.fresh 0 0 led) }).objs.size] := by
          rw [Heap.size_push]; simp only [List.mem_cons, List.not_mem_nil, or_false]
          exact Nat.ne_of_lt (Nat.lt_succ_self _)
        have hval : ∀ (i : Nat) (v : Value), SignAt x i v → ∃ t, v = .str (sg x i) t := fun i v hv => by
          obtain ⟨c, t, e, rfl⟩ := hv
          refine ⟨t, ?_⟩
          unfold sg
          rw [Array.getD_eq_getD_getElem?, e]
          rfl
        refine set_loop ((W _ hh3).toS) s.heap.objs.size hSf (sg x) hval hb (x.cps.size - 0) 0 _ (by omega) (Nat.zero_le _) st0 ?hS0 ?hR
        case hS0 =>
          have hget : ((s.heap.push { cls := .type "set", dict := none, data := .set #[] 0 (.fresh 0 0 led) }).push oI).get? s.heap.objs.size
              = some { cls := .type "set", dict := none, data := .set #[] 0 (.fresh 0 0 led) } := Heap.get?_push_of_some _ hS
          exact SetOf_congr ((setObjOf_fresh (knd := PySem.strKind prog w) led).setOf hget (by unfold scanBound; omega)) (fun _ => rfl) rfl
        case hR =>
          intro s' hm hS'
          obtain ⟨h', g', d', tk', os'⟩ := s'
          have eg : g' = s.gens := hm.gens
          have ed : d' = s.drawn := hm.drawn
          have eo : os' = s.os := hm.os
          subst eg; subst ed; subst eo
          show wpAny _ _ _ _ _ _
          refine wpAny_pure ?_
          show wpAny _ _ (ret Value.none) _ _ _
          refine wpAny_pure ⟨rfl, h', tk', rfl, hS', fun b o hb e => ?_⟩
          have hb1 : b ≠ s.heap.objs.size := Nat.ne_of_lt hb
          have hb2 : b ≠ (s.heap.push { cls := .type "set", dict := none, data := .set #[] 0 (.fresh 0 0 led) }).objs.size := by
            rw [Heap.size_push]; exact Nat.ne_of_lt (Nat.lt_succ_of_lt hb)
          exact hm.heap b o (by simp only [List.mem_cons, List.not_mem_nil, or_false, not_or]; exact ⟨hb1, hb2⟩) (Heap.get?_push_of_some _ (Heap.get?_push_of_some _ e))
      · cases r₂ with
        | error e => exact hr₂
        | ok fl₂ =>
          cases fl₂ with
          | ret r =>
            obtain ⟨rfl, h', tk, rfl, hS', hk'⟩ := hr₂
            repeat (any_goals (first | assumption | wp_step))
            exact h _ _ hS' hk'
          | _ => exact hr₂.elim
    | _ => exact hr.elim
end
/-- a set, so many in it -/
def SetO (a : Addr) (n : Nat) : HO := .ext fun h => ∃ (o : Obj) (es : Array (Int × Value)) (ep : Nat) (t : SetTable), h.get? a = some o ∧ o.ExactSet ∧ o.data = .set es ep t ∧ t.fits es.size = true ∧ es.size = n ∧ n < scanBound
section
variable {X : Cx}
theorem call_set_text (hc : X.calm = true := by rfl) : CallR X (.type "set") (fun xs H Q => ∃ x, xs = [.str x] ∧ x.length ≤ 1000 ∧ ∀ a, H a = none → Q (.ref a) (upd H a (SetO a (met (sg x) x.cps.size).length))) := by
  intro pins s σ H xs us Q I r h
  obtain ⟨x, rfl, hl, q⟩ := h
  obtain ⟨u, rfl, t, rfl⟩ := vals1 r
  have hl' : x.cps.size ≤ 1000 := hl
  refine set_of_str (I.ok.hd hc) (by unfold scanBound; omega) fun h' tk hS hk => ?_
  refine ⟨.ref s.heap.objs.size, _, I.laid (o := SetO s.heap.objs.size _) (fun b o e => hk b o (Heap.lt_size e) e) (Nat.le_refl _) ?_, rfl, q _ (I.hok.fresh (Nat.le_refl _))⟩
  obtain ⟨o, es, ep, tb, ho, hex, hd, _, _, hb, hf, hn⟩ := hS
  exact ⟨⟨o, es, ep, tb, ho, hex, hd, hf, hn, by omega⟩, ⟨o, ho⟩, fun h1 h2 p k => by obtain ⟨o, es, ep, tb, ho, z⟩ := p; exact ⟨o, es, ep, tb, k o ho, z⟩⟩
theorem call_len_setO : CallR X (.builtin "len") (fun xs H Q => ∃ a n, xs = [.ref a] ∧ H a = some (SetO a n) ∧ Q (.int (n : Nat)) H) := by
  intro pins s σ H xs us Q I r h
  obtain ⟨a, n, rfl, ha, q⟩ := h
  obtain ⟨u, rfl, ru⟩ := vals1 r
  obtain rfl : u = Value.ref a := ru
  obtain ⟨⟨o, es, ep, tb, ho, hex, hd, hf, hn, hb⟩, _, _⟩ := I.hok a _ ha
  subst hn
  refine call_len_set ho hex hd hf ?_ ⟨.int _, H, I.tok _, ⟨_, rfl⟩, q⟩
  unfold scanBound at hb
  omega
end
end L2
namespace L2
open PySem PySem.Spec PyProof.Rows
/-- a test that is never reached -/
def tNoT : TT := fun _ _ _ => False
theorem pt_never {X : Cx} {e : Expr} : PT X e tNoT := fun _ _ _ _ _ _ h => h.elim
theorem vals_of : ∀ {xs : List V} {us : List Value}, xs.length = us.length → (∀ (i : Nat) x u, xs[i]? = some x → us[i]? = some u → RelV x u) → Vals xs us
  | [], [], _, _ => .nil
  | x :: xs, u :: us, hl, h => .cons (h 0 x u rfl rfl) (vals_of (by simpa using hl) fun i y w a b => h (i + 1) y w a b)
  | [], _ :: _, hl, _ => by simp at hl
  | _ :: _, [], hl, _ => by simp at hl
section
variable {X : Cx}
/-- list(text) -/
theorem call_list_text (hc : X.calm = true := by rfl) : CallR X (.type "list") (fun xs H Q => ∃ x, xs = [.str x] ∧ x.length ≤ 1000 ∧ ∀ l, H l = none → Q (.ref l) (upd H l (.lst (x.cps.toList.map fun c => V.str ⟨#[c]⟩)))) := by
  intro pins s σ H xs us Q I r h
  obtain ⟨x, rfl, hl, q⟩ := h
  obtain ⟨u, rfl, t, rfl⟩ := vals1 r
  have hl' : x.cps.size ≤ 1000 := hl
  have hz : x.cps.size ≤ sizeLine := Nat.le_trans hl' (by decide)
  refine call_list_str (I.ok.hd hc) x t (hn := hz) fun h' tk acc c hk hS hacc => ?_
  refine ⟨.ref s.heap.objs.size, _, I.laid (o := .lst _) (fun b o e => hk b o e) (Nat.le_refl _) ?_, rfl, q _ (I.hok.fresh (Nat.le_refl _))⟩
  refine ⟨by rw [List.length_map, Array.length_toList]; exact hz, acc.toList, c, vals_of ?_ fun i y v a b => ?_, by simpa using hS⟩
  · rw [List.length_map, Array.length_toList, Array.length_toList, hacc.1]
  · obtain ⟨cc, tt, e, rfl⟩ := hacc.2 i v (by simpa using b)
    rw [List.getElem?_map, Array.getElem?_toList, e] at a
    have a' : V.str ⟨#[cc]⟩ = y := Option.some.inj a
    subst a'
    exact ⟨tt, rfl⟩
end
end L2
set_option maxHeartbeats 8000000
namespace KW
open PySem L2

def top (i : Nat) : Stmt := PySem.Challenge.pw_countgen_k03_numbers_and_signs.main.body.getD i (.Pass ⟨0, 0, 0, 0⟩)
abbrev s_is_figure : Stmt := top 11
abbrev s_is_small_letter : Stmt := top 12
abbrev s_is_letter_or_figure : Stmt := top 13
abbrev s_is_word_sign : Stmt := top 14
abbrev s_is_label : Stmt := top 15
abbrev s_refuse_crowded : Stmt := top 17
theorem sc_refuse_crowded : FnScope ["text", "depth", "sign"] ["text"] (defScope s_refuse_crowded) := ⟨rfl, rfl, rfl, by decide +kernel, rfl, by decide +kernel, by decide +kernel⟩
abbrev s_read_note : Stmt := top 18
theorem sc_read_note : FnScope ["text", "reader", "note"] ["text"] (defScope s_read_note) := ⟨rfl, rfl, rfl, by decide +kernel, rfl, by decide +kernel, by decide +kernel⟩
abbrev s_is_number_word : Stmt := top 25
theorem sc_is_number_word : FnScope ["word", "figures"] ["word"] (defScope s_is_number_word) := ⟨rfl, rfl, rfl, by decide +kernel, rfl, by decide +kernel, by decide +kernel⟩
abbrev s_lone_word : Stmt := top 26
theorem sc_lone_word : FnScope ["note"] ["note"] (defScope s_lone_word) := ⟨rfl, rfl, rfl, by decide +kernel, rfl, by decide +kernel, by decide +kernel⟩
abbrev s_number_drafted : Stmt := top 27
theorem sc_number_drafted : FnScope ["note", "word"] ["note"] (defScope s_number_drafted) := ⟨rfl, rfl, rfl, by decide +kernel, rfl, by decide +kernel, by decide +kernel⟩
abbrev s_refuse_other_length : Stmt := top 28
theorem sc_refuse_other_length : FnScope ["notes", "least", "most"] ["notes", "least", "most"] (defScope s_refuse_other_length) := ⟨rfl, rfl, rfl, by decide +kernel, rfl, by decide +kernel, by decide +kernel⟩
abbrev s_whole_drafted : Stmt := top 29
theorem sc_whole_drafted : FnScope ["notes"] ["notes"] (defScope s_whole_drafted) := ⟨rfl, rfl, rfl, by decide +kernel, rfl, by decide +kernel, by decide +kernel⟩
abbrev s_text_drafted : Stmt := top 30
theorem sc_text_drafted : FnScope ["notes", "signs"] ["notes"] (defScope s_text_drafted) := ⟨rfl, rfl, rfl, by decide +kernel, rfl, by decide +kernel, by decide +kernel⟩
abbrev s_row_drafted : Stmt := top 31
abbrev s_one_part_drafted : Stmt := top 32
abbrev s_alike_drafted : Stmt := top 33
abbrev s_branch_drafted : Stmt := top 34
abbrev s_pick_drafted : Stmt := top 35
abbrev s_use_drafted : Stmt := top 36
abbrev s_shape_drafted : Stmt := top 37
theorem sc_shape_drafted : FnScope ["note", "kind", "notes"] ["note"] (defScope s_shape_drafted) := ⟨rfl, rfl, rfl, by decide +kernel, rfl, by decide +kernel, by decide +kernel⟩
abbrev s_read_draft : Stmt := top 38
theorem sc_read_draft : FnScope ["text"] ["text"] (defScope s_read_draft) := ⟨rfl, rfl, rfl, by decide +kernel, rfl, by decide +kernel, by decide +kernel⟩
abbrev s_parts_of : Stmt := top 39
theorem sc_parts_of : FnScope ["shape", "kind"] ["shape"] (defScope s_parts_of) := ⟨rfl, rfl, rfl, by decide +kernel, rfl, by decide +kernel, by decide +kernel⟩
abbrev s_shapes_within : Stmt := top 40
theorem sc_shapes_within : FnScope ["shape", "found", "part"] ["shape"] (defScope s_shapes_within) := ⟨rfl, rfl, rfl, by decide +kernel, rfl, by decide +kernel, by decide +kernel⟩
abbrev s_refuse_twice : Stmt := top 41
theorem sc_refuse_twice : FnScope ["draft", "shape"] ["draft"] (defScope s_refuse_twice) := ⟨rfl, rfl, rfl, by decide +kernel, rfl, by decide +kernel, by decide +kernel⟩
abbrev s_refuse_no_range : Stmt := top 42
theorem sc_refuse_no_range : FnScope ["draft", "shape"] ["draft"] (defScope s_refuse_no_range) := ⟨rfl, rfl, rfl, by decide +kernel, rfl, by decide +kernel, by decide +kernel⟩
abbrev s_read_shape : Stmt := top 43
theorem sc_read_shape : FnScope ["text", "draft"] ["text"] (defScope s_read_shape) := ⟨rfl, rfl, rfl, by decide +kernel, rfl, by decide +kernel, by decide +kernel⟩
abbrev s_shown_within : Stmt := top 44
theorem sc_shown_within : FnScope ["shape", "kind", "shown"] ["shape"] (defScope s_shown_within) := ⟨rfl, rfl, rfl, by decide +kernel, rfl, by decide +kernel, by decide +kernel⟩
abbrev s_show_shape : Stmt := top 45
theorem sc_show_shape : FnScope ["shape"] ["shape"] (defScope s_show_shape) := ⟨rfl, rfl, rfl, by decide +kernel, rfl, by decide +kernel, by decide +kernel⟩
abbrev s_law_cell_at : Stmt := top 47
theorem sc_law_cell_at : FnScope ["_law_script", "_law_k"] ["_law_script", "_law_k"] (defScope s_law_cell_at) := ⟨rfl, rfl, rfl, by decide +kernel, rfl, by decide +kernel, by decide +kernel⟩
abbrev s_law_number : Stmt := top 48
theorem sc_law_number : FnScope ["_law_text", "_law_figures"] ["_law_text"] (defScope s_law_number) := ⟨rfl, rfl, rfl, by decide +kernel, rfl, by decide +kernel, by decide +kernel⟩
abbrev s_law_signs : Stmt := top 49
theorem sc_law_signs : FnScope ["_law_cell", "_law_size", "_law_left", "_law_number_here", "_law_signs_here", "_law_k"] ["_law_cell", "_law_size"] (defScope s_law_signs) := ⟨rfl, rfl, rfl, by decide +kernel, rfl, by decide +kernel, by decide +kernel⟩
abbrev s_law_two : Stmt := top 50
theorem sc_law_two : FnScope ["_law_script", "_law_most", "_law_low", "_law_high"] ["_law_script"] (defScope s_law_two) := ⟨rfl, rfl, rfl, by decide +kernel, rfl, by decide +kernel, by decide +kernel⟩
abbrev s_law_spoiled : Stmt := top 51
theorem sc_law_spoiled : FnScope ["_law_text", "_law_cell", "_law_way"] ["_law_text", "_law_cell"] (defScope s_law_spoiled) := ⟨rfl, rfl, rfl, by decide +kernel, rfl, by decide +kernel, by decide +kernel⟩
abbrev s_law_error : Stmt := top 52
theorem sc_law_error : FnScope ["_law_text", "e"] ["_law_text"] (defScope s_law_error) := ⟨rfl, rfl, rfl, by decide +kernel, rfl, by decide +kernel, by decide +kernel⟩
abbrev s_law_taken : Stmt := top 53
theorem sc_law_taken : FnScope ["_law_text", "_law_shape", "_law_found", "_law_back"] ["_law_text", "_law_shape"] (defScope s_law_taken) := ⟨rfl, rfl, rfl, by decide +kernel, rfl, by decide +kernel, by decide +kernel⟩
abbrev s_law_of_numbers : Stmt := top 54
theorem sc_law_of_numbers : FnScope ["_law_script", "_law_low", "_law_high", "_law_texts", "_law_at", "_law_text"] ["_law_script"] (defScope s_law_of_numbers) := ⟨rfl, rfl, rfl, by decide +kernel, rfl, by decide +kernel, by decide +kernel⟩
abbrev s_law : Stmt := top 55
theorem sc_law : FnScope ["_law_script", "_law_signs_here", "_law_at", "_law_way"] ["_law_script"] (defScope s_law) := ⟨rfl, rfl, rfl, by decide +kernel, rfl, by decide +kernel, by decide +kernel⟩
abbrev s_NoteReader___init__ : Stmt := inClass (top 16) 0
abbrev s_NoteReader_sign_here : Stmt := inClass (top 16) 1
abbrev s_NoteReader_takes : Stmt := inClass (top 16) 2
abbrev s_NoteReader_word_signs : Stmt := inClass (top 16) 3
abbrev s_NoteReader_labelled_note : Stmt := inClass (top 16) 4
theorem sc_NoteReader_labelled_note : FnScope ["self", "label", "word"] ["self"] (defScope s_NoteReader_labelled_note) := ⟨rfl, rfl, rfl, by decide +kernel, rfl, by decide +kernel, by decide +kernel⟩
abbrev s_NoteReader_bracketed_notes : Stmt := inClass (top 16) 5
theorem sc_NoteReader_bracketed_notes : FnScope ["self", "notes"] ["self"] (defScope s_NoteReader_bracketed_notes) := ⟨rfl, rfl, rfl, by decide +kernel, rfl, by decide +kernel, by decide +kernel⟩
abbrev s_NoteReader_at_end : Stmt := inClass (top 16) 6
variable {g : Gx}
local macro_rules | `(tactic| walk_at "gn") => `(tactic| simp only [gName, List.set_cons_zero, List.set_cons_succ])
local macro_rules | `(tactic| walk_at "rd") => `(tactic| simp (config := { failIfUnchanged := false, maxSteps := 10000000 }) only [L2.start, cxOf_K, nox_K, List.map_cons, List.map_nil, List.length_cons, List.length_nil, List.cons_append, List.nil_append, List.replicate_succ, List.replicate_zero, Nat.zero_add, Nat.reduceAdd, Nat.reduceSub, Nat.sub_self, tSeq, tIfS, tTest, tOp, tC, tVar, rI0, rI, rU, tUn, tRet, tRetN, tDrop, tNext, tBreak, tCont, tAsg, gName, gNil, gCons, tCons, tNil, tCB, tCall, tTry, tTryAs, tRaise, sFld, tFld, tMake, tMeth, Ends.gone, caught_K, tB, tAnd, tOr, tNot, tAndV, tOrV, tNotV, tIf, tChain, tNoPart, tPart, tSl, tNever, tAug, rIxL, rIxT, rSlL, tLst, tTup, gTup, tRev, tLZ, tConT, tDict0, rBits, rFind, rIn, tBM, tBM0, rAppend, rReverse, rEq, rNe, scal_ii, scal_ss, rCat, rSetL, gSub, ipI, capSt, List.getD_cons_zero, List.getD_cons_succ, decide_true, not_true_eq_false, not_false_eq_true,
  exists_eq_left', exists_eq_left, exists_eq', exists_eq, exists_and_left, and_assoc, Option.some.injEq, V.int.injEq, V.bl.injEq, V.ref.injEq, V.str.injEq, List.getElem?_cons_zero, List.getElem?_cons_succ, List.set_cons_zero, List.set_cons_succ, List.cons.injEq, and_true, true_and, List.append_nil, decide_eq_true_eq, Bool.not_eq_true', decide_eq_false_iff_not, Bool.not_not, Bool.not_true, Bool.not_false, Bool.true_eq_false, Bool.false_eq_true, if_true, if_false, ite_true, ite_false])
theorem cm {i j : Int} {m n : Nat} (h1 : i.natAbs < 2 ^ m) (h2 : j.natAbs < 2 ^ n) (h : m + n ≤ 100000000 := by decide) : CMulB i j := ⟨m, n, h1, h2, h⟩
theorem cpow {i j : Int} (h : 0 ≤ j ∧ j ≤ 1000000 ∧ i.natAbs < 2 ^ 64 := by decide) : CPow i j := h
theorem few {n : Nat} (h : n ≤ 100000) : n ≤ sizeLine := Nat.le_trans h (by decide)
theorem mod_nat (x : Int) {j : Int} (h : 0 < j) : ∃ r : Nat, x % j = r ∧ (r : Int) < j := ⟨(x % j).toNat, by have := Int.emod_nonneg x (Int.ne_of_gt h); omega, by have := Int.emod_lt_of_pos x h; have := Int.emod_nonneg x (Int.ne_of_gt h); omega⟩
/-! what the law reads of its script -/
def sp_law_whole : Sp := fun vs H Q _ => ∃ i : Int, vs = [.int i] ∧ Q (.bl true) H
def sp_law_cell_at (K : PySem.W.Frag) : Sp := fun vs H Q _ => ∃ (a : Addr) (ns : List Int) (k : Nat), vs = [.ref a, .int k] ∧ SqL K H a (ns.map V.int) ∧ ns.length ≤ 63 ∧ Q (.int (ns.getD k 0)) H
theorem getD_at {ns : List Int} {k : Nat} (h : k < ns.length) : atI (ns.map V.int) (k : Int) = some (.int (ns.getD k 0)) := atI_nat (by rw [List.getElem?_map, List.getElem?_eq_getElem h]; simp [h])
theorem ok_law_cell_at {C_CountError : Addr} {C_NoNote : Addr} {C_Crowded : Addr} {C_Twice : Addr} {C_NoRange : Addr} {C_NoteReader : Addr} (R : g.Raw "_law_cell_at" "_law_cell_at" s_law_cell_at ["_law_script", "_law_k"]) (b_len : g.mg "len" = none) : g.Fn (1) "_law_cell_at" ["_law_script", "_law_k"] (sp_law_cell_at g.K) := by
  refine R.fn sc_law_cell_at (fun vs H Q E h => by obtain ⟨a, ns, k, rfl, hS, hl, q⟩ := h; rfl) fun f_ cdv A outer s H vs Q E hr h => ?_
  obtain ⟨a, ns, k, rfl, hS, hl, q⟩ := h
  refine ⟨_, (@pss_cons _ _ _ _ _ (@ps_if _ _ _ _ _ _ _ _ (@pt_cmpR _ _ _ _ _ _ _ _ op_lt (@pv _ 1 _ _ (by rfl) (by first | exact Or.inl rfl | exact Or.inr (Or.inl rfl) | exact Or.inr (Or.inr rfl)) (by decide) (by decide)) (@pe_bf _ _ _ _ _ _ _ _ _ _ b_len call_len_seq (@pa_cons _ _ _ _ _ (@pv _ 0 _ _ (by rfl) (by first | exact Or.inl rfl | exact Or.inr (Or.inl rfl) | exact Or.inr (Or.inr rfl)) (by decide) (by decide)) pa_nil (by rfl)) (by decide +kernel) (by rfl) (by rfl) (by decide) (by decide) (by rfl) (by rfl)) (nomark _)) (@pss_one _ _ _ (@ps_ret _ _ _ _ (@pe_ix _ _ _ _ _ _ _ ix_list (@pv _ 0 _ _ (by rfl) (by first | exact Or.inl rfl | exact Or.inr (Or.inl rfl) | exact Or.inr (Or.inr rfl)) (by decide) (by decide)) (@pv _ 1 _ _ (by rfl) (by first | exact Or.inl rfl | exact Or.inr (Or.inl rfl) | exact Or.inr (Or.inr rfl)) (by decide) (by decide)) (fun _ _ => rfl)))) pss_nil) (@pss_one _ _ _ (@ps_ret _ _ _ _ pe_int))), ?_⟩
  walk_at "rd"
  refine ⟨_, .inl hS, ?_⟩
  refine ite2 (fun c => ?_) (fun c => ?_)
  · have c' := c
    rw [List.length_map] at c'
    exact ⟨_, hS, _, getD_at (by omega), q⟩
  · have c' := c
    rw [List.length_map] at c'
    rw [show ns.getD k 0 = 0 by simp [show ns.length ≤ k by omega]] at q
    exact q
end KW
set_option maxHeartbeats 8000000
namespace KW
open PySem L2

variable {g : Gx}
variable {C : Addr}
local macro_rules | `(tactic| walk_at "gn") => `(tactic| simp only [gName, List.set_cons_zero, List.set_cons_succ])

local macro_rules | `(tactic| walk_at "rd") => `(tactic| simp (config := { failIfUnchanged := false, maxSteps := 10000000 }) only [L2.start, cxOf_K, nox_K, List.map_cons, List.map_nil, List.length_cons, List.length_nil, List.cons_append, List.nil_append, List.replicate_succ, List.replicate_zero, Nat.zero_add, Nat.reduceAdd, Nat.reduceSub, Nat.sub_self, tSeq, tIfS, tTest, tOp, tC, tVar, rI0, rI, rU, tUn, tRet, tRetN, tDrop, tNext, tBreak, tCont, tAsg, gName, gNil, gCons, tCons, tNil, tCB, tCall, tTry, tTryAs, tRaise, sFld, tFld, tMake, tMeth, Ends.gone, caught_K, tB, tAnd, tOr, tNot, tAndV, tOrV, tNotV, tIf, tChain, tNoPart, tPart, tSl, tNever, tAug, rIxL, rIxT, rSlL, tLst, tTup, gTup, tRev, tLZ, tConT, tDict0, rBits, rFind, rIn, tBM, tBM0, rAppend, rReverse, rEq, rNe, scal_ii, scal_ss, rCat, rSetL, gSub, ipI, capSt, List.getD_cons_zero, List.getD_cons_succ, decide_true, not_true_eq_false, not_false_eq_true,
  exists_eq_left', exists_eq_left, exists_eq', exists_eq, exists_and_left, and_assoc, Option.some.injEq, V.int.injEq, V.bl.injEq, V.ref.injEq, V.str.injEq, List.getElem?_cons_zero, List.getElem?_cons_succ, List.set_cons_zero, List.set_cons_succ, List.cons.injEq, and_true, true_and, List.append_nil, decide_eq_true_eq, Bool.not_eq_true', decide_eq_false_iff_not, Bool.not_not, Bool.not_true, Bool.not_false, Bool.true_eq_false, Bool.false_eq_true, if_true, if_false, ite_true, ite_false])

namespace Rd
/-! notes, as trees of code lists -/
mutual
inductive Note where
  | leaf (l w : List Nat)
  | node (l w : List Nat) (ks : Notes)
inductive Notes where
  | nil
  | cons (n : Note) (r : Notes)
end
def Note.lab : Note → List Nat
  | .leaf l _ => l
  | .node l _ _ => l
def Note.word : Note → List Nat
  | .leaf _ w => w
  | .node _ w _ => w
def Notes.snoc : Notes → Note → Notes
  | .nil, n => .cons n .nil
  | .cons m r, n => .cons m (r.snoc n)
def Notes.len : Notes → Nat
  | .nil => 0
  | .cons _ r => r.len + 1
/-- label and word -/
def head (l w : List Nat) : List Nat := if l = [] then w else l ++ 58 :: w
mutual
def txt : Note → List Nat
  | .leaf l w => head l w
  | .node l w ks => head l w ++ 40 :: (txts ks ++ [41])
/-- parted by commas -/
def txts : Notes → List Nat
  | .nil => []
  | .cons n .nil => txt n
  | .cons n (.cons m r) => txt n ++ 44 :: txts (.cons m r)
end
def isFig (c : Nat) : Bool := decide (48 ≤ c) && decide (c ≤ 57)
def isSmall (c : Nat) : Bool := decide (97 ≤ c) && decide (c ≤ 122)
def isBig (c : Nat) : Bool := decide (65 ≤ c) && decide (c ≤ 90)
def isLF (c : Nat) : Bool := isSmall c || isBig c || isFig c
def isWS (c : Nat) : Bool := isLF c || c == 45
/-- good words and labels -/
def okL (l : List Nat) : Prop := l.length ≤ 8 ∧ ∀ c ∈ l, isSmall c = true
def okW (w : List Nat) : Prop := 1 ≤ w.length ∧ w.length ≤ 62 ∧ ∀ c ∈ w, isWS c = true
mutual
/-- good, and at most d brackets deep -/
def Ok : Nat → Note → Prop
  | _, .leaf l w => okL l ∧ okW w
  | 0, .node _ _ _ => False
  | d + 1, .node l w ks => okL l ∧ okW w ∧ Oks d ks
def Oks : Nat → Notes → Prop
  | _, .nil => True
  | d, .cons n r => Ok d n ∧ Oks d r
end
/-! the brackets -/
def stepD (d : Int) (c : Nat) : Int := if c = 40 then d + 1 else if c = 41 then d - 1 else d
def endD (d : Int) (t : List Nat) : Int := t.foldl stepD d
def okD (d : Int) : List Nat → Prop
  | [] => True
  | c :: r => stepD d c ≤ 6 ∧ okD (stepD d c) r
theorem endD_append (d : Int) (a b : List Nat) : endD d (a ++ b) = endD (endD d a) b := by simp [endD]
theorem okD_append : ∀ (a b : List Nat) (d : Int), okD d a → okD (endD d a) b → okD d (a ++ b)
  | [], b, d, _, h => h
  | c :: a, b, d, h, h' => ⟨h.1, okD_append a b _ h.2 h'⟩
theorem ws_plain {c : Nat} (h : isWS c = true) : c ≠ 40 ∧ c ≠ 41 ∧ c ≠ 44 ∧ c ≠ 58 := by
  simp [isWS, isLF, isSmall, isBig, isFig] at h
  omega
theorem plain_d : ∀ (t : List Nat) (d : Int), (∀ c ∈ t, c ≠ 40 ∧ c ≠ 41) → d ≤ 6 → endD d t = d ∧ okD d t
  | [], d, _, _ => ⟨rfl, trivial⟩
  | c :: t, d, h, hd => by
    obtain ⟨h1, h2⟩ := h c (by simp)
    have e : stepD d c = d := by simp [stepD, h1, h2]
    obtain ⟨a, b⟩ := plain_d t d (fun x hx => h x (by simp [hx])) hd
    refine ⟨?_, ?_⟩
    · show endD (stepD d c) t = d
      rw [e]; exact a
    · show stepD d c ≤ 6 ∧ okD (stepD d c) t
      rw [e]; exact ⟨hd, b⟩
end Rd
end KW
set_option maxHeartbeats 8000000
namespace KW
open PySem L2

variable {g : Gx}
variable {C : Addr}
local macro_rules | `(tactic| walk_at "gn") => `(tactic| simp only [gName, List.set_cons_zero, List.set_cons_succ])

local macro_rules | `(tactic| walk_at "rd") => `(tactic| simp (config := { failIfUnchanged := false, maxSteps := 10000000 }) only [L2.start, cxOf_K, nox_K, List.map_cons, List.map_nil, List.length_cons, List.length_nil, List.cons_append, List.nil_append, List.replicate_succ, List.replicate_zero, Nat.zero_add, Nat.reduceAdd, Nat.reduceSub, Nat.sub_self, tSeq, tIfS, tTest, tOp, tC, tVar, rI0, rI, rU, tUn, tRet, tRetN, tDrop, tNext, tBreak, tCont, tAsg, gName, gNil, gCons, tCons, tNil, tCB, tCall, tTry, tTryAs, tRaise, sFld, tFld, tMake, tMeth, Ends.gone, caught_K, tB, tAnd, tOr, tNot, tAndV, tOrV, tNotV, tIf, tChain, tNoPart, tPart, tSl, tNever, tAug, rIxL, rIxT, rSlL, tLst, tTup, gTup, tRev, tLZ, tConT, tDict0, rBits, rFind, rIn, tBM, tBM0, rAppend, rReverse, rEq, rNe, scal_ii, scal_ss, rCat, rSetL, gSub, ipI, capSt, List.getD_cons_zero, List.getD_cons_succ, decide_true, not_true_eq_false, not_false_eq_true,
  exists_eq_left', exists_eq_left, exists_eq', exists_eq, exists_and_left, and_assoc, Option.some.injEq, V.int.injEq, V.bl.injEq, V.ref.injEq, V.str.injEq, List.getElem?_cons_zero, List.getElem?_cons_succ, List.set_cons_zero, List.set_cons_succ, List.cons.injEq, and_true, true_and, List.append_nil, decide_eq_true_eq, Bool.not_eq_true', decide_eq_false_iff_not, Bool.not_not, Bool.not_true, Bool.not_false, Bool.true_eq_false, Bool.false_eq_true, if_true, if_false, ite_true, ite_false])

namespace Rd
abbrev sFig : Stmt := s_is_figure
abbrev sSmall : Stmt := s_is_small_letter
abbrev sLF : Stmt := s_is_letter_or_figure
abbrev sWS : Stmt := s_is_word_sign
abbrev sLabel : Stmt := s_is_label
abbrev sInit : Stmt := s_NoteReader___init__
abbrev sHere : Stmt := s_NoteReader_sign_here
abbrev sTakes : Stmt := s_NoteReader_takes
abbrev sWord : Stmt := s_NoteReader_word_signs
abbrev sLN : Stmt := s_NoteReader_labelled_note
abbrev sBN : Stmt := s_NoteReader_bracketed_notes
abbrev sEnd : Stmt := s_NoteReader_at_end
abbrev sCrowd : Stmt := s_refuse_crowded
abbrev sRead : Stmt := s_read_note
/-! signs: texts of at most one sign -/
def spSign (f : Nat → Bool) : Sp := fun vs H Q _ => ∃ l : List Nat, vs = [.str (S l)] ∧ l.length ≤ 1 ∧ Q (.bl (l.any f)) H
theorem sign_cases {l : List Nat} (h : l.length ≤ 1) : l = [] ∨ ∃ c, l = [c] := by
  match l, h with
  | [], _ => exact .inl rfl
  | [c], _ => exact .inr ⟨c, rfl⟩
theorem lt_one (a b : Nat) : decide (([a] : List Nat) < [b]) = decide (a < b) := by
  by_cases h : a < b
  · rw [decide_eq_true h, decide_eq_true]
    exact List.Lex.rel h
  · rw [decide_eq_false h, decide_eq_false]
    intro z
    cases z with
    | rel z => exact h z
    | cons z => cases z
theorem lt_nil (b : Nat) : decide (([] : List Nat) < [b]) = true := decide_eq_true List.Lex.nil
theorem scFig : FnScope ["sign"] ["sign"] (defScope sFig) := ⟨rfl, rfl, rfl, by decide +kernel, rfl, by decide +kernel, by decide +kernel⟩
theorem range_sign (a b : Nat) (sa sb : Str) (ea : sa = S [a]) (eb : sb = S [b]) (l : List Nat) (hl : l.length ≤ 1) :
    (if (!decide ((S l).cps.toList < sa.cps.toList)) = true then !decide (sb.cps.toList < (S l).cps.toList) else false) = l.any fun c => decide (a ≤ c) && decide (c ≤ b) := by
  subst ea eb
  rw [S_list, S_list, S_list]
  rcases sign_cases hl with rfl | ⟨c, rfl⟩
  · rw [lt_nil]; rfl
  · rw [lt_one, lt_one]
    simp only [List.any_cons, List.any_nil, Bool.or_false]
    by_cases h1 : a ≤ c <;> by_cases h2 : c ≤ b <;> simp [h1, h2, Nat.not_lt] <;> omega
theorem ok_fig (R : g.Raw "is_figure" "is_figure" sFig ["sign"]) : g.Fn 1 "is_figure" ["sign"] (spSign isFig) := by
  refine R.fn scFig (fun vs H Q E h => by obtain ⟨l, rfl, _⟩ := h; rfl) fun f cdv A outer s H vs Q E hr h => ?_
  obtain ⟨l, rfl, hl, q⟩ := h
  refine ⟨_, pss_one (ps_ret (pe_chain op_le_str op_le_str pe_str (pv 0) pe_str)), ?_⟩
  have e := range_sign 48 57 _ _ (show ("0" : Str) = S [48] by decide +kernel) (show ("9" : Str) = S [57] by decide +kernel) l hl
  refine ⟨_, rfl, _, _, rfl, rfl, _, rfl, ?_⟩
  refine ite2 (fun c => ?_) (fun c => ?_)
  · rw [if_pos c] at e
    exact ⟨_, _, rfl, rfl, by rw [e]; exact q⟩
  · rw [if_neg c] at e
    show Q (.bl false) H
    rw [e]; exact q
theorem scSmall : FnScope ["sign"] ["sign"] (defScope sSmall) := ⟨rfl, rfl, rfl, by decide +kernel, rfl, by decide +kernel, by decide +kernel⟩
theorem ok_small (R : g.Raw "is_small_letter" "is_small_letter" sSmall ["sign"]) : g.Fn 1 "is_small_letter" ["sign"] (spSign isSmall) := by
  refine R.fn scSmall (fun vs H Q E h => by obtain ⟨l, rfl, _⟩ := h; rfl) fun f cdv A outer s H vs Q E hr h => ?_
  obtain ⟨l, rfl, hl, q⟩ := h
  refine ⟨_, pss_one (ps_ret (pe_chain op_le_str op_le_str pe_str (pv 0) pe_str)), ?_⟩
  have e := range_sign 97 122 _ _ (show ("a" : Str) = S [97] by decide +kernel) (show ("z" : Str) = S [122] by decide +kernel) l hl
  refine ⟨_, rfl, _, _, rfl, rfl, _, rfl, ?_⟩
  refine ite2 (fun c => ?_) (fun c => ?_)
  · rw [if_pos c] at e
    exact ⟨_, _, rfl, rfl, by rw [e]; exact q⟩
  · rw [if_neg c] at e
    show Q (.bl false) H
    rw [e]; exact q
theorem any_or (l : List Nat) (p r : Nat → Bool) : (l.any fun c => p c || r c) = (l.any p || l.any r) := by
  induction l with
  | nil => rfl
  | cons a l ih => simp only [List.any_cons, ih]; cases p a <;> cases r a <;> simp
theorem scLF : FnScope ["sign"] ["sign"] (defScope sLF) := ⟨rfl, rfl, rfl, by decide +kernel, rfl, by decide +kernel, by decide +kernel⟩
theorem ok_lf (R : g.Raw "is_letter_or_figure" "is_letter_or_figure" sLF ["sign"]) (F1 : g.Fn 1 "is_small_letter" ["sign"] (spSign isSmall)) (F2 : g.Fn 1 "is_figure" ["sign"] (spSign isFig)) :
    g.Fn 2 "is_letter_or_figure" ["sign"] (spSign isLF) := by
  refine R.fn scLF (fun vs H Q E h => by obtain ⟨l, rfl, _⟩ := h; rfl) fun f cdv A outer s H vs Q E hr h => ?_
  obtain ⟨l, rfl, hl, q⟩ := h
  refine ⟨_, pss_one (ps_ret (pe_or (pe_fn F1 hr (pa_cons (pv 0) pa_nil)) (pe_or (pe_chain op_le_str op_le_str pe_str (pv 0) pe_str) (pe_one (pe_fn F2 hr (pa_cons (pv 0) pa_nil)))))), ?_⟩
  have e := range_sign 65 90 _ _ (show ("A" : Str) = S [65] by decide +kernel) (show ("Z" : Str) = S [90] by decide +kernel) l hl
  have ea : l.any isLF = (l.any isSmall || (l.any isBig || l.any isFig)) := by
    have : isLF = fun c => isSmall c || (isBig c || isFig c) := by funext c; simp [isLF, Bool.or_assoc]
    rw [this, any_or, any_or]
  refine ⟨_, rfl, l, rfl, hl, _, rfl, ?_⟩
  refine ite2 (fun c => ?_) (fun c => ?_)
  · rw [ea, c] at q; exact q
  · refine ⟨_, rfl, _, _, rfl, rfl, _, rfl, ?_⟩
    have c0 : l.any isSmall = false := Bool.eq_false_iff.mpr c
    refine ite2 (fun c1 => ?_) (fun c1 => ?_)
    · rw [if_pos c1] at e
      refine ⟨_, _, rfl, rfl, _, rfl, ?_⟩
      refine ite2 (fun c2 => ?_) (fun c2 => ?_)
      · have eb : l.any isBig = true := e.symm.trans c2
        rw [ea, eb] at q; simpa using q
      · have eb : l.any isBig = false := e.symm.trans (Bool.eq_false_iff.mpr c2)
        refine ⟨_, rfl, l, rfl, hl, ?_⟩
        rw [ea, eb, c0] at q; simpa using q
    · rw [if_neg c1] at e
      have eb : l.any isBig = false := e.symm
      refine ⟨_, rfl, iteF ?_⟩
      refine ⟨_, rfl, l, rfl, hl, ?_⟩
      rw [ea, eb, c0] at q; simpa using q
theorem scWS : FnScope ["sign"] ["sign"] (defScope sWS) := ⟨rfl, rfl, rfl, by decide +kernel, rfl, by decide +kernel, by decide +kernel⟩
theorem ok_ws (R : g.Raw "is_word_sign" "is_word_sign" sWS ["sign"]) (F1 : g.Fn 2 "is_letter_or_figure" ["sign"] (spSign isLF)) : g.Fn 3 "is_word_sign" ["sign"] (spSign isWS) := by
  refine R.fn scWS (fun vs H Q E h => by obtain ⟨l, rfl, _⟩ := h; rfl) fun f cdv A outer s H vs Q E hr h => ?_
  obtain ⟨l, rfl, hl, q⟩ := h
  refine ⟨_, pss_one (ps_ret (pe_or (pe_fn F1 hr (pa_cons (pv 0) pa_nil)) (pe_one (pe_cmpR op_eq (pv 0) pe_str (nomark _))))), ?_⟩
  have ea : l.any isWS = (l.any isLF || l.any (· == 45)) := by
    have : isWS = fun c => isLF c || (c == 45) := by funext c; rfl
    rw [this, any_or]
  refine ⟨_, rfl, l, rfl, hl, _, rfl, ?_⟩
  refine ite2 (fun c => ?_) (fun c => ?_)
  · rw [ea, c] at q; exact q
  · have c0 : l.any isLF = false := Bool.eq_false_iff.mpr c
    refine ⟨_, rfl, rfl, ?_⟩
    have ed : (("-" : Str)) = S [45] := by decide +kernel
    have e2 : decide (V.str (S l) = V.str "-") = l.any (· == 45) := by
      rw [ed]
      rcases sign_cases hl with rfl | ⟨b, rfl⟩
      · rw [decide_eq_false (by intro z; injection z with z; have := S_inj z; cases this)]; rfl
      · by_cases hc : b = 45
        · subst hc; simp
        · rw [decide_eq_false (by intro z; injection z with z; have := S_inj z; injection this with this; exact hc this)]
          simp [hc]
    rw [ea, c0] at q
    show Q (.bl (decide (V.str (S l) = V.str "-"))) H
    rw [e2]; simpa using q
/-! labels -/
def spLabel : Sp := fun vs H Q _ => ∃ l : List Nat, vs = [.str (S l)] ∧ l.length ≤ 100000 ∧ ∀ H', Same H H' → Q (.bl (decide (1 ≤ l.length) && decide (l.length ≤ 8) && l.all isSmall)) H'
theorem line5 {n : Nat} (h : n ≤ 1000000) : n ≤ sizeLine := Nat.le_trans h (by decide)
theorem scLabel : FnScope ["text"] ["text"] (defScope sLabel) := ⟨rfl, rfl, rfl, by decide +kernel, rfl, by decide +kernel, by decide +kernel⟩
theorem ok_label (R : g.Raw "is_label" "is_label" sLabel ["text"]) (F1 : g.Fn 1 "is_small_letter" ["sign"] (spSign isSmall)) (c1 : g.Con "LONGEST_LABEL" (.int 8)) (bl : g.mg "len" = none) (ba : g.mg "all" = none) :
    g.Fn 2 "is_label" ["text"] spLabel := by
  refine R.fn scLabel (fun vs H Q E h => by obtain ⟨l, rfl, _⟩ := h; rfl) fun f cdv A outer s H vs Q E hr h => ?_
  obtain ⟨l, rfl, hl, q⟩ := h
  refine ⟨_, pss_one (ps_ret (pe_and (pe_chain op_le op_le pe_int (pe_bf bl call_len_str (pa_cons (pv 0) pa_nil)) (pe_gc c1))
    (pe_one (pe_bf ba (call_all_bools rfl) (pa_cons (pe_lc (src := [none]) (N' := ["sign"]) (.own .nil) rfl (pi_str (pv 0))
      (fun cl C s₀ H₀ fp pn => pg_name (i := 0) (show List.Nodup (["sign"] : List Str) by decide +kernel) rfl (Or.inl rfl)) (fun cl C s₀ H₀ fp pn => pts_nil) (fun cl C s₀ H₀ fp pn => pe_fn F1 hr (pa_cons (pv 0) pa_nil)) (by intro x hx; simp at hx)) pa_nil))))), ?_⟩
  have hlen : (S l).length = l.length := S_len l
  refine ⟨_, rfl, _, rfl, by rw [hlen]; exact line5 (by omega), _, _, rfl, rfl, _, rfl, ?_⟩
  rw [hlen]
  refine ite2 (fun c => ?_) (fun c => ?_)
  · have c' : (1 : Int) ≤ l.length := of_decide_eq_true c
    refine ⟨_, _, rfl, rfl, _, rfl, ?_⟩
    refine ite2 (fun d => ?_) (fun d => ?_)
    · have d' : (l.length : Int) ≤ 8 := of_decide_eq_true d
      refine ⟨_, rfl, S l, rfl, fun D hD => ?_⟩
      refine lc_on (src := [none]) (itseq_str (S l) (fun _ => True)) (fun i ys σ' H' => ys = (l.take i).map (fun c => V.bl (isSmall c)) ∧ σ'.length = 1 ∧ Same H H' ∧ H' D = some (.lst ys)) ⟨by simp, rfl, .upd_new hD _, upd_same⟩ (fun i ys σ' H' p => ⟨trivial, p.2.2.2⟩) (gName_mono 0) ?_ ?_
      · rintro i ys σ' H' x hx ⟨rfl, hσ, sm, hd⟩
        rw [S_list, List.getElem?_map] at hx
        cases e : l[i]? with
        | none => rw [e] at hx; simp at hx
        | some c =>
          rw [e] at hx
          have hx' : V.str ⟨#[c]⟩ = x := by simpa using hx
          subst hx'
          match σ', hσ with
          | [o], _ =>
            refine ⟨_, rfl, [c], rfl, by simp, hd, ?_, ?_⟩
            · simp
              have := (List.getElem?_eq_some_iff.mp e).1
              have h6 : 1000 < sizeLine := by decide
              omega
            · refine ⟨?_, rfl, .upd_over hD sm _, upd_same⟩
              obtain ⟨hi, hc⟩ := List.getElem?_eq_some_iff.mp e
              rw [List.take_succ_eq_append_getElem hi, hc]
              simp
      · rintro ys σ' H' ⟨rfl, hσ, sm, hd⟩
        refine ⟨D, l.map isSmall, rfl, SqL.of ?_, ?_⟩
        · rw [hd, S_list]
          simp [List.map_map]
        · have e : ((l.map isSmall).all id) = l.all isSmall := by simp [List.all_map]
          rw [e]
          have := q H' sm
          rw [decide_eq_true (show 1 ≤ l.length by omega), decide_eq_true (show l.length ≤ 8 by omega)] at this
          simpa using this
    · have d' : ¬ (l.length : Int) ≤ 8 := of_decide_eq_false (Bool.eq_false_iff.mpr d)
      have := q H (.refl H)
      rw [decide_eq_false (show ¬ l.length ≤ 8 by omega)] at this
      simpa using this
  · have c' : ¬ (1 : Int) ≤ l.length := of_decide_eq_false (Bool.eq_false_iff.mpr c)
    refine ⟨_, rfl, iteF ?_⟩
    have := q H (.refl H)
    rw [decide_eq_false (show ¬ 1 ≤ l.length by omega)] at this
    simpa using this
end Rd
end KW
set_option maxHeartbeats 8000000
namespace KW
open PySem L2

variable {g : Gx}
variable {C : Addr}
local macro_rules | `(tactic| walk_at "gn") => `(tactic| simp only [gName, List.set_cons_zero, List.set_cons_succ])

local macro_rules | `(tactic| walk_at "rd") => `(tactic| simp (config := { failIfUnchanged := false, maxSteps := 10000000 }) only [L2.start, cxOf_K, nox_K, List.map_cons, List.map_nil, List.length_cons, List.length_nil, List.cons_append, List.nil_append, List.replicate_succ, List.replicate_zero, Nat.zero_add, Nat.reduceAdd, Nat.reduceSub, Nat.sub_self, tSeq, tIfS, tTest, tOp, tC, tVar, rI0, rI, rU, tUn, tRet, tRetN, tDrop, tNext, tBreak, tCont, tAsg, gName, gNil, gCons, tCons, tNil, tCB, tCall, tTry, tTryAs, tRaise, sFld, tFld, tMake, tMeth, Ends.gone, caught_K, tB, tAnd, tOr, tNot, tAndV, tOrV, tNotV, tIf, tChain, tNoPart, tPart, tSl, tNever, tAug, rIxL, rIxT, rSlL, tLst, tTup, gTup, tRev, tLZ, tConT, tDict0, rBits, rFind, rIn, tBM, tBM0, rAppend, rReverse, rEq, rNe, scal_ii, scal_ss, rCat, rSetL, gSub, ipI, capSt, List.getD_cons_zero, List.getD_cons_succ, decide_true, not_true_eq_false, not_false_eq_true,
  exists_eq_left', exists_eq_left, exists_eq', exists_eq, exists_and_left, and_assoc, Option.some.injEq, V.int.injEq, V.bl.injEq, V.ref.injEq, V.str.injEq, List.getElem?_cons_zero, List.getElem?_cons_succ, List.set_cons_zero, List.set_cons_succ, List.cons.injEq, and_true, true_and, List.append_nil, decide_eq_true_eq, Bool.not_eq_true', decide_eq_false_iff_not, Bool.not_not, Bool.not_true, Bool.not_false, Bool.true_eq_false, Bool.false_eq_true, if_true, if_false, ite_true, ite_false])

namespace Rd
/-! the reader: its text and its place -/
def fl (t : List Nat) (i : Nat) : List (Str × V) := [("text", .str (S t)), ("place", .int i)]
theorem ntp : ¬ (("text" : Str) = "place") := by decide +kernel
theorem fl_text (t : List Nat) (i : Nat) : (fl t i).lookup ("text" : Str) = some (.str (S t)) := rfl
theorem fl_place (t : List Nat) (i : Nat) : (fl t i).lookup ("place" : Str) = some (.int i) := by
  show List.lookup ("place" : Str) [(("text" : Str), V.str (S t)), (("place" : Str), V.int i)] = _
  have h : (("place" : Str) == ("text" : Str)) = false := by decide +kernel
  rw [List.lookup_cons, h, List.lookup_cons]
  simp
theorem fl_no (t : List Nat) (i : Nat) {m : Str} (h1 : (m == ("text" : Str)) = false) (h2 : (m == ("place" : Str)) = false) : (fl t i).lookup m = none := by
  show List.lookup m [(("text" : Str), V.str (S t)), (("place" : Str), V.int i)] = _
  rw [List.lookup_cons, h1, List.lookup_cons, h2]
  rfl
theorem fl_put (t : List Nat) (i j : Nat) : putF "place" (.int j) (fl t i) = fl t j := by
  show (if ("text" : Str) = "place" then _ else (("text" : Str), V.str (S t)) :: (if ("place" : Str) = "place" then [(("place" : Str), V.int j)] else _)) = _
  rw [if_neg ntp, if_pos rfl]
  rfl
theorem fl_new (t : List Nat) : putF "place" (.int 0) (putF "text" (.str (S t)) []) = fl t 0 := by
  show (if ("text" : Str) = "place" then _ else (("text" : Str), V.str (S t)) :: putF "place" (V.int 0) []) = _
  rw [if_neg ntp]
  rfl
/-- the class's facts -/
structure Txt (g : Gx) (C : Addr) : Prop where
  cl : Cls g.K C
  nT : NoAttr g.K C "text"
  nP : NoAttr g.K C "place"
def At (C : Addr) (H : Hp) (p dx : Addr) (t : List Nat) (i : Nat) : Prop := H p = some (.ins C dx (fl t i))
abbrev mv (C : Addr) (H : Hp) (p dx : Addr) (t : List Nat) (i : Nat) : Hp := upd H p (.ins C dx (fl t i))
def spInit (C : Addr) : Sp := fun vs H Q _ => ∃ (p dx : Addr) (t : List Nat), vs = [.ref p, .str (S t)] ∧ H p = some (.ins C dx []) ∧ Q .non (mv C H p dx t 0)
def spHere (C : Addr) : Sp := fun vs H Q _ => ∃ (p dx : Addr) (t : List Nat) (i : Nat), vs = [.ref p] ∧ At C H p dx t i ∧ t.length ≤ 2000 ∧ Q (.str (S ((t.drop i).take 1))) H
def spTakes (C : Addr) : Sp := fun vs H Q _ => ∃ (p dx : Addr) (t : List Nat) (i c : Nat), vs = [.ref p, .str (S [c])] ∧ At C H p dx t i ∧ t.length ≤ 2000 ∧ ((t.drop i).head? = some c → Q (.bl true) (mv C H p dx t (i + 1))) ∧ ((t.drop i).head? ≠ some c → Q (.bl false) H)
def spWord (C : Addr) : Sp := fun vs H Q _ => ∃ (p dx : Addr) (t : List Nat) (i : Nat) (w r : List Nat), vs = [.ref p] ∧ At C H p dx t i ∧ t.length ≤ 2000 ∧ t.drop i = w ++ r ∧ (∀ c ∈ w, isWS c = true) ∧ (∀ c, r.head? = some c → isWS c = false) ∧ Q (.str (S w)) (mv C H p dx t (i + w.length))
def spEnd (C : Addr) : Sp := fun vs H Q _ => ∃ (p dx : Addr) (t : List Nat) (i : Nat), vs = [.ref p] ∧ At C H p dx t i ∧ t.length ≤ 2000 ∧ Q (.bl (decide (i = t.length))) H
variable {C : Addr}
theorem small2 {n : Nat} (h : n ≤ 2000) : n ≤ sizeLine := line5 (by omega)
theorem scInit : FnScope ["self", "text"] ["self", "text"] (defScope sInit) := ⟨rfl, rfl, rfl, by decide +kernel, rfl, by decide +kernel, by decide +kernel⟩
theorem ok_init (T : Txt g C) (R : g.RawI "NoteReader" C "NoteReader.__init__" sInit ["self", "text"]) : g.Ma 1 "NoteReader" C ["self", "text"] (spInit C) := by
  refine R.ma scInit (fun vs H Q E h => by obtain ⟨p, dx, t, rfl, _⟩ := h; rfl) fun f cdv A outer s H vs Q E hr h => ?_
  obtain ⟨p, dx, t, rfl, hp, q⟩ := h
  refine ⟨_, pss_cons (ps_fld (pv 0) (pv 1) rfl) (pss_one (ps_fld (pv 0) pe_int rfl)), ?_⟩
  refine ⟨_, rfl, _, rfl, p, C, dx, [], rfl, hp, T.cl, T.nT, (by show 0 < 1000; decide), _, rfl, p, C, dx, _, rfl, upd_same, T.cl, T.nP, (by show 1 < 1000; decide), ?_⟩
  show Q .non (upd (upd H p _) p _)
  rw [upd_upd, fl_new]
  exact q
theorem scHere : FnScope ["self"] ["self"] (defScope sHere) := ⟨rfl, rfl, rfl, by decide +kernel, rfl, by decide +kernel, by decide +kernel⟩
theorem ok_here (T : Txt g C) (R : g.RawM C "sign_here" "NoteReader.sign_here" sHere ["self"]) : g.Me 1 C "sign_here" ["self"] (spHere C) := by
  refine R.me scHere (fun vs H Q E h => by obtain ⟨p, dx, t, i, rfl, _⟩ := h; rfl) fun f cdv A outer s H vs Q E hr h => ?_
  obtain ⟨p, dx, t, i, rfl, hp, ht, q⟩ := h
  refine ⟨_, pss_one (ps_ret (pe_slice sl_str (pe_fld (pv 0) rfl) (po_some (pe_fld (pv 0) rfl)) (po_some (pe_op op_add (pe_fld (pv 0) rfl) pe_int)))), ?_⟩
  refine ⟨_, rfl, p, C, dx, _, _, rfl, hp, T.cl, T.nT, fl_text t i, _, rfl, p, C, dx, _, _, rfl, hp, T.cl, T.nP, fl_place t i, _, rfl, _, rfl, p, C, dx, _, _, rfl, hp, T.cl, T.nP, fl_place t i, _, _, rfl, rfl, _, rfl, _, rfl, by rw [S_len]; exact small2 ht, ?_⟩
  have e := cutS_nat t i (i + 1)
  rw [Nat.add_sub_cancel_left] at e
  show Q (.str (cutS (S t) (some (i : Int)) (some ((i : Int) + 1)))) H
  rw [show ((i : Int) + 1) = ((i + 1 : Nat) : Int) by omega, e]
  exact q
theorem head_take (l : List Nat) (c : Nat) : (l.take 1 = [c]) ↔ l.head? = some c := by
  cases l with
  | nil => simp
  | cons a l => simp
theorem scTakes : FnScope ["self", "sign"] ["self", "sign"] (defScope sTakes) := ⟨rfl, rfl, rfl, by decide +kernel, rfl, by decide +kernel, by decide +kernel⟩
theorem ok_takes (T : Txt g C) (R : g.RawM C "takes" "NoteReader.takes" sTakes ["self", "sign"]) (F1 : g.Me 1 C "sign_here" ["self"] (spHere C)) : g.Me 2 C "takes" ["self", "sign"] (spTakes C) := by
  refine R.me scTakes (fun vs H Q E h => by obtain ⟨p, dx, t, i, c, rfl, _⟩ := h; rfl) fun f cdv A outer s H vs Q E hr h => ?_
  obtain ⟨p, dx, t, i, c, rfl, hp, ht, q1, q2⟩ := h
  refine ⟨_, pss_cons (ps_if (pt_cmpR op_ne (pe_me0 F1 T.cl hr (pv 0)) (pv 1) (nomark _)) (pss_one (ps_ret pe_bl)) pss_nil) (pss_cons (ps_fldaug (pv 0) pe_int in_add) (pss_one (ps_ret pe_bl))), ?_⟩
  refine ⟨_, rfl, p, dx, _, rfl, hp, fl_no t i (by decide +kernel) (by decide +kernel), p, dx, t, i, rfl, hp, ht, _, rfl, rfl, _, rfl, ?_⟩
  by_cases hc : (t.drop i).head? = some c
  · have e : (t.drop i).take 1 = [c] := (head_take _ _).mpr hc
    rw [e]
    refine iteNS rfl ?_
    refine ⟨_, rfl, p, C, dx, _, _, rfl, hp, T.cl, T.nP, fl_place t i, _, _, rfl, rfl, dx, _, hp, (by show 2 < 1000; decide), ?_⟩
    show Q (.bl true) (upd H p (.ins C dx (putF "place" (.int ((i : Int) + 1)) (fl t i))))
    rw [show ((i : Int) + 1) = ((i + 1 : Nat) : Int) by omega, fl_put]
    exact q1 hc
  · have e : ¬ V.str (S ((t.drop i).take 1)) = V.str (S [c]) := fun z => by
      injection z with z
      exact hc ((head_take _ _).mp (S_inj z))
    rw [decide_eq_false e]
    exact q2 hc
theorem drop_more {t w r : List Nat} {i : Nat} (h : t.drop i = w ++ r) : t.drop (i + w.length) = r := by
  rw [← List.drop_drop, h]
  simp
theorem scWord : FnScope ["self", "begin"] ["self"] (defScope sWord) := ⟨rfl, rfl, rfl, by decide +kernel, rfl, by decide +kernel, by decide +kernel⟩
theorem ok_word (T : Txt g C) (R : g.RawM C "word_signs" "NoteReader.word_signs" sWord ["self"]) (F1 : g.Me 1 C "sign_here" ["self"] (spHere C)) (F2 : g.Fn 3 "is_word_sign" ["sign"] (spSign isWS)) : g.Me 4 C "word_signs" ["self"] (spWord C) := by
  refine R.me scWord (fun vs H Q E h => by obtain ⟨p, dx, t, i, w, r, rfl, _⟩ := h; rfl) fun f cdv A outer s H vs Q E hr h => ?_
  obtain ⟨p, dx, t, i, w, r, rfl, hp, ht, hd, hw, hr', q⟩ := h
  refine ⟨_, pss_cons (ps_set (i := 1) scWord.nd rfl (Or.inl rfl) (pe_fld (pv 0) rfl)) (pss_cons (ps_while PassesOwn.never (pt_val (pe_fn F2 hr (pa_cons (pe_me0 F1 T.cl hr (pv 0)) pa_nil))) (pss_one (ps_fldaug (pv 0) pe_int in_add)))
    (pss_one (ps_ret (pe_slice sl_str (pe_fld (pv 0) rfl) (po_some (pv 1)) (po_some (pe_fld (pv 0) rfl)))))), ?_⟩
  refine ⟨_, rfl, p, C, dx, _, _, rfl, hp, T.cl, T.nP, fl_place t i, ?_⟩
  -- the loop: k signs of w are behind
  refine ⟨fun m σ H' => ∃ k, k + m = w.length ∧ σ = [some (.ref p), some (.int i)] ∧ H' = mv C H p dx t (i + k), ⟨w.length, 0, by omega, rfl, ?_⟩, ?_⟩
  · exact (upd_id hp).symm
  rintro m σ H' ⟨k, hk, rfl, rfl⟩
  have hdk : t.drop (i + k) = w.drop k ++ r := by
    rw [← List.drop_drop, hd, List.drop_append_of_le_length (by omega)]
  refine ⟨_, rfl, p, dx, _, rfl, upd_same, fl_no t (i + k) (by decide +kernel) (by decide +kernel), p, dx, t, i + k, rfl, upd_same, ht, _, rfl, by rw [List.length_take]; omega, _, rfl, ?_⟩
  by_cases hm : m = 0
  · -- the end
    have hkw : w.drop k = [] := List.drop_eq_nil_of_le (by omega)
    have e : ((t.drop (i + k)).take 1).any isWS = false := by
      rw [hdk, hkw, List.nil_append]
      cases r with
      | nil => rfl
      | cons a r => simp [hr' a rfl]
    rw [e]
    refine iteF ?_
    have hk' : k = w.length := by omega
    subst hk'
    refine ⟨_, rfl, p, C, dx, _, _, rfl, upd_same, T.cl, T.nT, fl_text t _, _, rfl, _, rfl, _, rfl, p, C, dx, _, _, rfl, upd_same, T.cl, T.nP, fl_place t _, _, rfl, _, rfl, by rw [S_len]; exact small2 ht, ?_⟩
    have e2 := cutS_nat t i (i + w.length)
    rw [Nat.add_sub_cancel_left, hd, List.take_left] at e2
    rw [e2]
    exact q
  · have hlt : k < w.length := by omega
    have e0 : w.drop k = w[k] :: w.drop (k + 1) := List.drop_eq_getElem_cons hlt
    have e : ((t.drop (i + k)).take 1).any isWS = true := by
      rw [hdk, e0]
      show (isWS w[k] || false) = true
      rw [hw w[k] (List.getElem_mem hlt)]
      rfl
    rw [e]
    refine iteT ?_
    refine ⟨fun σ' H' => σ' = [some (.ref p), some (.int i)] ∧ H' = mv C H p dx t (i + (k + 1)), fun σ' H' ⟨e1, e2⟩ => ⟨m - 1, by omega, k + 1, by omega, e1, e2⟩, ?_⟩
    refine ⟨_, rfl, p, C, dx, _, _, rfl, upd_same, T.cl, T.nP, fl_place t _, _, _, rfl, rfl, dx, _, upd_same, (by show 2 < 1000; decide), rfl, ?_⟩
    show upd (upd H p _) p (.ins C dx (putF "place" (.int (((i + k : Nat) : Int) + 1)) (fl t (i + k)))) = _
    rw [upd_upd, show (((i + k : Nat) : Int) + 1) = ((i + (k + 1) : Nat) : Int) by omega, fl_put]
theorem scEnd : FnScope ["self"] ["self"] (defScope sEnd) := ⟨rfl, rfl, rfl, by decide +kernel, rfl, by decide +kernel, by decide +kernel⟩
theorem ok_end (T : Txt g C) (R : g.RawM C "at_end" "NoteReader.at_end" sEnd ["self"]) (bl : g.mg "len" = none) : g.Me 1 C "at_end" ["self"] (spEnd C) := by
  refine R.me scEnd (fun vs H Q E h => by obtain ⟨p, dx, t, i, rfl, _⟩ := h; rfl) fun f cdv A outer s H vs Q E hr h => ?_
  obtain ⟨p, dx, t, i, rfl, hp, ht, q⟩ := h
  refine ⟨_, pss_one (ps_ret (pe_cmpR op_eq (pe_fld (pv 0) rfl) (pe_bf bl call_len_str (pa_cons (pe_fld (pv 0) rfl) pa_nil)) (nomark _))), ?_⟩
  refine ⟨_, rfl, p, C, dx, _, _, rfl, hp, T.cl, T.nP, fl_place t i, _, rfl, p, C, dx, _, _, rfl, hp, T.cl, T.nT, fl_text t i, _, rfl, by rw [S_len]; exact small2 ht, rfl, ?_⟩
  have e : decide (V.int (i : Int) = V.int ((S t).length : Nat)) = decide (i = t.length) := by
    rw [S_len]
    by_cases h : i = t.length
    · subst h; simp
    · rw [decide_eq_false h, decide_eq_false]
      intro z; injection z with z; omega
  show Q (.bl (decide (V.int (i : Int) = V.int ((S t).length : Nat)))) H
  rw [e]
  exact q
end Rd
end KW
set_option maxHeartbeats 8000000
namespace KW
open PySem L2

variable {g : Gx}
variable {C : Addr}
local macro_rules | `(tactic| walk_at "gn") => `(tactic| simp only [gName, List.set_cons_zero, List.set_cons_succ])

local macro_rules | `(tactic| walk_at "rd") => `(tactic| simp (config := { failIfUnchanged := false, maxSteps := 10000000 }) only [L2.start, cxOf_K, nox_K, List.map_cons, List.map_nil, List.length_cons, List.length_nil, List.cons_append, List.nil_append, List.replicate_succ, List.replicate_zero, Nat.zero_add, Nat.reduceAdd, Nat.reduceSub, Nat.sub_self, tSeq, tIfS, tTest, tOp, tC, tVar, rI0, rI, rU, tUn, tRet, tRetN, tDrop, tNext, tBreak, tCont, tAsg, gName, gNil, gCons, tCons, tNil, tCB, tCall, tTry, tTryAs, tRaise, sFld, tFld, tMake, tMeth, Ends.gone, caught_K, tB, tAnd, tOr, tNot, tAndV, tOrV, tNotV, tIf, tChain, tNoPart, tPart, tSl, tNever, tAug, rIxL, rIxT, rSlL, tLst, tTup, gTup, tRev, tLZ, tConT, tDict0, rBits, rFind, rIn, tBM, tBM0, rAppend, rReverse, rEq, rNe, scal_ii, scal_ss, rCat, rSetL, gSub, ipI, capSt, List.getD_cons_zero, List.getD_cons_succ, decide_true, not_true_eq_false, not_false_eq_true,
  exists_eq_left', exists_eq_left, exists_eq', exists_eq, exists_and_left, and_assoc, Option.some.injEq, V.int.injEq, V.bl.injEq, V.ref.injEq, V.str.injEq, List.getElem?_cons_zero, List.getElem?_cons_succ, List.set_cons_zero, List.set_cons_succ, List.cons.injEq, and_true, true_and, List.append_nil, decide_eq_true_eq, Bool.not_eq_true', decide_eq_false_iff_not, Bool.not_not, Bool.not_true, Bool.not_false, Bool.true_eq_false, Bool.false_eq_true, if_true, if_false, ite_true, ite_false])

namespace Rd
/-! a note as it lies in the heap -/
mutual
def NoteAt (H : Hp) : Note → V → Prop
  | .leaf l w, v => ∃ a, v = .ref a ∧ H a = some (.tup [.str (S l), .str (S w), .non])
  | .node l w ks, v => ∃ a b vs, v = .ref a ∧ H a = some (.tup [.str (S l), .str (S w), .ref b]) ∧ H b = some (.tup vs) ∧ NotesAt H ks vs
def NotesAt (H : Hp) : Notes → List V → Prop
  | .nil, vs => vs = []
  | .cons n r, vs => ∃ v us, vs = v :: us ∧ NoteAt H n v ∧ NotesAt H r us
end
/-- tuples stay -/
def Tups (H H' : Hp) : Prop := ∀ b xs, H b = some (.tup xs) → H' b = some (.tup xs)
theorem Same.tups {H H' : Hp} (h : Same H H') : Tups H H' := fun b xs e => h b _ e
mutual
theorem NoteAt.keep {H H' : Hp} (h : Tups H H') : ∀ {n : Note} {v : V}, NoteAt H n v → NoteAt H' n v
  | .leaf l w, v, ⟨a, e, q⟩ => ⟨a, e, h a _ q⟩
  | .node l w ks, v, ⟨a, b, vs, e, q, q', r⟩ => ⟨a, b, vs, e, h a _ q, h b _ q', NotesAt.keep h r⟩
theorem NotesAt.keep {H H' : Hp} (h : Tups H H') : ∀ {ns : Notes} {vs : List V}, NotesAt H ns vs → NotesAt H' ns vs
  | .nil, vs, e => e
  | .cons n r, vs, ⟨v, us, e, q, q'⟩ => ⟨v, us, e, NoteAt.keep h q, NotesAt.keep h q'⟩
end
theorem NotesAt.snoc {H : Hp} : ∀ {ns : Notes} {vs : List V} {n : Note} {v : V}, NotesAt H ns vs → NoteAt H n v → NotesAt H (ns.snoc n) (vs ++ [v])
  | .nil, vs, n, v, e, h => by subst e; exact ⟨v, [], rfl, h, rfl⟩
  | .cons m r, vs, n, v, ⟨u, us, e, q, q'⟩, h => by subst e; exact ⟨u, us ++ [v], rfl, q, q'.snoc h⟩
theorem mvk {C : Addr} {H : Hp} {p dx : Addr} {t : List Nat} {i : Nat} {b : Addr} {o : HO} (h : b ≠ p) (e : H b = some o) : mv C H p dx t i b = some o := by
  show upd H p _ b = some o
  rw [upd_ne h]; exact e
/-- all but the reader stays -/
def But (p : Addr) (H H' : Hp) : Prop := ∀ b o, b ≠ p → H b = some o → H' b = some o
theorem But.refl (p : Addr) (H : Hp) : But p H H := fun _ _ _ e => e
theorem But.trans {p : Addr} {H H1 H2 : Hp} (a : But p H H1) (b : But p H1 H2) : But p H H2 := fun c o n e => b c o n (a c o n e)
theorem But.mv {p : Addr} {H H1 : Hp} (a : But p H H1) (o : HO) : But p H (upd H1 p o) := fun c u n e => by rw [upd_ne n]; exact a c u n e
theorem But.new {p q : Addr} {H H1 : Hp} (a : But p H H1) (o : HO) (h : H1 q = none) : But p H (upd H1 q o) := fun c u n e => by
  have e1 := a c u n e
  rw [upd_ne (ne_of_none e1 h)]
  exact e1
theorem But.free {p : Addr} {H H' : Hp} {q : Addr} (a : But p H H') (n : q ≠ p) (h : H' q = none) : H q = none := by
  cases e : H q with
  | none => rfl
  | some o => rw [a q o n e] at h; cases h
end Rd
end KW
set_option maxHeartbeats 8000000
namespace KW
open PySem L2

variable {g : Gx}
variable {C : Addr}
local macro_rules | `(tactic| walk_at "gn") => `(tactic| simp only [gName, List.set_cons_zero, List.set_cons_succ])

local macro_rules | `(tactic| walk_at "rd") => `(tactic| simp (config := { failIfUnchanged := false, maxSteps := 10000000 }) only [L2.start, cxOf_K, nox_K, List.map_cons, List.map_nil, List.length_cons, List.length_nil, List.cons_append, List.nil_append, List.replicate_succ, List.replicate_zero, Nat.zero_add, Nat.reduceAdd, Nat.reduceSub, Nat.sub_self, tSeq, tIfS, tTest, tOp, tC, tVar, rI0, rI, rU, tUn, tRet, tRetN, tDrop, tNext, tBreak, tCont, tAsg, gName, gNil, gCons, tCons, tNil, tCB, tCall, tTry, tTryAs, tRaise, sFld, tFld, tMake, tMeth, Ends.gone, caught_K, tB, tAnd, tOr, tNot, tAndV, tOrV, tNotV, tIf, tChain, tNoPart, tPart, tSl, tNever, tAug, rIxL, rIxT, rSlL, tLst, tTup, gTup, tRev, tLZ, tConT, tDict0, rBits, rFind, rIn, tBM, tBM0, rAppend, rReverse, rEq, rNe, scal_ii, scal_ss, rCat, rSetL, gSub, ipI, capSt, List.getD_cons_zero, List.getD_cons_succ, decide_true, not_true_eq_false, not_false_eq_true,
  exists_eq_left', exists_eq_left, exists_eq', exists_eq, exists_and_left, and_assoc, Option.some.injEq, V.int.injEq, V.bl.injEq, V.ref.injEq, V.str.injEq, List.getElem?_cons_zero, List.getElem?_cons_succ, List.set_cons_zero, List.set_cons_succ, List.cons.injEq, and_true, true_and, List.append_nil, decide_eq_true_eq, Bool.not_eq_true', decide_eq_false_iff_not, Bool.not_not, Bool.not_true, Bool.not_false, Bool.true_eq_false, Bool.false_eq_true, if_true, if_false, ite_true, ite_false])

namespace Rd
/-! ### the reader on any text: what it reads, or that it refuses -/
def wordOk (w : List Nat) : Bool := decide (1 ≤ w.length) && decide (w.length ≤ 62)
def labOk (l : List Nat) : Bool := decide (1 ≤ l.length) && decide (l.length ≤ 8) && l.all isSmall
def mkN (l w : List Nat) : Option Notes → Note
  | none => .leaf l w
  | some ks => .node l w ks
abbrev PL := List Nat → Option (Note × List Nat)
abbrev PB := List Nat → Option (Option Notes × List Nat)
def pMore (pl : PL) : Nat → Notes → List Nat → Option (Notes × List Nat)
  | 0, _, _ => none
  | f + 1, acc, r => if r.head? = some 44 then (match pl (r.drop 1) with
      | some (n, r') => pMore pl f (acc.snoc n) r'
      | none => none) else some (acc, r)
def pClose : Option (Notes × List Nat) → Option (Option Notes × List Nat)
  | none => none
  | some (ks, r) => if r.head? = some 41 then some (some ks, r.drop 1) else none
def pIn (pl : PL) (r : List Nat) : Option (Option Notes × List Nat) := match pl r with
  | none => none
  | some (n, r1) => pClose (pMore pl (r1.length + 1) (.cons n .nil) r1)
def pB (pl : PL) : PB := fun r => if r.head? = some 40 then (if (r.drop 1).head? = some 41 then some (some .nil, r.drop 2) else pIn pl (r.drop 1)) else some (none, r)
def pPut (l w : List Nat) : Option (Option Notes × List Nat) → Option (Note × List Nat)
  | none => none
  | some (b, r) => some (mkN l w b, r)
def pW (pb : PB) (l w r : List Nat) : Option (Note × List Nat) := if wordOk w = true then pPut l w (pb r) else none
def pL (pb : PB) : PL := fun r => if (r.dropWhile isWS).head? = some 58 then (if labOk (r.takeWhile isWS) = true then pW pb (r.takeWhile isWS) (((r.dropWhile isWS).drop 1).takeWhile isWS) (((r.dropWhile isWS).drop 1).dropWhile isWS) else none) else pW pb [] (r.takeWhile isWS) (r.dropWhile isWS)
def pbn : Nat → PB
  | 0 => pB (fun _ => none)
  | d + 1 => pB (pL (pbn d))
def pln (d : Nat) : PL := pL (pbn d)
/-- signs with as many brackets closed as opened -/
def Bal (c : List Nat) : Prop := ∀ D, endD D c = D
theorem Bal.nil : Bal [] := fun _ => rfl
theorem Bal.app {a b : List Nat} (h : Bal a) (h' : Bal b) : Bal (a ++ b) := fun D => by rw [endD_append, h, h']
theorem Bal.one {c : Nat} (h1 : c ≠ 40) (h2 : c ≠ 41) : Bal [c] := fun D => by
  show stepD D c = D
  simp [stepD, h1, h2]
theorem Bal.ws : ∀ {w : List Nat}, (∀ c ∈ w, isWS c = true) → Bal w
  | [], _ => Bal.nil
  | c :: w, h => by
    obtain ⟨a, b, _⟩ := ws_plain (h c (by simp))
    exact Bal.app (a := [c]) (Bal.one a b) (Bal.ws fun x hx => h x (by simp [hx]))
theorem Bal.br {c : List Nat} (h : Bal c) : Bal (40 :: (c ++ [41])) := fun D => by
  show endD (stepD D 40) (c ++ [41]) = D
  rw [endD_append, h]
  show stepD (stepD D 40) 41 = D
  simp [stepD]
/-- what is left behind such signs -/
def Sx (r0 r : List Nat) : Prop := ∃ c, r0 = c ++ r ∧ Bal c
theorem Sx.refl (r : List Nat) : Sx r r := ⟨[], rfl, Bal.nil⟩
theorem Sx.trans {a b c : List Nat} (h : Sx a b) (h' : Sx b c) : Sx a c := by
  obtain ⟨x, rfl, hx⟩ := h
  obtain ⟨y, rfl, hy⟩ := h'
  exact ⟨x ++ y, by simp, hx.app hy⟩
theorem Sx.len {a b : List Nat} (h : Sx a b) : b.length ≤ a.length := by
  obtain ⟨x, rfl, _⟩ := h
  simp
theorem okD_right : ∀ {a b : List Nat} {d : Int}, okD d (a ++ b) → okD (endD d a) b
  | [], b, d, h => h
  | c :: a, b, d, h => okD_right (a := a) h.2
theorem Sx.ok {a b : List Nat} {d : Int} (h : Sx a b) (o : okD d a) : okD d b := by
  obtain ⟨x, rfl, hx⟩ := h
  have := okD_right o
  rwa [hx] at this
theorem hd_eq {r : List Nat} {c : Nat} (h : r.head? = some c) : r = c :: r.drop 1 := by
  cases r with
  | nil => cases h
  | cons a r => cases h; rfl
theorem Sx.drop {r : List Nat} {c : Nat} (h : r.head? = some c) (h1 : c ≠ 40) (h2 : c ≠ 41) : Sx r (r.drop 1) := ⟨[c], hd_eq h, Bal.one h1 h2⟩
theorem Sx.ws (r : List Nat) : Sx r (r.dropWhile isWS) := ⟨r.takeWhile isWS, by simp, Bal.ws fun c hc => by
  have := List.all_takeWhile (l := r) (p := isWS)
  exact List.all_eq_true.mp this c hc⟩
def Good (pl : PL) : Prop := ∀ r n r', pl r = some (n, r') → Sx r r'
theorem pMore_sx {pl : PL} (g : Good pl) : ∀ {f : Nat} {acc ks : Notes} {r r' : List Nat}, pMore pl f acc r = some (ks, r') → Sx r r'
  | 0, _, _, _, _, h => by cases h
  | f + 1, acc, ks, r, r', h => by
    rw [pMore] at h
    by_cases c : r.head? = some 44
    · rw [if_pos c] at h
      cases e : pl (r.drop 1) with
      | none => rw [e] at h; cases h
      | some z =>
        obtain ⟨n, r1⟩ := z
        rw [e] at h
        exact ((Sx.drop c (by decide) (by decide)).trans (g _ _ _ e)).trans (pMore_sx g h)
    · rw [if_neg c] at h
      cases h
      exact Sx.refl _
theorem pB_sx {pl : PL} (g : Good pl) {r r' : List Nat} {b : Option Notes} (h : pB pl r = some (b, r')) : Sx r r' := by
  unfold pB at h
  by_cases c : r.head? = some 40
  · rw [if_pos c] at h
    have e := hd_eq c
    by_cases c1 : (r.drop 1).head? = some 41
    · rw [if_pos c1] at h
      cases h
      have e1 := hd_eq c1
      rw [List.drop_drop] at e1
      exact ⟨40 :: ([] ++ [41]), by rw [e, e1]; rfl, Bal.br Bal.nil⟩
    · rw [if_neg c1] at h
      unfold pIn at h
      cases e2 : pl (r.drop 1) with
      | none => rw [e2] at h; cases h
      | some z =>
        obtain ⟨n, r1⟩ := z
        rw [e2] at h
        dsimp only at h
        cases e3 : pMore pl (r1.length + 1) (.cons n .nil) r1 with
        | none => rw [e3] at h; cases h
        | some y =>
          obtain ⟨ks, r2⟩ := y
          rw [e3] at h
          unfold pClose at h
          dsimp only at h
          by_cases c3 : r2.head? = some 41
          · rw [if_pos c3] at h
            cases h
            obtain ⟨x, e4, hx⟩ := (g _ _ _ e2).trans (pMore_sx g e3)
            refine ⟨40 :: (x ++ [41]), ?_, hx.br⟩
            rw [e, e4, hd_eq c3]
            simp
          · rw [if_neg c3] at h; cases h
  · rw [if_neg c] at h
    cases h
    exact Sx.refl _
theorem pL_sx {pb : PB} (g : ∀ r b r', pb r = some (b, r') → Sx r r') : Good (pL pb) := by
  intro r n r' h
  have w : ∀ {l w x : List Nat}, pW pb l w x = some (n, r') → Sx x r' := fun {l w x} h => by
    unfold pW at h
    by_cases c : wordOk w = true
    · rw [if_pos c] at h
      cases e : pb x with
      | none => rw [e] at h; cases h
      | some z =>
        obtain ⟨b, r1⟩ := z
        rw [e] at h
        cases h
        exact g _ _ _ e
    · rw [if_neg c] at h; cases h
  unfold pL at h
  by_cases c : (r.dropWhile isWS).head? = some 58
  · rw [if_pos c] at h
    by_cases c1 : labOk (r.takeWhile isWS) = true
    · rw [if_pos c1] at h
      exact (((Sx.ws r).trans (Sx.drop c (by decide) (by decide))).trans (Sx.ws _)).trans (w h)
    · rw [if_neg c1] at h; cases h
  · rw [if_neg c] at h
    exact (Sx.ws r).trans (w h)
theorem pbn_sx : ∀ (d : Nat) r b r', pbn d r = some (b, r') → Sx r r'
  | 0, r, b, r', h => pB_sx (pl := fun _ => none) (fun _ _ _ h => by cases h) h
  | d + 1, r, b, r', h => pB_sx (pL_sx (pbn_sx d)) h
theorem pln_sx (d : Nat) : Good (pln d) := pL_sx (pbn_sx d)
/-- the note that a text is -/
def pAll : Option (Note × List Nat) → Option Note
  | some (n, []) => some n
  | _ => none
def parse (t : List Nat) : Option Note := pAll (pln 6 t)
def spLNx (C CN : Addr) (m : Nat) : Sp := fun vs H Q E => ∃ (p dx : Addr) (t : List Nat) (i d : Nat), vs = [.ref p] ∧ m = d + 1 ∧ d ≤ 6 ∧ At C H p dx t i ∧ i ≤ t.length ∧ t.length ≤ 2000 ∧ okD (6 - (d : Int)) (t.drop i) ∧
  (∀ n r v H', pln d (t.drop i) = some (n, r) → NoteAt H' n v → At C H' p dx t (t.length - r.length) → But p H H' → Q v H') ∧ (pln d (t.drop i) = none → ∀ H', But p H H' → E (.ref CN) none H')
def spBNx (C CN : Addr) (m : Nat) : Sp := fun vs H Q E => ∃ (p dx : Addr) (t : List Nat) (i : Nat), vs = [.ref p] ∧ m ≤ 6 ∧ At C H p dx t i ∧ i ≤ t.length ∧ t.length ≤ 2000 ∧ okD (6 - (m : Int)) (t.drop i) ∧
  (∀ r H', pbn m (t.drop i) = some (none, r) → At C H' p dx t (t.length - r.length) → But p H H' → Q .non H') ∧
  (∀ ks r b vs H', pbn m (t.drop i) = some (some ks, r) → H' b = some (.tup vs) → NotesAt H' ks vs → At C H' p dx t (t.length - r.length) → But p H H' → Q (.ref b) H') ∧ (pbn m (t.drop i) = none → ∀ H', But p H H' → E (.ref CN) none H')
theorem no_ln {C CN : Addr} {vs : List V} {H : Hp} {Q : VK} {E : XK} (h : spLNx C CN 0 vs H Q E) : False := by
  obtain ⟨p, dx, t, i, d, _, h, _⟩ := h
  omega
theorem noat (m : Str) (t : List Nat) (i : Nat) (h1 : (m == ("text" : Str)) = false := by decide +kernel) (h2 : (m == ("place" : Str)) = false := by decide +kernel) : (fl t i).lookup m = none := fl_no t i h1 h2
theorem ws_parts : ∀ r : List Nat, r = r.takeWhile isWS ++ r.dropWhile isWS ∧ (∀ c ∈ r.takeWhile isWS, isWS c = true) ∧ ∀ c, (r.dropWhile isWS).head? = some c → isWS c = false := fun r => by
  refine ⟨List.takeWhile_append_dropWhile.symm, fun c hc => List.all_eq_true.mp (List.all_takeWhile (l := r) (p := isWS)) c hc, ?_⟩
  induction r with
  | nil => intro c h; cases h
  | cons x r ih =>
    intro c h
    by_cases hx : isWS x = true
    · rw [List.dropWhile_cons_of_pos hx] at h
      exact ih c h
    · rw [List.dropWhile_cons_of_neg hx] at h
      cases h
      simpa using hx
theorem drop_at {t r : List Nat} {i : Nat} (hi : i ≤ t.length) (s : Sx (t.drop i) r) : t.drop (t.length - r.length) = r := by
  obtain ⟨c, e, _⟩ := s
  have h1 := congrArg List.length e
  rw [List.length_drop, List.length_append] at h1
  have h2 : t.drop (i + c.length) = r := by
    rw [← List.drop_drop, e, List.drop_left]
  rw [← h2]
  congr 1
  rw [h2]
  omega
end Rd
end KW
set_option maxHeartbeats 8000000
namespace KW
open PySem L2

variable {g : Gx}
variable {C : Addr}
local macro_rules | `(tactic| walk_at "gn") => `(tactic| simp only [gName, List.set_cons_zero, List.set_cons_succ])

local macro_rules | `(tactic| walk_at "rd") => `(tactic| simp (config := { failIfUnchanged := false, maxSteps := 10000000 }) only [L2.start, cxOf_K, nox_K, List.map_cons, List.map_nil, List.length_cons, List.length_nil, List.cons_append, List.nil_append, List.replicate_succ, List.replicate_zero, Nat.zero_add, Nat.reduceAdd, Nat.reduceSub, Nat.sub_self, tSeq, tIfS, tTest, tOp, tC, tVar, rI0, rI, rU, tUn, tRet, tRetN, tDrop, tNext, tBreak, tCont, tAsg, gName, gNil, gCons, tCons, tNil, tCB, tCall, tTry, tTryAs, tRaise, sFld, tFld, tMake, tMeth, Ends.gone, caught_K, tB, tAnd, tOr, tNot, tAndV, tOrV, tNotV, tIf, tChain, tNoPart, tPart, tSl, tNever, tAug, rIxL, rIxT, rSlL, tLst, tTup, gTup, tRev, tLZ, tConT, tDict0, rBits, rFind, rIn, tBM, tBM0, rAppend, rReverse, rEq, rNe, scal_ii, scal_ss, rCat, rSetL, gSub, ipI, capSt, List.getD_cons_zero, List.getD_cons_succ, decide_true, not_true_eq_false, not_false_eq_true,
  exists_eq_left', exists_eq_left, exists_eq', exists_eq, exists_and_left, and_assoc, Option.some.injEq, V.int.injEq, V.bl.injEq, V.ref.injEq, V.str.injEq, List.getElem?_cons_zero, List.getElem?_cons_succ, List.set_cons_zero, List.set_cons_succ, List.cons.injEq, and_true, true_and, List.append_nil, decide_eq_true_eq, Bool.not_eq_true', decide_eq_false_iff_not, Bool.not_not, Bool.not_true, Bool.not_false, Bool.true_eq_false, Bool.false_eq_true, if_true, if_false, ite_true, ite_false])

theorem ok_NoteReader_labelled_note {k : Nat} {C_CountError : Addr} {C_NoNote : Addr} {C_Crowded : Addr} {C_Twice : Addr} {C_NoRange : Addr} {C_NoteReader : Addr} (R : g.RawM C_NoteReader "labelled_note" "NoteReader.labelled_note" s_NoteReader_labelled_note ["self"]) (F_is_label : g.Fn k "is_label" ["text"] (Rd.spLabel)) (F_NoteReader_takes : g.Me k C_NoteReader "takes" ["self", "sign"] (Rd.spTakes C_NoteReader)) (F_NoteReader_word_signs : g.Me k C_NoteReader "word_signs" ["self"] (Rd.spWord C_NoteReader)) (F_NoteReader_bracketed_notes : g.MeX k C_NoteReader "bracketed_notes" ["self"] (Rd.spBNx C_NoteReader C_NoNote m)) (b_len : g.mg "len" = none) (c_LONGEST_WORD : g.Con "LONGEST_WORD" (.int 62)) (cl_NoteReader : Cls g.K C_NoteReader) (n_NoteReader_text : NoAttr g.K C_NoteReader "text") (n_NoteReader_place : NoAttr g.K C_NoteReader "place") (x_NoNote : g.mg "NoNote" = some (.ref C_NoNote)) (r_NoNote : PySem.W.excIn g.K C_NoNote veLine "ValueError.__new__" = true) : g.MeX (k + 1) C_NoteReader "labelled_note" ["self"] (Rd.spLNx C_NoteReader C_NoNote (m + 1)) := by
  refine R.meX sc_NoteReader_labelled_note (fun vs H Q E h => by obtain ⟨p, dx, t, i, d, rfl, hm, hd, hat, hi, hl, hok, q, qe⟩ := h; rfl) fun f_ cdv A outer s H vs Q E hr h => ?_
  obtain ⟨p, dx, t, i, d, rfl, hm, hd, hat, hi, hl, hok, q, qe⟩ := h
  refine ⟨_, (@pss_cons _ _ _ _ _ (PS.nox (@ps_set _ _ (1) _ _ _ _ sc_NoteReader_labelled_note.nd rfl (Or.inl rfl) pe_str (by rfl) (by first | exact .inl rfl | exact .inr rfl | assumption))) (@pss_cons _ _ _ _ _ (PS.nox (@ps_set _ _ (2) _ _ _ _ sc_NoteReader_labelled_note.nd rfl (Or.inl rfl) (@pe_me0 _ _ _ _ _ _ _ _ _ _ _ _ _ F_NoteReader_word_signs cl_NoteReader hr (@pv _ 0 _ _ (by rfl) (by first | exact Or.inl rfl | exact Or.inr (Or.inl rfl) | exact Or.inr (Or.inr rfl)) (by decide) (by decide)) (by omega) (by rfl) (by rfl)) (by rfl) (by first | exact .inl rfl | exact .inr rfl | assumption))) (@pss_cons _ _ _ _ _ (@ps_if _ _ _ _ _ _ _ _ (@pt_val _ _ _ (@pe_me _ _ _ _ _ _ _ _ _ _ _ _ _ _ _ _ F_NoteReader_takes cl_NoteReader hr (@pv _ 0 _ _ (by rfl) (by first | exact Or.inl rfl | exact Or.inr (Or.inl rfl) | exact Or.inr (Or.inr rfl)) (by decide) (by decide)) (@pa_cons _ _ _ _ _ pe_str pa_nil (by rfl)) (by omega) (by rfl) (by rfl) (by rfl) (by rfl)) (by intro _; rfl)) (@pss_cons _ _ _ _ _ (PS.nox (@ps_set _ _ (1) _ _ _ _ sc_NoteReader_labelled_note.nd rfl (Or.inl rfl) (@pv _ 2 _ _ (by rfl) (by first | exact Or.inl rfl | exact Or.inr (Or.inl rfl) | exact Or.inr (Or.inr rfl)) (by decide) (by decide)) (by rfl) (by first | exact .inl rfl | exact .inr rfl | assumption))) (@pss_cons _ _ _ _ _ (@ps_if _ _ _ _ _ _ _ _ (@pt_not _ _ _ _ (@pt_val _ _ _ (@pe_fn _ _ _ _ _ _ _ _ _ _ _ _ F_is_label hr (@pa_cons _ _ _ _ _ (@pv _ 1 _ _ (by rfl) (by first | exact Or.inl rfl | exact Or.inr (Or.inl rfl) | exact Or.inr (Or.inr rfl)) (by decide) (by decide)) pa_nil (by rfl)) (by omega) (by rfl) (by rfl) (by decide) (by rfl) (by rfl)) (by intro _; rfl))) (@pss_one _ _ _ (@ps_raise _ _ _ _ _ _ _ _ _ _ _ ⟨x_NoNote, r_NoNote⟩ raiseF (@pa_cons _ _ _ _ _ pe_str pa_nil (by rfl)) (by rfl) (by rfl) (by rfl) (by decide) (by rfl) (by rfl))) pss_nil) (@pss_one _ _ _ (PS.nox (@ps_set _ _ (2) _ _ _ _ sc_NoteReader_labelled_note.nd rfl (Or.inl rfl) (@pe_me0 _ _ _ _ _ _ _ _ _ _ _ _ _ F_NoteReader_word_signs cl_NoteReader hr (@pv _ 0 _ _ (by rfl) (by first | exact Or.inl rfl | exact Or.inr (Or.inl rfl) | exact Or.inr (Or.inr rfl)) (by decide) (by decide)) (by omega) (by rfl) (by rfl)) (by rfl) (by first | exact .inl rfl | exact .inr rfl | assumption)))))) pss_nil) (@pss_cons _ _ _ _ _ (@ps_if _ _ _ _ _ _ _ _ (@pt_not _ _ _ _ (@pt_chain _ _ _ _ _ _ _ _ _ _ _ _ op_le op_le pe_int (@pe_bf _ _ _ _ _ _ _ _ _ _ b_len call_len_str (@pa_cons _ _ _ _ _ (@pv _ 2 _ _ (by rfl) (by first | exact Or.inl rfl | exact Or.inr (Or.inl rfl) | exact Or.inr (Or.inr rfl)) (by decide) (by decide)) pa_nil (by rfl)) (by decide +kernel) (by rfl) (by rfl) (by decide) (by decide) (by rfl) (by rfl)) (@pe_gc _ _ _ _ _ c_LONGEST_WORD (by rfl) (by rfl) (by decide)) (by with_unfolding_all rfl))) (@pss_one _ _ _ (@ps_raise _ _ _ _ _ _ _ _ _ _ _ ⟨x_NoNote, r_NoNote⟩ raiseF (@pa_cons _ _ _ _ _ pe_str pa_nil (by rfl)) (by rfl) (by rfl) (by rfl) (by decide) (by rfl) (by rfl))) pss_nil) (@pss_one _ _ _ (@ps_ret _ _ _ _ (@pe_tup _ _ _ _ _ (@pa_cons _ _ _ _ _ (@pv _ 1 _ _ (by rfl) (by first | exact Or.inl rfl | exact Or.inr (Or.inl rfl) | exact Or.inr (Or.inr rfl)) (by decide) (by decide)) (@pa_cons _ _ _ _ _ (@pv _ 2 _ _ (by rfl) (by first | exact Or.inl rfl | exact Or.inr (Or.inl rfl) | exact Or.inr (Or.inr rfl)) (by decide) (by decide)) (@pa_cons _ _ _ _ _ (pe_meX0 F_NoteReader_bracketed_notes cl_NoteReader hr passF (@pv _ 0 _ _ (by rfl) (by first | exact Or.inl rfl | exact Or.inr (Or.inl rfl) | exact Or.inr (Or.inr rfl)) (by decide) (by decide))) pa_nil (by rfl)) (by rfl)) (by rfl))))))))), ?_⟩
  obtain rfl : d = m := by omega
  have s58 : Str.ofString ":" = S [58] := by decide +kernel
  have e0 : Str.ofString "" = S [] := by decide +kernel
  refine cut3 (fun σ H1 => ∃ (l w : List Nat) (i1 : Nat), σ = [some (.ref p), some (.str (S l)), some (.str (S w))] ∧ Rd.At C_NoteReader H1 p dx t i1 ∧ Rd.But p H H1 ∧ i1 ≤ t.length ∧ w.length ≤ 2000 ∧ Rd.pln d (t.drop i) = Rd.pW (Rd.pbn d) l w (t.drop i1) ∧ Rd.Sx (t.drop i) (t.drop i1)) ?_ ?_
  rotate_left
  · intro N hN
    obtain ⟨x1, x2, x3⟩ := Rd.ws_parts (t.drop i)
    have hp : Rd.pln d (t.drop i) = Rd.pL (Rd.pbn d) (t.drop i) := rfl
    unfold Rd.pL at hp
    have sx := Rd.Sx.ws (t.drop i)
    generalize hw : (t.drop i).takeWhile Rd.isWS = w at *
    generalize hr1 : (t.drop i).dropWhile Rd.isWS = r1 at *
    have hdr : t.drop (i + w.length) = r1 := Rd.drop_more x1
    have hlen := congrArg List.length x1
    rw [List.length_drop, List.length_append] at hlen
    walk_at "rd"
    refine ⟨dx, _, hat, Rd.noat _ _ _, p, dx, t, i, w, r1, rfl, hat, hl, x1, x2, x3, ?_⟩
    have hat1 : Rd.At C_NoteReader (Rd.mv C_NoteReader H p dx t (i + w.length)) p dx t (i + w.length) := upd_same
    have hb1 : Rd.But p H (Rd.mv C_NoteReader H p dx t (i + w.length)) := (Rd.But.refl p H).mv _
    refine ⟨dx, _, hat1, Rd.noat _ _ _, p, dx, t, _, 58, by rw [s58], hat1, hl, fun c => ?_, fun c => ?_⟩
    · rw [hdr] at c
      rw [if_pos c] at hp
      refine ⟨_, rfl, iteT ⟨w, rfl, by omega, fun H2 s2 => ⟨_, rfl, ?_⟩⟩⟩
      have hat2 := s2 _ _ (show Rd.At C_NoteReader (Rd.mv C_NoteReader (Rd.mv C_NoteReader H p dx t (i + w.length)) p dx t (i + w.length + 1)) p dx t (i + w.length + 1) from upd_same)
      have hb2 : Rd.But p H H2 := (hb1.mv _).trans fun b o _ e => s2 b o e
      refine ite2 (fun cf => ⟨few (by decide), qe ?_ _ hb2⟩) fun cf => ?_
      · rw [hp, if_neg]
        intro z
        have z' : Rd.labOk w = false := cf
        rw [z'] at z
        cases z
      · have hlab : Rd.labOk w = true := by
          cases z : Rd.labOk w with
          | true => rfl
          | false => exact (cf z).elim
        rw [if_pos hlab] at hp
        have hr2 : t.drop (i + w.length + 1) = r1.drop 1 := by rw [← List.drop_drop, hdr]
        obtain ⟨y1, y2, y3⟩ := Rd.ws_parts (r1.drop 1)
        have sx2 := (sx.trans (Rd.Sx.drop c (by decide) (by decide))).trans (Rd.Sx.ws (r1.drop 1))
        generalize hw2 : (r1.drop 1).takeWhile Rd.isWS = w2 at *
        generalize hr3 : (r1.drop 1).dropWhile Rd.isWS = r3 at *
        have y1' : t.drop (i + w.length + 1) = w2 ++ r3 := by rw [hr2, y1]
        have hdr3 : t.drop (i + w.length + 1 + w2.length) = r3 := Rd.drop_more y1'
        have hlen2 := congrArg List.length y1
        have h58 := congrArg List.length (Rd.hd_eq c)
        rw [List.length_cons] at h58
        rw [List.length_append] at hlen2
        refine ⟨dx, _, hat2, Rd.noat _ _ _, p, dx, t, _, w2, r3, rfl, hat2, hl, y1', y2, y3, hN _ _ ⟨w, w2, i + w.length + 1 + w2.length, rfl, upd_same, hb2.mv _, by omega, by omega, ?_, ?_⟩⟩
        · rw [hp, hdr3]
        · rw [hdr3]; exact sx2
    · rw [hdr] at c
      rw [if_neg c] at hp
      refine ⟨_, rfl, iteF (hN _ _ ⟨[], w, i + w.length, by rw [e0], hat1, hb1, by omega, by omega, ?_, ?_⟩)⟩
      · rw [hp, hdr]
      · rw [hdr]; exact sx
  rintro σ H1 ⟨l, w, i1, rfl, hat1, hb1, hi1, hwl, hpl, sx⟩
  have hw1 : (S w).length = w.length := S_len w
  walk_at "rd"
  have bad : ¬ (1 ≤ w.length ∧ w.length ≤ 62) → Rd.pln d (t.drop i) = none := fun c => by
    rw [hpl]
    unfold Rd.pW
    rw [if_neg]
    intro z
    exact c (by simpa [Rd.wordOk] using z)
  refine ⟨few (by omega), ite2 (fun c1 => ite2 (fun c2 => ⟨few (by decide), qe (bad (by omega)) _ hb1⟩) fun c2 => ?_) fun c1 => ⟨few (by decide), qe (bad (by omega)) _ hb1⟩⟩
  have hpl2 : Rd.pln d (t.drop i) = Rd.pPut l w (Rd.pbn d (t.drop i1)) := by
    rw [hpl]
    unfold Rd.pW
    rw [if_pos]
    have : 1 ≤ w.length ∧ w.length ≤ 62 := by omega
    simpa [Rd.wordOk] using this
  refine ⟨dx, _, hat1, Rd.noat _ _ _, p, dx, t, i1, rfl, hd, hat1, hi1, hl, sx.ok hok, fun r H2 e ha hb => ⟨few (by decide), fun p1 hp1 => ?_⟩, fun ks r b vs H2 e hbb hns ha hb => ⟨few (by decide), fun p1 hp1 => ?_⟩, fun e H2 hb => qe ?_ _ (hb1.trans hb)⟩
  · exact q (.leaf l w) r _ _ (by rw [hpl2, e]; rfl) ⟨p1, rfl, upd_same⟩ ((Same.upd_new hp1 _) _ _ ha) ((hb1.trans hb).new _ hp1)
  · exact q (.node l w ks) r _ _ (by rw [hpl2, e]; rfl) ⟨p1, b, vs, rfl, upd_same, (Same.upd_new hp1 _) _ _ hbb, hns.keep (Rd.Same.tups (.upd_new hp1 _))⟩ ((Same.upd_new hp1 _) _ _ ha) ((hb1.trans hb).new _ hp1)
  · rw [hpl2, e]; rfl
end KW
set_option maxHeartbeats 8000000
namespace KW
open PySem L2

variable {g : Gx}
variable {C : Addr}
local macro_rules | `(tactic| walk_at "gn") => `(tactic| simp only [gName, List.set_cons_zero, List.set_cons_succ])

local macro_rules | `(tactic| walk_at "rd") => `(tactic| simp (config := { failIfUnchanged := false, maxSteps := 10000000 }) only [L2.start, cxOf_K, nox_K, List.map_cons, List.map_nil, List.length_cons, List.length_nil, List.cons_append, List.nil_append, List.replicate_succ, List.replicate_zero, Nat.zero_add, Nat.reduceAdd, Nat.reduceSub, Nat.sub_self, tSeq, tIfS, tTest, tOp, tC, tVar, rI0, rI, rU, tUn, tRet, tRetN, tDrop, tNext, tBreak, tCont, tAsg, gName, gNil, gCons, tCons, tNil, tCB, tCall, tTry, tTryAs, tRaise, sFld, tFld, tMake, tMeth, Ends.gone, caught_K, tB, tAnd, tOr, tNot, tAndV, tOrV, tNotV, tIf, tChain, tNoPart, tPart, tSl, tNever, tAug, rIxL, rIxT, rSlL, tLst, tTup, gTup, tRev, tLZ, tConT, tDict0, rBits, rFind, rIn, tBM, tBM0, rAppend, rReverse, rEq, rNe, scal_ii, scal_ss, rCat, rSetL, gSub, ipI, capSt, List.getD_cons_zero, List.getD_cons_succ, decide_true, not_true_eq_false, not_false_eq_true,
  exists_eq_left', exists_eq_left, exists_eq', exists_eq, exists_and_left, and_assoc, Option.some.injEq, V.int.injEq, V.bl.injEq, V.ref.injEq, V.str.injEq, List.getElem?_cons_zero, List.getElem?_cons_succ, List.set_cons_zero, List.set_cons_succ, List.cons.injEq, and_true, true_and, List.append_nil, decide_eq_true_eq, Bool.not_eq_true', decide_eq_false_iff_not, Bool.not_not, Bool.not_true, Bool.not_false, Bool.true_eq_false, Bool.false_eq_true, if_true, if_false, ite_true, ite_false])

theorem ok_NoteReader_bracketed_notes {k : Nat} {C_CountError : Addr} {C_NoNote : Addr} {C_Crowded : Addr} {C_Twice : Addr} {C_NoRange : Addr} {C_NoteReader : Addr} (R : g.RawM C_NoteReader "bracketed_notes" "NoteReader.bracketed_notes" s_NoteReader_bracketed_notes ["self"]) (F_NoteReader_takes : g.Me k C_NoteReader "takes" ["self", "sign"] (Rd.spTakes C_NoteReader)) (F_NoteReader_labelled_note : g.MeX k C_NoteReader "labelled_note" ["self"] (Rd.spLNx C_NoteReader C_NoNote m)) (b_tuple : g.mg "tuple" = none) (cl_NoteReader : Cls g.K C_NoteReader) (n_NoteReader_text : NoAttr g.K C_NoteReader "text") (n_NoteReader_place : NoAttr g.K C_NoteReader "place") (x_NoNote : g.mg "NoNote" = some (.ref C_NoNote)) (r_NoNote : PySem.W.excIn g.K C_NoNote veLine "ValueError.__new__" = true) : g.MeX (k + 1) C_NoteReader "bracketed_notes" ["self"] (Rd.spBNx C_NoteReader C_NoNote m) := by
  refine R.meX sc_NoteReader_bracketed_notes (fun vs H Q E h => by obtain ⟨p, dx, t, i, rfl, hm, hat, hi, hl, hok, q1, q2, qe⟩ := h; rfl) fun f_ cdv A outer s H vs Q E hr h => ?_
  obtain ⟨p, dx, t, i, rfl, hm, hat, hi, hl, hok, q1, q2, qe⟩ := h
  refine ⟨_, (@pss_cons _ _ _ _ _ (PS.nox (@ps_if _ _ _ _ _ _ _ _ (@pt_not _ _ _ _ (@pt_val _ _ _ (@pe_me _ _ _ _ _ _ _ _ _ _ _ _ _ _ _ _ F_NoteReader_takes cl_NoteReader hr (@pv _ 0 _ _ (by rfl) (by first | exact Or.inl rfl | exact Or.inr (Or.inl rfl) | exact Or.inr (Or.inr rfl)) (by decide) (by decide)) (@pa_cons _ _ _ _ _ pe_str pa_nil (by rfl)) (by omega) (by rfl) (by rfl) (by rfl) (by rfl)) (by intro _; rfl))) (@pss_one _ _ _ (@ps_ret _ _ _ _ pe_non)) pss_nil)) (@pss_cons _ _ _ _ _ (PS.nox (@ps_if _ _ _ _ _ _ _ _ (@pt_val _ _ _ (@pe_me _ _ _ _ _ _ _ _ _ _ _ _ _ _ _ _ F_NoteReader_takes cl_NoteReader hr (@pv _ 0 _ _ (by rfl) (by first | exact Or.inl rfl | exact Or.inr (Or.inl rfl) | exact Or.inr (Or.inr rfl)) (by decide) (by decide)) (@pa_cons _ _ _ _ _ pe_str pa_nil (by rfl)) (by omega) (by rfl) (by rfl) (by rfl) (by rfl)) (by intro _; rfl)) (@pss_one _ _ _ (@ps_ret _ _ _ _ (@pe_tup _ _ _ _ _ pa_nil))) pss_nil)) (@pss_cons _ _ _ _ _ (@ps_set _ _ (1) _ _ _ _ sc_NoteReader_bracketed_notes.nd rfl (Or.inl rfl) (@pe_lst _ _ _ _ (@pa_cons _ _ _ _ _ (pe_meX0 F_NoteReader_labelled_note cl_NoteReader hr passF (@pv _ 0 _ _ (by rfl) (by first | exact Or.inl rfl | exact Or.inr (Or.inl rfl) | exact Or.inr (Or.inr rfl)) (by decide) (by decide))) pa_nil (by rfl))) (by rfl) (by first | exact .inl rfl | exact .inr rfl | assumption)) (@pss_cons _ _ _ _ _ (@ps_while _ _ _ _ _ _ PassesOwn.leaving (@pt_val _ _ _ (@pe_me _ _ _ _ _ _ _ _ _ _ _ _ _ _ _ _ F_NoteReader_takes cl_NoteReader hr (@pv _ 0 _ _ (by rfl) (by first | exact Or.inl rfl | exact Or.inr (Or.inl rfl) | exact Or.inr (Or.inr rfl)) (by decide) (by decide)) (@pa_cons _ _ _ _ _ pe_str pa_nil (by rfl)) (by omega) (by rfl) (by rfl) (by rfl) (by rfl)) (by intro _; rfl)) (@pss_one _ _ _ (@ps_expr _ _ _ _ (@pe_bm _ _ _ _ _ _ _ _ _ _ _ _ PySem.F.plainAttrs_list PySem.F.slot_list_append PySem.F.type_list_append mt_append (@pv _ 1 _ _ (by rfl) (by first | exact Or.inl rfl | exact Or.inr (Or.inl rfl) | exact Or.inr (Or.inr rfl)) (by decide) (by decide)) (@pa_cons _ _ _ _ _ (pe_meX0 F_NoteReader_labelled_note cl_NoteReader hr passF (@pv _ 0 _ _ (by rfl) (by first | exact Or.inl rfl | exact Or.inr (Or.inl rfl) | exact Or.inr (Or.inr rfl)) (by decide) (by decide))) pa_nil (by rfl)) (by rfl) (by rfl) (by rfl) (by rfl) (by rfl)) (by rfl)))) (@pss_cons _ _ _ _ _ (@ps_if _ _ _ _ _ _ _ _ (@pt_not _ _ _ _ (@pt_val _ _ _ (@pe_me _ _ _ _ _ _ _ _ _ _ _ _ _ _ _ _ F_NoteReader_takes cl_NoteReader hr (@pv _ 0 _ _ (by rfl) (by first | exact Or.inl rfl | exact Or.inr (Or.inl rfl) | exact Or.inr (Or.inr rfl)) (by decide) (by decide)) (@pa_cons _ _ _ _ _ pe_str pa_nil (by rfl)) (by omega) (by rfl) (by rfl) (by rfl) (by rfl)) (by intro _; rfl))) (@pss_one _ _ _ (@ps_raise _ _ _ _ _ _ _ _ _ _ _ ⟨x_NoNote, r_NoNote⟩ raiseF (@pa_cons _ _ _ _ _ pe_str pa_nil (by rfl)) (by rfl) (by rfl) (by rfl) (by decide) (by rfl) (by rfl))) pss_nil) (@pss_one _ _ _ (PS.nox (@ps_ret _ _ _ _ (@pe_bt _ _ _ _ _ _ _ _ _ _ b_tuple call_tuple_of (@pa_cons _ _ _ _ _ (@pv _ 1 _ _ (by rfl) (by first | exact Or.inl rfl | exact Or.inr (Or.inl rfl) | exact Or.inr (Or.inr rfl)) (by decide) (by decide)) pa_nil (by rfl)) (by decide +kernel) (by rfl) (by rfl) (by decide) (by decide) (by rfl) (by rfl)))))))))), ?_⟩
  have s40 : Str.ofString "(" = S [40] := by decide +kernel
  have s41 : Str.ofString ")" = S [41] := by decide +kernel
  have s44 : Str.ofString "," = S [44] := by decide +kernel
  have eB : ∃ pl, Rd.pbn m = Rd.pB pl := by cases m <;> exact ⟨_, rfl⟩
  have tl : t.length - (t.drop i).length = i := by rw [List.length_drop]; omega
  walk_at "rd"
  refine ⟨dx, _, hat, Rd.noat _ _ _, p, dx, t, i, 40, by rw [s40], hat, hl, fun c => ?_, fun c => ?_⟩
  rotate_left
  · refine ⟨_, rfl, iteY rfl (q1 (t.drop i) H ?_ (by rw [tl]; exact hat) (Rd.But.refl p H))⟩
    obtain ⟨pl, e⟩ := eB
    rw [e]
    unfold Rd.pB
    rw [if_neg c]
  have ecx := Rd.hd_eq c
  rw [ecx] at hok
  have hm1 : 1 ≤ m := by
    have h1 := hok.1
    rw [show Rd.stepD (6 - (m : Int)) 40 = 6 - (m : Int) + 1 by simp [Rd.stepD]] at h1
    omega
  obtain ⟨d, rfl⟩ : ∃ d, m = d + 1 := ⟨m - 1, by omega⟩
  have hok1 : Rd.okD (6 - (d : Int)) (t.drop (i + 1)) := by
    have h2 := hok.2
    rw [show Rd.stepD (6 - ((d + 1 : Nat) : Int)) 40 = 6 - (d : Int) by simp [Rd.stepD]; omega, List.drop_drop] at h2
    exact h2
  have hi1 : i + 1 ≤ t.length := by
    have := congrArg List.length ecx
    rw [List.length_cons, List.length_drop] at this
    omega
  have hp : Rd.pbn (d + 1) (t.drop i) = if (t.drop (i + 1)).head? = some 41 then some (some .nil, (t.drop (i + 1)).drop 1) else Rd.pIn (Rd.pln d) (t.drop (i + 1)) := by
    show Rd.pB (Rd.pln d) (t.drop i) = _
    unfold Rd.pB
    rw [if_pos c]
    simp only [List.drop_drop]
  have hat1 : Rd.At C_NoteReader (Rd.mv C_NoteReader H p dx t (i + 1)) p dx t (i + 1) := upd_same
  have hb1 : Rd.But p H (Rd.mv C_NoteReader H p dx t (i + 1)) := (Rd.But.refl p H).mv _
  refine ⟨_, rfl, iteN (by decide) ⟨dx, _, hat1, Rd.noat _ _ _, p, dx, t, i + 1, 41, by rw [s41], hat1, hl, fun c1 => ⟨_, rfl, iteT ⟨few (by decide), fun b hb => ?_⟩⟩, fun c1 => ⟨_, rfl, iteF ?_⟩⟩⟩
  · rw [if_pos c1] at hp
    have hc1 := congrArg List.length (Rd.hd_eq c1)
    rw [List.length_cons, List.length_drop] at hc1
    refine q2 .nil _ b [] _ hp upd_same rfl ((Same.upd_new hb _) _ _ ?_) ((hb1.mv _).new _ hb)
    rw [show t.length - ((t.drop (i + 1)).drop 1).length = i + 1 + 1 by simp only [List.length_drop] at hc1 ⊢; omega]
    exact upd_same
  rw [if_neg c1] at hp
  refine ⟨dx, _, hat1, Rd.noat _ _ _, p, dx, t, i + 1, d, rfl, rfl, by omega, hat1, hi1, hl, hok1, fun n r1 v1 H2 e1 hv1 hat2 hb2 => ⟨few (by decide), fun L hL => ?_⟩, fun e1 H2 hb2 => qe ?_ _ (hb1.trans hb2)⟩
  rotate_left
  · rw [hp]
    unfold Rd.pIn
    rw [e1]
  have sx1 : Rd.Sx (t.drop (i + 1)) r1 := Rd.pln_sx d _ _ _ e1
  have hr1 : t.drop (t.length - r1.length) = r1 := Rd.drop_at hi1 sx1
  have hl1 : r1.length ≤ t.length - (i + 1) := by have := sx1.len; rw [List.length_drop] at this; omega
  have nLp : L ≠ p := (ne_of_none hat2 hL).symm
  have hp2 : Rd.pbn (d + 1) (t.drop i) = Rd.pClose (Rd.pMore (Rd.pln d) (r1.length + 1) (.cons n .nil) r1) := by
    rw [hp]
    unfold Rd.pIn
    rw [e1]
  generalize hT : Rd.pMore (Rd.pln d) (r1.length + 1) (.cons n .nil) r1 = TOT at hp2
  have hbA : Rd.But p H H2 := hb1.trans hb2
  have nL0 : H L = none := hbA.free nLp hL
  refine ⟨fun fm σ H' => ∃ (acc : Rd.Notes) (us : List V) (r : List Nat) (f : Nat), fm = r.length ∧ σ = [some (.ref p), some (.ref L)] ∧ H' L = some (.lst us) ∧ Rd.NotesAt H' acc us ∧ Rd.At C_NoteReader H' p dx t (t.length - r.length) ∧ t.drop (t.length - r.length) = r ∧ Rd.But p H H' ∧ r.length < f ∧ Rd.pMore (Rd.pln d) f acc r = TOT ∧ Rd.Sx (t.drop (i + 1)) r ∧ us.length + r.length ≤ t.length, ⟨r1.length, .cons n .nil, [v1], r1, r1.length + 1, rfl, rfl, upd_same, ⟨v1, [], rfl, hv1.keep (Rd.Same.tups (.upd_new hL _)), rfl⟩, (Same.upd_new hL _) _ _ hat2, hr1, hbA.new _ hL, by omega, hT, sx1, by simp; omega⟩, ?_⟩
  rintro fm σ H' ⟨acc, us, r, f, rfl, rfl, hL', hacc, hat', hdr, hb', hf, hM, sx, hus⟩
  have hcnt : us.length ≤ 2000 := by omega
  obtain ⟨f, rfl⟩ : ∃ f', f = f' + 1 := ⟨f - 1, by omega⟩
  rw [Rd.pMore] at hM
  walk_at "rd"
  refine ⟨dx, _, hat', Rd.noat _ _ _, p, dx, t, _, 44, by rw [s44], hat', hl, fun c => ⟨_, rfl, iteT ?_⟩, fun c => ⟨_, rfl, iteF ?_⟩⟩
  · rw [hdr] at c
    rw [if_pos c] at hM
    have hcl := congrArg List.length (Rd.hd_eq c)
    rw [List.length_cons] at hcl
    have hdr1 : t.drop (t.length - r.length + 1) = r.drop 1 := by rw [← List.drop_drop, hdr]
    have sxd := sx.trans (Rd.Sx.drop c (by decide) (by decide))
    refine ⟨_, fun σ' H3 h => h, .inl ⟨rfl, _, SqL.of (Rd.mvk nLp hL')⟩, dx, _, upd_same, Rd.noat _ _ _, p, dx, t, t.length - r.length + 1, d, rfl, rfl, by omega, upd_same, by omega, hl, by rw [hdr1]; exact sxd.ok hok1, fun n2 r2 v2 H3 e2 hv2 hat3 hb3 => ?_, fun e2 H3 hb3 => qe ?_ _ ((hb'.mv _).trans hb3)⟩
    · rw [hdr1] at e2
      rw [e2] at hM
      dsimp only at hM
      have hL3 : H3 L = some (.lst us) := hb3 L _ nLp (Rd.mvk nLp hL')
      have sx2 := sxd.trans (Rd.pln_sx d _ _ _ e2)
      have hl2 : r2.length < r.length := by have := (Rd.pln_sx d _ _ _ e2).len; omega
      have tp3 : Rd.Tups H3 (upd H3 L (.lst (us ++ [v2]))) := fun c xs e => by rw [upd_ne (ne_of e hL3 (by intro z; cases z))]; exact e
      have tp4 : Rd.Tups H' H3 := fun c xs e => hb3 c _ (ne_of e hat' (by intro z; cases z)) (Rd.mvk (ne_of e hat' (by intro z; cases z)) e)
      refine ⟨us, hL3, Nat.lt_of_le_of_lt hcnt (by decide), r2.length, hl2, acc.snoc n2, us ++ [v2], r2, rfl, rfl, upd_same, ((hacc.keep tp4).keep tp3).snoc (hv2.keep tp3), ?_, Rd.drop_at hi1 sx2, fun b o hb e => ?_, f, by omega, hM, sx2, by rw [List.length_append, List.length_singleton]; omega⟩
      · show upd H3 L _ p = _
        rw [upd_ne nLp.symm]; exact hat3
      · rw [upd_ne (ne_of_none e nL0)]
        exact hb3 b o hb (Rd.mvk hb (hb' b o hb e))
    · rw [hdr1] at e2
      rw [e2] at hM
      rw [hp2, ← hM]
      rfl
  · rw [hdr] at c
    rw [if_neg c] at hM
    refine ⟨dx, _, hat', Rd.noat _ _ _, p, dx, t, _, 41, by rw [s41], hat', hl, fun c1 => ⟨_, rfl, iteN (by decide) ⟨us, .inl ⟨SqL.of (Rd.mvk nLp hL'), fun b hb => ?_⟩⟩⟩, fun c1 => ⟨_, rfl, iteY rfl ⟨few (by decide), qe ?_ _ hb'⟩⟩⟩
    · rw [hdr] at c1
      have hcl := congrArg List.length (Rd.hd_eq c1)
      rw [List.length_cons] at hcl
      have tp2 : Rd.Tups H' (upd (Rd.mv C_NoteReader H' p dx t (t.length - r.length + 1)) b (.tup us)) := fun c xs e => (Same.upd_new hb _) _ _ (Rd.mvk (ne_of e hat' (by intro z; cases z)) e)
      refine q2 acc (r.drop 1) b us _ ?_ upd_same (hacc.keep tp2) ((Same.upd_new hb _) _ _ ?_) ((hb'.mv _).new _ hb)
      · rw [hp2, ← hM]
        unfold Rd.pClose
        dsimp only
        rw [if_pos c1]
      · rw [show t.length - (r.drop 1).length = t.length - r.length + 1 by omega]
        exact upd_same
    · rw [hdr] at c1
      rw [hp2, ← hM]
      unfold Rd.pClose
      dsimp only
      rw [if_neg c1]
end KW
set_option maxHeartbeats 8000000
namespace KW
open PySem L2

variable {g : Gx}
variable {C : Addr}
local macro_rules | `(tactic| walk_at "gn") => `(tactic| simp only [gName, List.set_cons_zero, List.set_cons_succ])

local macro_rules | `(tactic| walk_at "rd") => `(tactic| simp (config := { failIfUnchanged := false, maxSteps := 10000000 }) only [L2.start, cxOf_K, nox_K, List.map_cons, List.map_nil, List.length_cons, List.length_nil, List.cons_append, List.nil_append, List.replicate_succ, List.replicate_zero, Nat.zero_add, Nat.reduceAdd, Nat.reduceSub, Nat.sub_self, tSeq, tIfS, tTest, tOp, tC, tVar, rI0, rI, rU, tUn, tRet, tRetN, tDrop, tNext, tBreak, tCont, tAsg, gName, gNil, gCons, tCons, tNil, tCB, tCall, tTry, tTryAs, tRaise, sFld, tFld, tMake, tMeth, Ends.gone, caught_K, tB, tAnd, tOr, tNot, tAndV, tOrV, tNotV, tIf, tChain, tNoPart, tPart, tSl, tNever, tAug, rIxL, rIxT, rSlL, tLst, tTup, gTup, tRev, tLZ, tConT, tDict0, rBits, rFind, rIn, tBM, tBM0, rAppend, rReverse, rEq, rNe, scal_ii, scal_ss, rCat, rSetL, gSub, ipI, capSt, List.getD_cons_zero, List.getD_cons_succ, decide_true, not_true_eq_false, not_false_eq_true,
  exists_eq_left', exists_eq_left, exists_eq', exists_eq, exists_and_left, and_assoc, Option.some.injEq, V.int.injEq, V.bl.injEq, V.ref.injEq, V.str.injEq, List.getElem?_cons_zero, List.getElem?_cons_succ, List.set_cons_zero, List.set_cons_succ, List.cons.injEq, and_true, true_and, List.append_nil, decide_eq_true_eq, Bool.not_eq_true', decide_eq_false_iff_not, Bool.not_not, Bool.not_true, Bool.not_false, Bool.true_eq_false, Bool.false_eq_true, if_true, if_false, ite_true, ite_false])

theorem str1 (c d : Nat) (s : Str) (e : s = S [d]) : decide (V.str ⟨#[c]⟩ = V.str s) = decide (c = d) := by
  subst e
  by_cases h : c = d
  · subst h; rw [decide_eq_true rfl]; exact decide_eq_true rfl
  · rw [decide_eq_false h, decide_eq_false]
    intro z; injection z with z
    have := S_inj (a := [c]) (b := [d]) z
    injection this with this
    exact h this
def sp_refuse_crowded (CC : Addr) : Sp := fun vs H Q E => ∃ t : List Nat, vs = [.str (S t)] ∧ t.length ≤ 100000 ∧ (t.length ≤ 2000 → Rd.okD 0 t → Q .non H) ∧ (¬ (t.length ≤ 2000 ∧ Rd.okD 0 t) → E (.ref CC) none H)
theorem ok_refuse_crowded {C_CountError : Addr} {C_NoNote : Addr} {C_Crowded : Addr} {C_Twice : Addr} {C_NoRange : Addr} {C_NoteReader : Addr} (R : g.Raw "refuse_crowded" "refuse_crowded" s_refuse_crowded ["text"]) (b_len : g.mg "len" = none) (c_MOST_BRACKETS : g.Con "MOST_BRACKETS" (.int 6)) (c_MOST_SIGNS : g.Con "MOST_SIGNS" (.int 2000)) (x_Crowded : g.mg "Crowded" = some (.ref C_Crowded)) (r_Crowded : PySem.W.excIn g.K C_Crowded veLine "ValueError.__new__" = true) : g.FnX (1) "refuse_crowded" ["text"] (sp_refuse_crowded C_Crowded) := by
  refine R.fnX sc_refuse_crowded (fun vs H Q E h => by obtain ⟨t, rfl, hl, q, qe⟩ := h; rfl) fun f_ cdv A outer s H vs Q E hr h => ?_
  obtain ⟨t, rfl, hl, q, qe⟩ := h
  refine ⟨_, (@pss_cons _ _ _ _ _ (@ps_if _ _ _ _ _ _ _ _ (@pt_cmpR _ _ _ _ _ _ _ _ op_gt (@pe_bf _ _ _ _ _ _ _ _ _ _ b_len call_len_str (@pa_cons _ _ _ _ _ (@pv _ 0 _ _ (by rfl) (by first | exact Or.inl rfl | exact Or.inr (Or.inl rfl) | exact Or.inr (Or.inr rfl)) (by decide) (by decide)) pa_nil (by rfl)) (by decide +kernel) (by rfl) (by rfl) (by decide) (by decide) (by rfl) (by rfl)) (@pe_gc _ _ _ _ _ c_MOST_SIGNS (by rfl) (by rfl) (by decide)) (nomark _)) (@pss_one _ _ _ (@ps_raise _ _ _ _ _ _ _ _ _ _ _ ⟨x_Crowded, r_Crowded⟩ raiseF (@pa_cons _ _ _ _ _ pe_str pa_nil (by rfl)) (by rfl) (by rfl) (by rfl) (by decide) (by rfl) (by rfl))) pss_nil) (@pss_cons _ _ _ _ _ (PS.nox (@ps_set _ _ (1) _ _ _ _ sc_refuse_crowded.nd rfl (Or.inl rfl) pe_int (by rfl) (by first | exact .inl rfl | exact .inr rfl | assumption))) (@pss_one _ _ _ (@ps_for _ _ _ _ _ _ _ _ PassesOwn.leaving rfl (@pi_str _ _ _ _ (@pv _ 0 _ _ (by rfl) (by first | exact Or.inl rfl | exact Or.inr (Or.inl rfl) | exact Or.inr (Or.inr rfl)) (by decide) (by decide))) (@pg_name _ _ (2) _ sc_refuse_crowded.nd rfl (Or.inl rfl) (by first | exact .inl rfl | exact .inr rfl | assumption)) (@pss_cons _ _ _ _ _ (PS.nox (@ps_if _ _ _ _ _ _ _ _ (@pt_cmpR _ _ _ _ _ _ _ _ op_eq (@pv _ 2 _ _ (by rfl) (by first | exact Or.inl rfl | exact Or.inr (Or.inl rfl) | exact Or.inr (Or.inr rfl)) (by decide) (by decide)) pe_str (nomark _)) (@pss_one _ _ _ (@ps_aug _ _ (1) _ _ _ _ _ _ sc_refuse_crowded.nd rfl (Or.inl rfl) pe_int ip_add (by first | exact .inl rfl | exact .inr rfl | assumption))) (@pss_one _ _ _ (@ps_if _ _ _ _ _ _ _ _ (@pt_cmpR _ _ _ _ _ _ _ _ op_eq (@pv _ 2 _ _ (by rfl) (by first | exact Or.inl rfl | exact Or.inr (Or.inl rfl) | exact Or.inr (Or.inr rfl)) (by decide) (by decide)) pe_str (nomark _)) (@pss_one _ _ _ (@ps_aug _ _ (1) _ _ _ _ _ _ sc_refuse_crowded.nd rfl (Or.inl rfl) pe_int ip_sub (by first | exact .inl rfl | exact .inr rfl | assumption))) pss_nil)))) (@pss_one _ _ _ (@ps_if _ _ _ _ _ _ _ _ (@pt_cmpR _ _ _ _ _ _ _ _ op_gt (@pv _ 1 _ _ (by rfl) (by first | exact Or.inl rfl | exact Or.inr (Or.inl rfl) | exact Or.inr (Or.inr rfl)) (by decide) (by decide)) (@pe_gc _ _ _ _ _ c_MOST_BRACKETS (by rfl) (by rfl) (by decide)) (nomark _)) (@pss_one _ _ _ (@ps_raise _ _ _ _ _ _ _ _ _ _ _ ⟨x_Crowded, r_Crowded⟩ raiseF (@pa_cons _ _ _ _ _ pe_str pa_nil (by rfl)) (by rfl) (by rfl) (by rfl) (by decide) (by rfl) (by rfl))) pss_nil))) (by intro _; rfl))))), ?_⟩
  have hsl := S_len t
  walk_at "rd"
  refine ⟨few (by omega), ite2 (fun c => ⟨few (by decide), qe (by omega)⟩) fun c => ?_⟩
  refine ⟨_, rfl, S t, rfl, for_str (fun i σ H' => H' = H ∧ ∃ o, σ = [some (.str (S t)), some (.int (Rd.endD 0 (t.take i))), o] ∧ (Rd.okD 0 t ↔ Rd.okD (Rd.endD 0 (t.take i)) (t.drop i))) ⟨rfl, none, rfl, Iff.rfl⟩ ?_ ?_⟩
  · rintro i c σ H' hc ⟨rfl, o, rfl, hk⟩
    rw [S_list] at hc
    obtain ⟨hi, hc⟩ := List.getElem?_eq_some_iff.mp hc
    have e1 : t.drop i = c :: t.drop (i + 1) := by rw [List.drop_eq_getElem_cons hi, hc]
    rw [e1] at hk
    have e2 : Rd.endD 0 (t.take (i + 1)) = Rd.stepD (Rd.endD 0 (t.take i)) c := by
      rw [List.take_succ_eq_append_getElem hi, hc, Rd.endD_append]; rfl
    have d1 : (({ cps := #[c] } : Str) = Str.ofString "(") ↔ c = 40 := by
      have := str1 c 40 "(" (by decide +kernel)
      rw [decide_eq_decide] at this
      exact ⟨fun z => this.mp (by rw [z]), fun z => by have := this.mpr z; injection this⟩
    have d2 : (({ cps := #[c] } : Str) = Str.ofString ")") ↔ c = 41 := by
      have := str1 c 41 ")" (by decide +kernel)
      rw [decide_eq_decide] at this
      exact ⟨fun z => this.mp (by rw [z]), fun z => by have := this.mpr z; injection this⟩
    have key : ∀ e : Int, e = Rd.stepD (Rd.endD 0 (t.take i)) c → (if 6 < e then 1 ≤ sizeLine ∧ E (Value.ref C_Crowded) none H' else e = Rd.endD 0 (List.take (i + 1) t) ∧ (Rd.okD 0 t ↔ Rd.okD (Rd.endD 0 (List.take (i + 1) t)) (List.drop (i + 1) t))) := by
      intro e he
      refine ite2 (fun c6 => ⟨few (by decide), qe fun z => ?_⟩) fun c6 => ⟨by rw [e2, he], hk.trans ⟨fun z => by rw [e2]; exact z.2, fun z => ⟨by rw [he] at c6; omega, by rw [e2] at z; exact z⟩⟩⟩
      have := (hk.mp z.2).1
      rw [he] at c6
      omega
    walk_at "rd"
    refine ite2 (fun c1 => key _ ?_) fun c1 => ite2 (fun c2 => key _ ?_) fun c2 => key _ ?_
    · unfold Rd.stepD
      rw [if_pos (d1.mp c1)]
    · unfold Rd.stepD
      rw [if_neg (fun z => c1 (d1.mpr z)), if_pos (d2.mp c2)]
    · unfold Rd.stepD
      rw [if_neg (fun z => c1 (d1.mpr z)), if_neg (fun z => c2 (d2.mpr z))]
  · rintro σ H' ⟨rfl, o, rfl, hk⟩
    rw [List.drop_of_length_le (by rw [S_list]; exact Nat.le_refl _)] at hk
    exact q (by omega) (hk.mpr trivial)
end KW
set_option maxHeartbeats 8000000
namespace KW
open PySem L2

variable {g : Gx}
variable {C : Addr}
local macro_rules | `(tactic| walk_at "gn") => `(tactic| simp only [gName, List.set_cons_zero, List.set_cons_succ])

local macro_rules | `(tactic| walk_at "rd") => `(tactic| simp (config := { failIfUnchanged := false, maxSteps := 10000000 }) only [L2.start, cxOf_K, nox_K, List.map_cons, List.map_nil, List.length_cons, List.length_nil, List.cons_append, List.nil_append, List.replicate_succ, List.replicate_zero, Nat.zero_add, Nat.reduceAdd, Nat.reduceSub, Nat.sub_self, tSeq, tIfS, tTest, tOp, tC, tVar, rI0, rI, rU, tUn, tRet, tRetN, tDrop, tNext, tBreak, tCont, tAsg, gName, gNil, gCons, tCons, tNil, tCB, tCall, tTry, tTryAs, tRaise, sFld, tFld, tMake, tMeth, Ends.gone, caught_K, tB, tAnd, tOr, tNot, tAndV, tOrV, tNotV, tIf, tChain, tNoPart, tPart, tSl, tNever, tAug, rIxL, rIxT, rSlL, tLst, tTup, gTup, tRev, tLZ, tConT, tDict0, rBits, rFind, rIn, tBM, tBM0, rAppend, rReverse, rEq, rNe, scal_ii, scal_ss, rCat, rSetL, gSub, ipI, capSt, List.getD_cons_zero, List.getD_cons_succ, decide_true, not_true_eq_false, not_false_eq_true,
  exists_eq_left', exists_eq_left, exists_eq', exists_eq, exists_and_left, and_assoc, Option.some.injEq, V.int.injEq, V.bl.injEq, V.ref.injEq, V.str.injEq, List.getElem?_cons_zero, List.getElem?_cons_succ, List.set_cons_zero, List.set_cons_succ, List.cons.injEq, and_true, true_and, List.append_nil, decide_eq_true_eq, Bool.not_eq_true', decide_eq_false_iff_not, Bool.not_not, Bool.not_true, Bool.not_false, Bool.true_eq_false, Bool.false_eq_true, if_true, if_false, ite_true, ite_false])

def sp_read_note (CN CC : Addr) : Sp := fun vs H Q E => ∃ t : List Nat, vs = [.str (S t)] ∧ t.length ≤ 100000 ∧ (¬ (t.length ≤ 2000 ∧ Rd.okD 0 t) → E (.ref CC) none H) ∧ (t.length ≤ 2000 → Rd.okD 0 t → Rd.parse t = none → ∀ H', Same H H' → E (.ref CN) none H') ∧ (∀ n v H', t.length ≤ 2000 → Rd.okD 0 t → Rd.parse t = some n → Rd.NoteAt H' n v → Same H H' → Q v H')
theorem ok_read_note {k : Nat} {C_CountError : Addr} {C_NoNote : Addr} {C_Crowded : Addr} {C_Twice : Addr} {C_NoRange : Addr} {C_NoteReader : Addr} (R : g.Raw "read_note" "read_note" s_read_note ["text"]) (F_refuse_crowded : g.FnX k "refuse_crowded" ["text"] (sp_refuse_crowded C_Crowded)) {j_NoteReader___init__ : Nat} (F_NoteReader___init__ : g.Ma j_NoteReader___init__ "NoteReader" C_NoteReader ["self", "text"] (Rd.spInit C_NoteReader)) (h_NoteReader___init__ : j_NoteReader___init__ + 1 ≤ k) (F_NoteReader_labelled_note : g.MeX k C_NoteReader "labelled_note" ["self"] (Rd.spLNx C_NoteReader C_NoNote 7)) (F_NoteReader_at_end : g.Me k C_NoteReader "at_end" ["self"] (Rd.spEnd C_NoteReader)) (b_isinstance : g.mg "isinstance" = none) (b_str : g.mg "str" = none) (cl_NoteReader : Cls g.K C_NoteReader) (n_NoteReader_text : NoAttr g.K C_NoteReader "text") (n_NoteReader_place : NoAttr g.K C_NoteReader "place") (x_NoNote : g.mg "NoNote" = some (.ref C_NoNote)) (r_NoNote : PySem.W.excIn g.K C_NoNote veLine "ValueError.__new__" = true) : g.FnX (k + 1) "read_note" ["text"] (sp_read_note C_NoNote C_Crowded) := by
  refine R.fnX sc_read_note (fun vs H Q E h => by obtain ⟨t, rfl, hl, qc, qn, q⟩ := h; rfl) fun f_ cdv A outer s H vs Q E hr h => ?_
  obtain ⟨t, rfl, hl, qc, qn, q⟩ := h
  refine ⟨_, (@pss_cons _ _ _ _ _ (@ps_if _ _ _ _ _ _ _ _ (@pt_not _ _ _ _ (@pt_val _ _ _ (@pe_bf _ _ _ _ _ _ _ _ _ _ b_isinstance call_isinst (@pa_cons _ _ _ _ _ (@pv _ 0 _ _ (by rfl) (by first | exact Or.inl rfl | exact Or.inr (Or.inl rfl) | exact Or.inr (Or.inr rfl)) (by decide) (by decide)) (@pa_cons _ _ _ _ _ (@pe_bn _ _ _ _ ("str") b_str (by decide +kernel) (by rfl) (by rfl) (by decide) (by decide)) pa_nil (by rfl)) (by rfl)) (by decide +kernel) (by rfl) (by rfl) (by decide) (by decide) (by rfl) (by rfl)) (by intro _; rfl))) (@pss_one _ _ _ (@ps_raise _ _ _ _ _ _ _ _ _ _ _ ⟨x_NoNote, r_NoNote⟩ raiseF (@pa_cons _ _ _ _ _ pe_str pa_nil (by rfl)) (by rfl) (by rfl) (by rfl) (by decide) (by rfl) (by rfl))) pss_nil) (@pss_cons _ _ _ _ _ (@ps_expr _ _ _ _ (@pe_fnX _ _ _ _ _ _ _ _ _ _ _ _ _ F_refuse_crowded hr passF (@pa_cons _ _ _ _ _ (@pv _ 0 _ _ (by rfl) (by first | exact Or.inl rfl | exact Or.inr (Or.inl rfl) | exact Or.inr (Or.inr rfl)) (by decide) (by decide)) pa_nil (by rfl)) (by omega) (by rfl) (by rfl) (by decide) (by rfl) (by rfl)) (by rfl)) (@pss_cons _ _ _ _ _ (PS.nox (@ps_set _ _ (1) _ _ _ _ sc_read_note.nd rfl (Or.inl rfl) (@pe_ma _ _ _ _ _ _ _ _ _ _ _ _ _ F_NoteReader___init__ hr (@pa_cons _ _ _ _ _ (@pv _ 0 _ _ (by rfl) (by first | exact Or.inl rfl | exact Or.inr (Or.inl rfl) | exact Or.inr (Or.inr rfl)) (by decide) (by decide)) pa_nil (by rfl)) (by omega) (by rfl) (by rfl) (by decide) (by rfl) (by rfl)) (by rfl) (by first | exact .inl rfl | exact .inr rfl | assumption))) (@pss_cons _ _ _ _ _ (@ps_set _ _ (2) _ _ _ _ sc_read_note.nd rfl (Or.inl rfl) (pe_meX0 F_NoteReader_labelled_note cl_NoteReader hr passF (@pv _ 1 _ _ (by rfl) (by first | exact Or.inl rfl | exact Or.inr (Or.inl rfl) | exact Or.inr (Or.inr rfl)) (by decide) (by decide))) (by rfl) (by first | exact .inl rfl | exact .inr rfl | assumption)) (@pss_cons _ _ _ _ _ (@ps_if _ _ _ _ _ _ _ _ (@pt_not _ _ _ _ (@pt_val _ _ _ (@pe_me0 _ _ _ _ _ _ _ _ _ _ _ _ _ F_NoteReader_at_end cl_NoteReader hr (@pv _ 1 _ _ (by rfl) (by first | exact Or.inl rfl | exact Or.inr (Or.inl rfl) | exact Or.inr (Or.inr rfl)) (by decide) (by decide)) (by omega) (by rfl) (by rfl)) (by intro _; rfl))) (@pss_one _ _ _ (@ps_raise _ _ _ _ _ _ _ _ _ _ _ ⟨x_NoNote, r_NoNote⟩ raiseF (@pa_cons _ _ _ _ _ pe_str pa_nil (by rfl)) (by rfl) (by rfl) (by rfl) (by decide) (by rfl) (by rfl))) pss_nil) (@pss_one _ _ _ (PS.nox (@ps_ret _ _ _ _ (@pv _ 2 _ _ (by rfl) (by first | exact Or.inl rfl | exact Or.inr (Or.inl rfl) | exact Or.inr (Or.inr rfl)) (by decide) (by decide)))))))))), ?_⟩
  walk_at "rd"
  refine ⟨_, rfl, _, .str _, true, rfl, iteN (by decide) ⟨t, rfl, hl, fun h1 h2 => ?_, fun h => qc h⟩⟩
  intro x dx hx hdx hne
  have back : ∀ H2, Rd.But x (Rd.mv C_NoteReader (upd (upd H dx (HO.own x)) x (HO.ins C_NoteReader dx [])) x dx t 0) H2 → Same H H2 := fun H2 hb b o e => by
    refine hb b o (ne_of_none e hx) ?_
    show upd (upd (upd H dx _) x _) x _ b = _
    rw [upd_ne (ne_of_none e hx), upd_ne (ne_of_none e hx), upd_ne (ne_of_none e hdx)]
    exact e
  refine ⟨x, dx, t, rfl, upd_same, rfl, dx, _, upd_same, Rd.noat _ _ _, x, dx, t, 0, 6, rfl, rfl, by omega, upd_same, Nat.zero_le _, h1, by simpa using h2, fun n r v H2 e hv ha hb => ⟨dx, _, ha, Rd.noat _ _ _, x, dx, t, _, rfl, ha, h1, _, rfl, ?_⟩, fun e H2 hb => qn h1 h2 ?_ H2 (back H2 hb)⟩
  · rw [List.drop_zero] at e
    have hrl := (Rd.pln_sx 6 _ _ _ e).len
    refine ite2 (fun c => ⟨few (by decide), qn h1 h2 ?_ H2 (back H2 hb)⟩) fun c => q n v H2 h1 h2 ?_ hv (back H2 hb)
    · unfold Rd.parse
      rw [e]
      cases r with
      | nil => exact absurd c (by simp)
      | cons a r => rfl
    · unfold Rd.parse
      rw [e]
      cases r with
      | nil => rfl
      | cons a r =>
        refine (c (decide_eq_false ?_)).elim
        rw [List.length_cons] at hrl ⊢
        omega
  · rw [List.drop_zero] at e
    unfold Rd.parse
    rw [e]
    rfl
end KW
set_option maxHeartbeats 8000000
namespace KW
open PySem L2

variable {g : Gx}
variable {C : Addr}
local macro_rules | `(tactic| walk_at "gn") => `(tactic| simp only [gName, List.set_cons_zero, List.set_cons_succ])

local macro_rules | `(tactic| walk_at "rd") => `(tactic| simp (config := { failIfUnchanged := false, maxSteps := 10000000 }) only [L2.start, cxOf_K, nox_K, List.map_cons, List.map_nil, List.length_cons, List.length_nil, List.cons_append, List.nil_append, List.replicate_succ, List.replicate_zero, Nat.zero_add, Nat.reduceAdd, Nat.reduceSub, Nat.sub_self, tSeq, tIfS, tTest, tOp, tC, tVar, rI0, rI, rU, tUn, tRet, tRetN, tDrop, tNext, tBreak, tCont, tAsg, gName, gNil, gCons, tCons, tNil, tCB, tCall, tTry, tTryAs, tRaise, sFld, tFld, tMake, tMeth, Ends.gone, caught_K, tB, tAnd, tOr, tNot, tAndV, tOrV, tNotV, tIf, tChain, tNoPart, tPart, tSl, tNever, tAug, rIxL, rIxT, rSlL, tLst, tTup, gTup, tRev, tLZ, tConT, tDict0, rBits, rFind, rIn, tBM, tBM0, rAppend, rReverse, rEq, rNe, scal_ii, scal_ss, rCat, rSetL, gSub, ipI, capSt, List.getD_cons_zero, List.getD_cons_succ, decide_true, not_true_eq_false, not_false_eq_true,
  exists_eq_left', exists_eq_left, exists_eq', exists_eq, exists_and_left, and_assoc, Option.some.injEq, V.int.injEq, V.bl.injEq, V.ref.injEq, V.str.injEq, List.getElem?_cons_zero, List.getElem?_cons_succ, List.set_cons_zero, List.set_cons_succ, List.cons.injEq, and_true, true_and, List.append_nil, decide_eq_true_eq, Bool.not_eq_true', decide_eq_false_iff_not, Bool.not_not, Bool.not_true, Bool.not_false, Bool.true_eq_false, Bool.false_eq_true, if_true, if_false, ite_true, ite_false])

namespace Rd
/-! ### texts without brackets, commas and colons within brackets -/
def plainc (c : Nat) : Prop := c ≠ 40 ∧ c ≠ 41 ∧ c ≠ 44 ∧ c ≠ 58
def Plain (a : List Nat) : Prop := ∀ c ∈ a, plainc c
def goodW (a : List Nat) : Bool := a.all isWS && wordOk a
theorem tw_app {a r : List Nat} {z : Nat} (h : ∀ c ∈ a, isWS c = true) (hz : isWS z = false) : (a ++ z :: r).takeWhile isWS = a ∧ (a ++ z :: r).dropWhile isWS = z :: r := by
  rw [List.takeWhile_append_of_pos h, List.dropWhile_append_of_pos h, List.takeWhile_cons_of_neg (by simp [hz]), List.dropWhile_cons_of_neg (by simp [hz])]
  simp
theorem split_ws : ∀ {a : List Nat}, ¬ (∀ c ∈ a, isWS c = true) → ∃ w c a2, a = w ++ c :: a2 ∧ (∀ x ∈ w, isWS x = true) ∧ isWS c = false
  | [], h => (h fun c hc => by cases hc).elim
  | x :: a, h => by
    by_cases hx : isWS x = true
    · obtain ⟨w, c, a2, e, h1, h2⟩ := split_ws (a := a) fun z => h fun c hc => by
        rcases List.mem_cons.mp hc with rfl | hc
        · exact hx
        · exact z c hc
      refine ⟨x :: w, c, a2, by rw [e]; rfl, fun y hy => ?_, h2⟩
      rcases List.mem_cons.mp hy with rfl | hy
      · exact hx
      · exact h1 y hy
    · exact ⟨[], x, a, rfl, fun y hy => (by cases hy), by simpa using hx⟩
theorem pW_leaf {pl : PL} {l w r : List Nat} {z : Nat} (hz : z ≠ 40) : pW (pB pl) l w (z :: r) = if wordOk w = true then some (.leaf l w, z :: r) else none := by
  have : pB pl (z :: r) = some (none, z :: r) := by
    unfold pB
    rw [if_neg]
    intro h
    exact hz (Option.some.inj h)
  unfold pW
  rw [this]
  rfl
theorem pL_plain {pl : PL} {a r : List Nat} {z : Nat} (hz : z = 41 ∨ z = 44) (h : Plain a) : (goodW a = true ∧ pL (pB pl) (a ++ z :: r) = some (.leaf [] a, z :: r)) ∨ (goodW a = false ∧ (pL (pB pl) (a ++ z :: r) = none ∨ ∃ n c r', plainc c ∧ pL (pB pl) (a ++ z :: r) = some (n, c :: r'))) := by
  have hz1 : isWS z = false := by rcases hz with rfl | rfl <;> decide
  have hz2 : z ≠ 40 ∧ z ≠ 58 := by rcases hz with rfl | rfl <;> decide
  by_cases hw : ∀ c ∈ a, isWS c = true
  · obtain ⟨e1, e2⟩ := tw_app (r := r) hw hz1
    have e : pL (pB pl) (a ++ z :: r) = if wordOk a = true then some (.leaf [] a, z :: r) else none := by
      unfold pL
      rw [e1, e2, if_neg (show ¬ (z :: r).head? = some 58 from fun h => hz2.2 (Option.some.inj h)), pW_leaf hz2.1]
    have ea : a.all isWS = true := List.all_eq_true.mpr hw
    by_cases hk : wordOk a = true
    · exact .inl ⟨by unfold goodW; rw [ea, hk]; rfl, by rw [e, if_pos hk]⟩
    · exact .inr ⟨by unfold goodW; rw [ea]; simpa using hk, .inl (by rw [e, if_neg hk])⟩
  · obtain ⟨w, c, a2, rfl, h1, h2⟩ := split_ws hw
    have hc : plainc c := h c (by simp)
    obtain ⟨e1, e2⟩ := tw_app (r := a2 ++ z :: r) h1 h2
    have e0 : w ++ c :: a2 ++ z :: r = w ++ c :: (a2 ++ z :: r) := by simp
    have e : pL (pB pl) (w ++ c :: a2 ++ z :: r) = if wordOk w = true then some (.leaf [] w, c :: (a2 ++ z :: r)) else none := by
      rw [e0]
      unfold pL
      rw [e1, e2, if_neg (show ¬ (c :: (a2 ++ z :: r)).head? = some 58 from fun h => hc.2.2.2 (Option.some.inj h)), pW_leaf hc.1]
    have eg : goodW (w ++ c :: a2) = false := by
      unfold goodW
      rw [List.all_append, List.all_cons, h2]
      simp
    refine .inr ⟨eg, ?_⟩
    by_cases hk : wordOk w = true
    · exact .inr ⟨_, c, _, hc, by rw [e, if_pos hk]⟩
    · exact .inl (by rw [e, if_neg hk])
theorem close_bad {pl : PL} {f : Nat} {acc : Notes} {c : Nat} {r : List Nat} (hc : plainc c) : pClose (pMore pl (f + 1) acc (c :: r)) = none := by
  rw [pMore, if_neg (show ¬ (c :: r).head? = some 44 from fun h => hc.2.2.1 (Option.some.inj h))]
  unfold pClose
  dsimp only
  rw [if_neg (show ¬ (c :: r).head? = some 41 from fun h => hc.2.1 (Option.some.inj h))]
theorem close_ok {pl : PL} {f : Nat} {acc : Notes} {r : List Nat} : pClose (pMore pl (f + 1) acc (41 :: r)) = some (some acc, r) := by
  rw [pMore, if_neg (by simp)]
  unfold pClose
  dsimp only
  rw [if_pos (show (41 :: r).head? = some 41 from rfl)]
  rfl
theorem pL_open {pl : PL} {h x : List Nat} (hh : goodW h = true) (hx : x.head? ≠ some 41) : pL (pB pl) (h ++ 40 :: x) = pPut [] h (pIn pl x) := by
  have hw : ∀ c ∈ h, isWS c = true := List.all_eq_true.mp ((Bool.and_eq_true _ _).mp hh).1
  have hk : wordOk h = true := ((Bool.and_eq_true _ _).mp hh).2
  obtain ⟨e1, e2⟩ := tw_app (r := x) hw (show isWS 40 = false by decide)
  have e3 : pB pl (40 :: x) = pIn pl x := by
    unfold pB
    rw [if_pos (show (40 :: x).head? = some 40 from rfl), if_neg (show ¬ (List.drop 1 (40 :: x)).head? = some 41 from hx)]
    rfl
  unfold pL
  rw [e1, e2, if_neg (show ¬ (40 :: x).head? = some 58 by simp)]
  unfold pW
  rw [if_pos hk, e3]
theorem pMore_comma {pl : PL} {f : Nat} {acc : Notes} {r : List Nat} : pMore pl (f + 1) acc (44 :: r) = match pl r with
    | some (n, r') => pMore pl f (acc.snoc n) r'
    | none => none := by
  rw [pMore, if_pos (show (44 :: r).head? = some 44 from rfl)]
  rfl
/-- a word and, in brackets, two -/
theorem parse_two {h a b : List Nat} (hh : goodW h = true) (ha : Plain a) (hb : Plain b) : parse (h ++ 40 :: (a ++ 44 :: (b ++ [41]))) = if (goodW a && goodW b) = true then some (.node [] h (.cons (.leaf [] a) (.cons (.leaf [] b) .nil))) else none := by
  have n41 : (a ++ 44 :: (b ++ [41])).head? ≠ some 41 := by
    cases a with
    | nil => simp
    | cons x a => intro z; exact (ha x (by simp)).2.1 (Option.some.inj z)
  have ep : pln 6 (h ++ 40 :: (a ++ 44 :: (b ++ [41]))) = pPut [] h (pIn (pL (pB (pL (pbn 4)))) (a ++ 44 :: (b ++ [41]))) := pL_open hh n41
  unfold parse
  rw [ep]
  generalize pL (pbn 4) = pl
  unfold pIn
  rcases pL_plain (pl := pl) (a := a) (r := b ++ [41]) (z := 44) (.inr rfl) ha with ⟨g, e⟩ | ⟨g, e | ⟨n, c, r', hc, e⟩⟩
  · rw [e, g, Bool.true_and]
    dsimp only
    rw [pMore_comma]
    rcases pL_plain (pl := pl) (a := b) (r := []) (z := 41) (.inl rfl) hb with ⟨g2, e3⟩ | ⟨g2, e3 | ⟨n, c, r', hc, e3⟩⟩
    · rw [e3, g2]
      dsimp only
      rw [if_pos rfl, List.length_cons, close_ok]
      rfl
    · rw [e3, g2]
      rfl
    · rw [e3, g2]
      dsimp only
      rw [List.length_cons, close_bad hc]
      rfl
  · rw [e, g]
    rfl
  · rw [e, g]
    dsimp only
    rw [close_bad hc]
    rfl
/-- a word and, in brackets, one -/
theorem parse_one {h a : List Nat} (hh : goodW h = true) (ha : goodW a = true) : parse (h ++ 40 :: (a ++ [41])) = some (.node [] h (.cons (.leaf [] a) .nil)) := by
  have hwa : ∀ c ∈ a, isWS c = true := List.all_eq_true.mp ((Bool.and_eq_true _ _).mp ha).1
  have hp : Plain a := fun c hc => ws_plain (hwa c hc)
  have n41 : (a ++ [41]).head? ≠ some 41 := by
    cases a with
    | nil => exact absurd ha (by decide)
    | cons x a => intro z; exact (hp x (by simp)).2.1 (Option.some.inj z)
  have ep : pln 6 (h ++ 40 :: (a ++ [41])) = pPut [] h (pIn (pL (pB (pL (pbn 4)))) (a ++ [41])) := pL_open hh n41
  unfold parse
  rw [ep]
  generalize pL (pbn 4) = pl
  unfold pIn
  rcases pL_plain (pl := pl) (a := a) (r := []) (z := 41) (.inl rfl) hp with ⟨g, e⟩ | ⟨g, _⟩
  · rw [e]
    dsimp only
    rw [close_ok]
    rfl
  · rw [g] at ha; cases ha
theorem okD_in {h a : List Nat} (hh : ∀ c ∈ h, c ≠ 40 ∧ c ≠ 41) (ha : ∀ c ∈ a, c ≠ 40 ∧ c ≠ 41) : okD 0 (h ++ 40 :: (a ++ [41])) := by
  obtain ⟨x1, x2⟩ := plain_d h 0 hh (by decide)
  obtain ⟨y1, y2⟩ := plain_d a 1 ha (by decide)
  refine okD_append _ _ _ x2 ?_
  rw [x1]
  refine ⟨by decide, ?_⟩
  show okD 1 (a ++ [41])
  refine okD_append _ _ _ y2 ?_
  rw [y1]
  exact ⟨by decide, trivial⟩
end Rd
/-! ### words of numbers -/
def numB (w : List Nat) : Bool := w == [48] || (decide (1 ≤ (if w.head? = some 45 then w.drop 1 else w).length) && decide ((if w.head? = some 45 then w.drop 1 else w).length ≤ 60) && !((if w.head? = some 45 then w.drop 1 else w).head? == some 48) && (if w.head? = some 45 then w.drop 1 else w).all Rd.isFig)
theorem digits_dg : ∀ (k : Nat) (f : List Nat), f.length = k → 1 ≤ k → (∀ c ∈ f, 48 ≤ c ∧ c ≤ 57) → (f.head? ≠ some 48 ∨ k = 1) → ∃ n : Nat, dg (n : Int) = f ∧ n < 10 ^ k
  | 0, _, _, h, _, _ => by omega
  | 1, f, hl, _, hd, _ => by
    match f, hl with
    | [c], _ =>
      obtain ⟨h1, h2⟩ := hd c (by simp)
      have key : ∀ d : Nat, d < 10 → dg (d : Int) = [48 + d] := by
        intro d hd
        rw [dg_nat, Nat.toDigits_of_lt_base hd]
        have : ∀ d : Nat, d < 10 → (Nat.digitChar d).toNat = 48 + d := by decide
        rw [List.map_cons, List.map_nil, this d hd]
      refine ⟨c - 48, ?_, by omega⟩
      rw [key (c - 48) (by omega)]
      congr 1
      omega
  | k + 2, f, hl, _, hd, hh => by
    have hne : f ≠ [] := by intro z; rw [z] at hl; simp at hl
    obtain ⟨g, c, rfl⟩ : ∃ g c, f = g ++ [c] := ⟨f.dropLast, f.getLast hne, (List.dropLast_concat_getLast hne).symm⟩
    rw [List.length_append, List.length_singleton] at hl
    have hg : g.head? ≠ some 48 := by
      rcases hh with hh | hh
      · cases g with
        | nil => simp
        | cons x g => exact hh
      · omega
    obtain ⟨n, e, hn⟩ := digits_dg (k + 1) g (by omega) (by omega) (fun x hx => hd x (by simp [hx])) (.inl hg)
    obtain ⟨h1, h2⟩ := hd c (by simp)
    have hn0 : 0 < n := by
      rcases Nat.eq_zero_or_pos n with z | z
      · subst z
        have e0 : dg ((0 : Nat) : Int) = [48] := by decide +kernel
        rw [e0] at e
        rw [← e] at hg
        exact (hg rfl).elim
      · exact z
    refine ⟨10 * n + (c - 48), ?_, ?_⟩
    · rw [dg_nat, ← Nat.toDigits_append_toDigits (by decide) hn0 (by omega), List.map_append, ← dg_nat, e, Nat.toDigits_of_lt_base (by omega)]
      have : ∀ d : Nat, d < 10 → (Nat.digitChar d).toNat = 48 + d := by decide
      rw [List.map_cons, List.map_nil, this _ (by omega)]
      congr 2
      omega
    · rw [Nat.pow_succ]
      omega
theorem figs {f : List Nat} (h : f.all Rd.isFig = true) : ∀ c ∈ f, 48 ≤ c ∧ c ≤ 57 := fun c hc => by
  have := List.all_eq_true.mp h c hc
  simpa [Rd.isFig] using this
theorem numB_dg {w : List Nat} (h : numB w = true) : ∃ i : Int, w = dg i ∧ i.natAbs < 10 ^ 60 := by
  unfold numB at h
  rcases (Bool.or_eq_true _ _).mp h with h | h
  · have e : w = [48] := by simpa using h
    refine ⟨0, ?_, by decide⟩
    rw [e]
    decide +kernel
  · simp only [Bool.and_eq_true, decide_eq_true_eq, Bool.not_eq_true', beq_eq_false_iff_ne] at h
    obtain ⟨⟨⟨h1, h2⟩, h3⟩, h4⟩ := h
    by_cases c : w.head? = some 45
    · rw [if_pos c] at h1 h2 h3 h4
      obtain ⟨n, e, hn⟩ := digits_dg _ _ rfl h1 (figs h4) (.inl h3)
      have hn0 : 0 < n := by
        rcases Nat.eq_zero_or_pos n with z | z
        · subst z
          have e0 : dg ((0 : Nat) : Int) = [48] := by decide +kernel
          rw [e0] at e
          rw [← e] at h3
          exact (h3 rfl).elim
        · exact z
      refine ⟨-(n : Int), ?_, ?_⟩
      · rw [dg_neg hn0, e]
        exact Rd.hd_eq c
      · rw [Int.natAbs_neg, Int.natAbs_natCast]
        exact Nat.lt_of_lt_of_le hn (Nat.pow_le_pow_right (by decide) h2)
    · rw [if_neg c] at h1 h2 h3 h4
      obtain ⟨n, e, hn⟩ := digits_dg _ _ rfl h1 (figs h4) (.inl h3)
      refine ⟨(n : Int), e.symm, ?_⟩
      rw [Int.natAbs_natCast]
      exact Nat.lt_of_lt_of_le hn (Nat.pow_le_pow_right (by decide) h2)
theorem fig_ws {c : Nat} (h : Rd.isFig c = true) : Rd.isWS c = true := by simp [Rd.isWS, Rd.isLF, h]
theorem numB_good {w : List Nat} (h : numB w = true) : Rd.goodW w = true := by
  unfold numB at h
  rcases (Bool.or_eq_true _ _).mp h with h | h
  · have e : w = [48] := by simpa using h
    rw [e]; decide
  · simp only [Bool.and_eq_true, decide_eq_true_eq] at h
    obtain ⟨⟨⟨h1, h2⟩, _⟩, h4⟩ := h
    unfold Rd.goodW Rd.wordOk
    rw [Bool.and_eq_true, Bool.and_eq_true, decide_eq_true_eq, decide_eq_true_eq, List.all_eq_true]
    by_cases c : w.head? = some 45
    · rw [if_pos c] at h1 h2 h4
      have e := Rd.hd_eq c
      refine ⟨fun x hx => ?_, ?_, ?_⟩
      · rw [e] at hx
        rcases List.mem_cons.mp hx with rfl | hx
        · decide
        · exact fig_ws (List.all_eq_true.mp h4 x hx)
      · rw [e, List.length_cons]; omega
      · rw [e, List.length_cons]; omega
    · rw [if_neg c] at h1 h2 h4
      exact ⟨fun x hx => fig_ws (List.all_eq_true.mp h4 x hx), h1, by omega⟩
end KW
set_option maxHeartbeats 8000000
namespace KW
open PySem L2

variable {g : Gx}
variable {C : Addr}
local macro_rules | `(tactic| walk_at "gn") => `(tactic| simp only [gName, List.set_cons_zero, List.set_cons_succ])

local macro_rules | `(tactic| walk_at "rd") => `(tactic| simp (config := { failIfUnchanged := false, maxSteps := 10000000 }) only [L2.start, cxOf_K, nox_K, List.map_cons, List.map_nil, List.length_cons, List.length_nil, List.cons_append, List.nil_append, List.replicate_succ, List.replicate_zero, Nat.zero_add, Nat.reduceAdd, Nat.reduceSub, Nat.sub_self, tSeq, tIfS, tTest, tOp, tC, tVar, rI0, rI, rU, tUn, tRet, tRetN, tDrop, tNext, tBreak, tCont, tAsg, gName, gNil, gCons, tCons, tNil, tCB, tCall, tTry, tTryAs, tRaise, sFld, tFld, tMake, tMeth, Ends.gone, caught_K, tB, tAnd, tOr, tNot, tAndV, tOrV, tNotV, tIf, tChain, tNoPart, tPart, tSl, tNever, tAug, rIxL, rIxT, rSlL, tLst, tTup, gTup, tRev, tLZ, tConT, tDict0, rBits, rFind, rIn, tBM, tBM0, rAppend, rReverse, rEq, rNe, scal_ii, scal_ss, rCat, rSetL, gSub, ipI, capSt, List.getD_cons_zero, List.getD_cons_succ, decide_true, not_true_eq_false, not_false_eq_true,
  exists_eq_left', exists_eq_left, exists_eq', exists_eq, exists_and_left, and_assoc, Option.some.injEq, V.int.injEq, V.bl.injEq, V.ref.injEq, V.str.injEq, List.getElem?_cons_zero, List.getElem?_cons_succ, List.set_cons_zero, List.set_cons_succ, List.cons.injEq, and_true, true_and, List.append_nil, decide_eq_true_eq, Bool.not_eq_true', decide_eq_false_iff_not, Bool.not_not, Bool.not_true, Bool.not_false, Bool.true_eq_false, Bool.false_eq_true, if_true, if_false, ite_true, ite_false])

/-- what the law writes: two words in a whole's brackets, one in a text's -/
inductive Src
  | two (a b : List Nat)
  | one (w : List Nat)
/-- a shape -/
inductive Dr
  | whole (i j : Int)
  | text (w : List Nat)
def cW : List Nat := [119, 104, 111, 108, 101]
def cT : List Nat := [116, 101, 120, 116]
theorem s_whole : Str.ofString "whole" = S cW := by decide +kernel
theorem s_text : Str.ofString "text" = S cT := by decide +kernel
def Src.txt : Src → List Nat
  | .two a b => cW ++ 40 :: (a ++ 44 :: (b ++ [41]))
  | .one w => cT ++ 40 :: (w ++ [41])
def Src.note : Src → Rd.Note
  | .two a b => .node [] cW (.cons (.leaf [] a) (.cons (.leaf [] b) .nil))
  | .one w => .node [] cT (.cons (.leaf [] w) .nil)
def Src.ok : Src → Prop
  | .two a b => Rd.Plain a ∧ Rd.Plain b ∧ a.length ≤ 100 ∧ b.length ≤ 100
  | .one w => Rd.goodW w = true
def Says : Src → Dr → Prop
  | .two a b, .whole i j => a = dg i ∧ b = dg j ∧ i.natAbs < 10 ^ 60 ∧ j.natAbs < 10 ^ 60 ∧ numB a = true ∧ numB b = true
  | .one w, .text v => v = w ∧ w.all Rd.isLF = true
  | _, _ => False
def Bad : Src → Prop
  | .two a b => (numB a && numB b) = false
  | .one w => w.all Rd.isLF = false
def DA (H : Hp) : Dr → V → Prop
  | .whole i j, v => ∃ p, v = .ref p ∧ H p = some (.tup [.str (S cW), .int i, .int j])
  | .text w, v => ∃ p, v = .ref p ∧ H p = some (.tup [.str (S cT), .str (S w)])
theorem DA.keep {H H' : Hp} (s : Same H H') : ∀ {d : Dr} {v : V}, DA H d v → DA H' d v
  | .whole _ _, _, ⟨p, e, h⟩ => ⟨p, e, s _ _ h⟩
  | .text _, _, ⟨p, e, h⟩ => ⟨p, e, s _ _ h⟩
def Dr.src : Dr → Src
  | .whole i j => .two (dg i) (dg j)
  | .text w => .one w
/-- no two signs alike -/
def Apart : Dr → Prop
  | .whole _ _ => True
  | .text w => w.Nodup
def Range : Dr → Prop
  | .whole i j => i ≤ j
  | .text _ => True
theorem gW : Rd.goodW cW = true := by decide
theorem gT : Rd.goodW cT = true := by decide
theorem Src.parse {s : Src} (h : s.ok) : Rd.parse s.txt = some s.note ∨ (Rd.parse s.txt = none ∧ Bad s) := by
  cases s with
  | two a b =>
    have e := Rd.parse_two gW h.1 h.2.1
    by_cases c : (Rd.goodW a && Rd.goodW b) = true
    · rw [if_pos c] at e
      exact .inl e
    · rw [if_neg c] at e
      refine .inr ⟨e, ?_⟩
      show (numB a && numB b) = false
      cases h1 : numB a with
      | false => rfl
      | true =>
        cases h2 : numB b with
        | false => rfl
        | true => rw [numB_good h1, numB_good h2] at c; exact (c rfl).elim
  | one w => exact .inl (Rd.parse_one gT h)
theorem Src.okD {s : Src} (h : s.ok) : Rd.okD 0 s.txt := by
  have p1 : ∀ c ∈ cW, c ≠ 40 ∧ c ≠ 41 := by decide
  have p2 : ∀ c ∈ cT, c ≠ 40 ∧ c ≠ 41 := by decide
  cases s with
  | two a b =>
    have := Rd.okD_in (a := a ++ 44 :: b) p1 fun c hc => by
      rcases List.mem_append.mp hc with z | z
      · exact ⟨(h.1 c z).1, (h.1 c z).2.1⟩
      · rcases List.mem_cons.mp z with rfl | z
        · decide
        · exact ⟨(h.2.1 c z).1, (h.2.1 c z).2.1⟩
    simpa [Src.txt] using this
  | one w =>
    have hw : ∀ c ∈ w, Rd.isWS c = true := List.all_eq_true.mp ((Bool.and_eq_true _ _).mp h).1
    exact Rd.okD_in p2 fun c hc => ⟨(Rd.ws_plain (hw c hc)).1, (Rd.ws_plain (hw c hc)).2.1⟩
theorem Src.len {s : Src} (h : s.ok) : s.txt.length ≤ 300 := by
  cases s with
  | two a b =>
    have h3 := h.2.2
    simp only [Src.txt, cW, List.length_append, List.length_cons, List.length_nil]
    omega
  | one w =>
    have h2 := ((Bool.and_eq_true _ _).mp h).2
    have h3 : 1 ≤ w.length ∧ w.length ≤ 62 := by simpa [Rd.wordOk] using h2
    simp only [Src.txt, cT, List.length_append, List.length_cons, List.length_nil]
    omega
end KW
set_option maxHeartbeats 8000000
namespace KW
open PySem L2

variable {g : Gx}
variable {C : Addr}
local macro_rules | `(tactic| walk_at "gn") => `(tactic| simp only [gName, List.set_cons_zero, List.set_cons_succ])

local macro_rules | `(tactic| walk_at "rd") => `(tactic| simp (config := { failIfUnchanged := false, maxSteps := 10000000 }) only [L2.start, cxOf_K, nox_K, List.map_cons, List.map_nil, List.length_cons, List.length_nil, List.cons_append, List.nil_append, List.replicate_succ, List.replicate_zero, Nat.zero_add, Nat.reduceAdd, Nat.reduceSub, Nat.sub_self, tSeq, tIfS, tTest, tOp, tC, tVar, rI0, rI, rU, tUn, tRet, tRetN, tDrop, tNext, tBreak, tCont, tAsg, gName, gNil, gCons, tCons, tNil, tCB, tCall, tTry, tTryAs, tRaise, sFld, tFld, tMake, tMeth, Ends.gone, caught_K, tB, tAnd, tOr, tNot, tAndV, tOrV, tNotV, tIf, tChain, tNoPart, tPart, tSl, tNever, tAug, rIxL, rIxT, rSlL, tLst, tTup, gTup, tRev, tLZ, tConT, tDict0, rBits, rFind, rIn, tBM, tBM0, rAppend, rReverse, rEq, rNe, scal_ii, scal_ss, rCat, rSetL, gSub, ipI, capSt, List.getD_cons_zero, List.getD_cons_succ, decide_true, not_true_eq_false, not_false_eq_true,
  exists_eq_left', exists_eq_left, exists_eq', exists_eq, exists_and_left, and_assoc, Option.some.injEq, V.int.injEq, V.bl.injEq, V.ref.injEq, V.str.injEq, List.getElem?_cons_zero, List.getElem?_cons_succ, List.set_cons_zero, List.set_cons_succ, List.cons.injEq, and_true, true_and, List.append_nil, decide_eq_true_eq, Bool.not_eq_true', decide_eq_false_iff_not, Bool.not_not, Bool.not_true, Bool.not_false, Bool.true_eq_false, Bool.false_eq_true, if_true, if_false, ite_true, ite_false])

def sp_is_number_word (K : PySem.W.Frag) : Sp := fun vs H Q _ => ∃ w : List Nat, vs = [.str (S w)] ∧ w.length ≤ 1000 ∧ ∀ H', Same H H' → Q (.bl (numB w)) H'
theorem sw45 (w : List Nat) : Txt.startswith (S w) (S [45]) = decide (w.head? = some 45) := by
  cases w with
  | nil => decide +kernel
  | cons a l =>
    have : Txt.startswith (S (a :: l)) (S [45]) = decide (a = 45) := by
      simp [Txt.startswith, Builtin.Str.subAt, S, Str.length]
      rfl
    rw [this]
    simp
theorem ok_is_number_word {k : Nat} {C_CountError : Addr} {C_NoNote : Addr} {C_Crowded : Addr} {C_Twice : Addr} {C_NoRange : Addr} {C_NoteReader : Addr} (R : g.Raw "is_number_word" "is_number_word" s_is_number_word ["word"]) (F_is_figure : g.Fn k "is_figure" ["sign"] (Rd.spSign Rd.isFig)) (b_all : g.mg "all" = none) (b_len : g.mg "len" = none) (c_MOST_FIGURES : g.Con "MOST_FIGURES" (.int 60)) : g.Fn (k + 1) "is_number_word" ["word"] (sp_is_number_word g.K) := by
  refine R.fn sc_is_number_word (fun vs H Q E h => by obtain ⟨w, rfl, hl, q⟩ := h; rfl) fun f_ cdv A outer s H vs Q E hr h => ?_
  obtain ⟨w, rfl, hl, q⟩ := h
  refine ⟨_, (@pss_cons _ _ _ _ _ (@ps_if _ _ _ _ _ _ _ _ (@pt_cmpR _ _ _ _ _ _ _ _ op_eq (@pv _ 0 _ _ (by rfl) (by first | exact Or.inl rfl | exact Or.inr (Or.inl rfl) | exact Or.inr (Or.inr rfl)) (by decide) (by decide)) pe_str (nomark _)) (@pss_one _ _ _ (@ps_ret _ _ _ _ pe_bl)) pss_nil) (@pss_cons _ _ _ _ _ (@ps_set _ _ (1) _ _ _ _ sc_is_number_word.nd rfl (Or.inl rfl) (@pe_ifExp _ _ _ _ _ _ _ _ (@pt_val _ _ _ (@pe_bm _ _ _ _ _ _ _ _ _ _ _ _ PySem.F.plainAttrs_str PySem.F.slot_str_startswith PySem.F.type_str_startswith mt_starts (@pv _ 0 _ _ (by rfl) (by first | exact Or.inl rfl | exact Or.inr (Or.inl rfl) | exact Or.inr (Or.inr rfl)) (by decide) (by decide)) (@pa_cons _ _ _ _ _ pe_str pa_nil (by rfl)) (by rfl) (by rfl) (by rfl) (by rfl) (by rfl)) (by intro _; rfl)) (@pe_slice _ _ _ _ _ _ _ _ _ _ sl_str (@pv _ 0 _ _ (by rfl) (by first | exact Or.inl rfl | exact Or.inr (Or.inl rfl) | exact Or.inr (Or.inr rfl)) (by decide) (by decide)) (@po_some _ _ _ pe_int) po_none) (@pv _ 0 _ _ (by rfl) (by first | exact Or.inl rfl | exact Or.inr (Or.inl rfl) | exact Or.inr (Or.inr rfl)) (by decide) (by decide))) (by rfl) (by first | exact .inl rfl | exact .inr rfl | assumption)) (@pss_cons _ _ _ _ _ (@ps_if _ _ _ _ _ _ _ _ (@pt_not _ _ _ _ (@pt_chain _ _ _ _ _ _ _ _ _ _ _ _ op_le op_le pe_int (@pe_bf _ _ _ _ _ _ _ _ _ _ b_len call_len_str (@pa_cons _ _ _ _ _ (@pv _ 1 _ _ (by rfl) (by first | exact Or.inl rfl | exact Or.inr (Or.inl rfl) | exact Or.inr (Or.inr rfl)) (by decide) (by decide)) pa_nil (by rfl)) (by decide +kernel) (by rfl) (by rfl) (by decide) (by decide) (by rfl) (by rfl)) (@pe_gc _ _ _ _ _ c_MOST_FIGURES (by rfl) (by rfl) (by decide)) (by with_unfolding_all rfl))) (@pss_one _ _ _ (@ps_ret _ _ _ _ pe_bl)) pss_nil) (@pss_one _ _ _ (@ps_ret _ _ _ _ (@pe_and _ _ _ _ _ _ _ (@pe_cmpR _ _ _ _ _ _ _ _ op_ne (@pe_ix _ _ _ _ _ _ _ ix_str (@pv _ 1 _ _ (by rfl) (by first | exact Or.inl rfl | exact Or.inr (Or.inl rfl) | exact Or.inr (Or.inr rfl)) (by decide) (by decide)) pe_int (fun _ _ => rfl)) pe_str (nomark _)) (@pe_one _ _ _ _ _ (@pe_bf _ _ _ _ _ _ _ _ _ _ b_all (call_all_bools rfl) (@pa_cons _ _ _ _ _ (@pe_lc _ _ _ _ _ _ _ ([none]) ((["sign"] : List Str)) _ (gName 0) _ _ (.own .nil) rfl (@pi_str _ _ _ _ (@pv _ 1 _ _ (by rfl) (by first | exact Or.inl rfl | exact Or.inr (Or.inl rfl) | exact Or.inr (Or.inr rfl)) (by decide) (by decide))) (fun cl C s₀ H₀ fp pn => (@pg_name _ _ (0) _ (show List.Nodup (["sign"] : List Str) by decide +kernel) rfl (Or.inl rfl) (Or.inr rfl))) (fun cl C s₀ H₀ fp pn => pts_nil) (fun cl C s₀ H₀ fp pn => (@pe_fn _ _ _ _ _ _ _ _ _ _ _ _ F_is_figure hr (@pa_cons _ _ _ _ _ (@pv _ 0 _ _ (by rfl) (by first | exact Or.inl rfl | exact Or.inr (Or.inl rfl) | exact Or.inr (Or.inr rfl)) (by decide) (by decide)) pa_nil (by rfl)) (by omega) (by rfl) (by rfl) (by decide) (by rfl) (by rfl))) (by intro x hx; simp at hx) (by rfl) (by decide) (by decide +kernel) (by intro _; rfl)) pa_nil (by rfl)) (by decide +kernel) (by rfl) (by rfl) (by decide) (by decide) (by rfl) (by rfl))))))))), ?_⟩
  have e0 : Str.ofString "0" = S [48] := by decide +kernel
  have em : Str.ofString "-" = S [45] := by decide +kernel
  have hsw := S_len w
  by_cases hz : w = [48]
  · subst hz
    have hq := q H (.refl _)
    rw [show numB [48] = true by decide] at hq
    walk_at "rd"
    exact iteY e0.symm hq
  have hnz : numB w = (decide (1 ≤ (if w.head? = some 45 then w.drop 1 else w).length) && decide ((if w.head? = some 45 then w.drop 1 else w).length ≤ 60) && !((if w.head? = some 45 then w.drop 1 else w).head? == some 48) && (if w.head? = some 45 then w.drop 1 else w).all Rd.isFig) := by
    unfold numB
    rw [show (w == [48]) = false by simpa using hz, Bool.false_or]
  refine cut2 (fun σ H' => σ = [some (.str (S w)), some (.str (S (if w.head? = some 45 then w.drop 1 else w)))] ∧ H' = H) ?_ ?_
  · rintro σ H' ⟨rfl, rfl⟩
    have hfl : (if w.head? = some 45 then w.drop 1 else w).length ≤ 1000 := by
      split
      · rw [List.length_drop]; omega
      · exact hl
    generalize (if w.head? = some 45 then w.drop 1 else w) = f at hnz hfl
    have hsf := S_len f
    walk_at "rd"
    refine ⟨few (by omega), ite2 (fun c1 => ite2 (fun c2 => ?_) fun c2 => ?_) fun c1 => ?_⟩
    · have hq := q H' (.refl _)
      rw [hnz, show decide (f.length ≤ 60) = false from decide_eq_false (by omega)] at hq
      simpa using hq
    · match f, hsf, c1, c2, hnz, hfl with
      | c :: r, hsf, c1, c2, hnz, hfl =>
        refine ⟨_, 0, c, rfl, rfl, few (by omega), ?_, rfl, ite2 (fun cz => ?_) fun cz => ?_⟩
        · rw [S_list]
          exact atI_nat (xs := c :: r) (j := 0) rfl
        · have hc : c ≠ 48 := fun z => cz (by rw [z, e0]; rfl)
          refine tLC_str (l := c :: r) (((c :: r).map Rd.isFig).map V.bl) (fun R r => by walk_at "rd"; exact r) (by simp) (by simp at hfl ⊢; omega) ?_ ?_
          · intro j d y H1 hd hy sm R rr
            rw [List.getElem?_map, List.getElem?_map, hd] at hy
            have : V.bl (Rd.isFig d) = y := Option.some.inj hy
            subst this
            walk_at "rd"
            refine ⟨[d], rfl, by simp, ?_⟩
            rw [show ([d] : List Nat).any Rd.isFig = Rd.isFig d by simp]
            exact rr H1 (.refl _)
          · intro D H1 hD sm hd
            refine ⟨D, rfl, _, SqL.of hd, ?_⟩
            have hq := q H1 sm
            rw [hnz, show decide (1 ≤ (c :: r).length) = true from decide_eq_true (by omega), show decide ((c :: r).length ≤ 60) = true from decide_eq_true (by omega), show ((c :: r).head? == some 48) = false by simpa using hc] at hq
            rw [show ((c :: r).map Rd.isFig).all id = (c :: r).all Rd.isFig by rw [List.all_map]; rfl]
            simpa using hq
        · have hc : c = 48 := by
            have cz' : V.str ⟨#[c]⟩ = V.str (Str.ofString "0") := Classical.not_not.mp cz
            rw [e0] at cz'
            injection cz' with cz'
            have := S_inj (a := [c]) (b := [48]) cz'
            simpa using this
          have hq := q H' (.refl _)
          rw [hnz, show ((c :: r).head? == some 48) = true by simpa using hc] at hq
          simpa using hq
    · have hq := q H' (.refl _)
      rw [hnz, show decide (1 ≤ f.length) = false from decide_eq_false (by omega)] at hq
      simpa using hq
  · intro N hN
    walk_at "rd"
    refine iteN (fun z => hz ?_) ⟨rfl, _, _, rfl, rfl, ?_⟩
    · rw [e0] at z
      exact S_inj z
    · rw [em, sw45]
      refine ⟨_, rfl, ?_⟩
      by_cases c : w.head? = some 45
      · rw [decide_eq_true c]
        rw [if_pos c] at hN
        refine iteY rfl ⟨_, rfl, few (by omega), ?_⟩
        have := cutS_lo w 1
        rw [show ((1 : Nat) : Int) = 1 from rfl] at this
        rw [this]
        exact hN _ _ ⟨rfl, rfl⟩
      · rw [decide_eq_false c]
        rw [if_neg c] at hN
        exact iteN (by decide) (hN _ _ ⟨rfl, rfl⟩)
end KW
set_option maxHeartbeats 8000000
namespace KW
open PySem L2

variable {g : Gx}
variable {C : Addr}
local macro_rules | `(tactic| walk_at "gn") => `(tactic| simp only [gName, List.set_cons_zero, List.set_cons_succ])

local macro_rules | `(tactic| walk_at "rd") => `(tactic| simp (config := { failIfUnchanged := false, maxSteps := 10000000 }) only [L2.start, cxOf_K, nox_K, List.map_cons, List.map_nil, List.length_cons, List.length_nil, List.cons_append, List.nil_append, List.replicate_succ, List.replicate_zero, Nat.zero_add, Nat.reduceAdd, Nat.reduceSub, Nat.sub_self, tSeq, tIfS, tTest, tOp, tC, tVar, rI0, rI, rU, tUn, tRet, tRetN, tDrop, tNext, tBreak, tCont, tAsg, gName, gNil, gCons, tCons, tNil, tCB, tCall, tTry, tTryAs, tRaise, sFld, tFld, tMake, tMeth, Ends.gone, caught_K, tB, tAnd, tOr, tNot, tAndV, tOrV, tNotV, tIf, tChain, tNoPart, tPart, tSl, tNever, tAug, rIxL, rIxT, rSlL, tLst, tTup, gTup, tRev, tLZ, tConT, tDict0, rBits, rFind, rIn, tBM, tBM0, rAppend, rReverse, rEq, rNe, scal_ii, scal_ss, rCat, rSetL, gSub, ipI, capSt, List.getD_cons_zero, List.getD_cons_succ, decide_true, not_true_eq_false, not_false_eq_true,
  exists_eq_left', exists_eq_left, exists_eq', exists_eq, exists_and_left, and_assoc, Option.some.injEq, V.int.injEq, V.bl.injEq, V.ref.injEq, V.str.injEq, List.getElem?_cons_zero, List.getElem?_cons_succ, List.set_cons_zero, List.set_cons_succ, List.cons.injEq, and_true, true_and, List.append_nil, decide_eq_true_eq, Bool.not_eq_true', decide_eq_false_iff_not, Bool.not_not, Bool.not_true, Bool.not_false, Bool.true_eq_false, Bool.false_eq_true, if_true, if_false, ite_true, ite_false])

def sp_lone_word (K : PySem.W.Frag) : Sp := fun vs H Q _ => ∃ (w : List Nat) (v : V), vs = [v] ∧ Rd.NoteAt H (.leaf [] w) v ∧ Q (.str (S w)) H
theorem ok_lone_word {C_CountError : Addr} {C_NoNote : Addr} {C_Crowded : Addr} {C_Twice : Addr} {C_NoRange : Addr} {C_NoteReader : Addr} (R : g.Raw "lone_word" "lone_word" s_lone_word ["note"]) : g.Fn (1) "lone_word" ["note"] (sp_lone_word g.K) := by
  refine R.fn sc_lone_word (fun vs H Q E h => by obtain ⟨w, v, rfl, ⟨a, rfl, ha⟩, q⟩ := h; rfl) fun f_ cdv A outer s H vs Q E hr h => ?_
  obtain ⟨w, v, rfl, ⟨a, rfl, ha⟩, q⟩ := h
  refine ⟨_, (@pss_cons _ _ _ _ _ (@ps_if _ _ _ _ _ _ _ _ (@pw_or _ _ _ _ _ _ _ (@pt_cmpR _ _ _ _ _ _ _ _ op_ne (@pe_ix _ _ _ _ _ _ _ ix_tup (@pv _ 0 _ _ (by rfl) (by first | exact Or.inl rfl | exact Or.inr (Or.inl rfl) | exact Or.inr (Or.inr rfl)) (by decide) (by decide)) pe_int (fun _ _ => rfl)) pe_str (nomark _)) (@pw_or1 _ _ _ _ (@pt_cmpR _ _ _ _ _ _ _ _ op_notN (@pe_ix _ _ _ _ _ _ _ ix_tup (@pv _ 0 _ _ (by rfl) (by first | exact Or.inl rfl | exact Or.inr (Or.inl rfl) | exact Or.inr (Or.inr rfl)) (by decide) (by decide)) pe_int (fun _ _ => rfl)) pe_non (nomark _)))).pt (@pss_one _ _ _ ps_never) pss_nil) (@pss_one _ _ _ (@ps_ret _ _ _ _ (@pe_ix _ _ _ _ _ _ _ ix_tup (@pv _ 0 _ _ (by rfl) (by first | exact Or.inl rfl | exact Or.inr (Or.inl rfl) | exact Or.inr (Or.inr rfl)) (by decide) (by decide)) pe_int (fun _ _ => rfl))))), ?_⟩
  have e : Str.ofString "" = S [] := by decide +kernel
  walk_at "rd"
  exact ⟨_, SqT.of ha, _, rfl, rfl, iteN (by rw [e]; simp) ⟨_, SqT.of ha, _, rfl, iteN (by simp) ⟨_, SqT.of ha, _, rfl, q⟩⟩⟩
def sp_refuse_other_length (K : PySem.W.Frag) : Sp := fun vs H Q _ => ∃ (b : Addr) (us : List V) (lo hi : Int), vs = [.ref b, .int lo, .int hi] ∧ H b = some (.tup us) ∧ lo ≤ us.length ∧ (us.length : Int) ≤ hi ∧ Q .non H
theorem ok_refuse_other_length {C_CountError : Addr} {C_NoNote : Addr} {C_Crowded : Addr} {C_Twice : Addr} {C_NoRange : Addr} {C_NoteReader : Addr} (R : g.Raw "refuse_other_length" "refuse_other_length" s_refuse_other_length ["notes", "least", "most"]) (b_len : g.mg "len" = none) : g.Fn (1) "refuse_other_length" ["notes", "least", "most"] (sp_refuse_other_length g.K) := by
  refine R.fn sc_refuse_other_length (fun vs H Q E h => by obtain ⟨b, us, lo, hi, rfl, hb, h1, h2, q⟩ := h; rfl) fun f_ cdv A outer s H vs Q E hr h => ?_
  obtain ⟨b, us, lo, hi, rfl, hb, h1, h2, q⟩ := h
  refine ⟨_, (@pss_one _ _ _ (@ps_if _ _ _ _ _ _ _ _ (@pt_not _ _ _ _ (@pt_chain _ _ _ _ _ _ _ _ _ _ _ _ op_le op_le (@pv _ 1 _ _ (by rfl) (by first | exact Or.inl rfl | exact Or.inr (Or.inl rfl) | exact Or.inr (Or.inr rfl)) (by decide) (by decide)) (@pe_bf _ _ _ _ _ _ _ _ _ _ b_len call_len_seq (@pa_cons _ _ _ _ _ (@pv _ 0 _ _ (by rfl) (by first | exact Or.inl rfl | exact Or.inr (Or.inl rfl) | exact Or.inr (Or.inr rfl)) (by decide) (by decide)) pa_nil (by rfl)) (by decide +kernel) (by rfl) (by rfl) (by decide) (by decide) (by rfl) (by rfl)) (@pv _ 2 _ _ (by rfl) (by first | exact Or.inl rfl | exact Or.inr (Or.inl rfl) | exact Or.inr (Or.inr rfl)) (by decide) (by decide)) (by with_unfolding_all rfl))) (@pss_one _ _ _ ps_never) pss_nil)), ?_⟩
  walk_at "rd"
  exact ⟨_, .inr (SqT.of hb), iteY h1 (iteN (by omega) q)⟩
def sp_number_drafted (K : PySem.W.Frag) (CN : Addr) : Sp := fun vs H Q E => ∃ (w : List Nat) (v : V), vs = [v] ∧ Rd.NoteAt H (.leaf [] w) v ∧ w.length ≤ 1000 ∧ (∀ i H', Same H H' → w = dg i → i.natAbs < 10 ^ 60 → numB w = true → Q (.int i) H') ∧ (numB w = false → ∀ H', Same H H' → E (.ref CN) none H')
theorem ok_number_drafted {k : Nat} {C_CountError : Addr} {C_NoNote : Addr} {C_Crowded : Addr} {C_Twice : Addr} {C_NoRange : Addr} {C_NoteReader : Addr} (R : g.Raw "number_drafted" "number_drafted" s_number_drafted ["note"]) (F_is_number_word : g.Fn k "is_number_word" ["word"] (sp_is_number_word g.K)) (F_lone_word : g.Fn k "lone_word" ["note"] (sp_lone_word g.K)) (b_int : g.mg "int" = none) (x_NoNote : g.mg "NoNote" = some (.ref C_NoNote)) (r_NoNote : PySem.W.excIn g.K C_NoNote veLine "ValueError.__new__" = true) : g.FnX (k + 1) "number_drafted" ["note"] (sp_number_drafted g.K C_NoNote) := by
  refine R.fnX sc_number_drafted (fun vs H Q E h => by obtain ⟨w, v, rfl, hv, hl, q, qe⟩ := h; rfl) fun f_ cdv A outer s H vs Q E hr h => ?_
  obtain ⟨w, v, rfl, hv, hl, q, qe⟩ := h
  refine ⟨_, (@pss_cons _ _ _ _ _ (PS.nox (@ps_set _ _ (1) _ _ _ _ sc_number_drafted.nd rfl (Or.inl rfl) (@pe_fn _ _ _ _ _ _ _ _ _ _ _ _ F_lone_word hr (@pa_cons _ _ _ _ _ (@pv _ 0 _ _ (by rfl) (by first | exact Or.inl rfl | exact Or.inr (Or.inl rfl) | exact Or.inr (Or.inr rfl)) (by decide) (by decide)) pa_nil (by rfl)) (by omega) (by rfl) (by rfl) (by decide) (by rfl) (by rfl)) (by rfl) (by first | exact .inl rfl | exact .inr rfl | assumption))) (@pss_cons _ _ _ _ _ (@ps_if _ _ _ _ _ _ _ _ (@pt_not _ _ _ _ (@pt_val _ _ _ (@pe_fn _ _ _ _ _ _ _ _ _ _ _ _ F_is_number_word hr (@pa_cons _ _ _ _ _ (@pv _ 1 _ _ (by rfl) (by first | exact Or.inl rfl | exact Or.inr (Or.inl rfl) | exact Or.inr (Or.inr rfl)) (by decide) (by decide)) pa_nil (by rfl)) (by omega) (by rfl) (by rfl) (by decide) (by rfl) (by rfl)) (by intro _; rfl))) (@pss_one _ _ _ (@ps_raise _ _ _ _ _ _ _ _ _ _ _ ⟨x_NoNote, r_NoNote⟩ raiseF (@pa_cons _ _ _ _ _ pe_str pa_nil (by rfl)) (by rfl) (by rfl) (by rfl) (by decide) (by rfl) (by rfl))) pss_nil) (@pss_one _ _ _ (PS.nox (@ps_ret _ _ _ _ (@pe_bt _ _ _ _ _ _ _ _ _ _ b_int call_int_text (@pa_cons _ _ _ _ _ (@pv _ 1 _ _ (by rfl) (by first | exact Or.inl rfl | exact Or.inr (Or.inl rfl) | exact Or.inr (Or.inr rfl)) (by decide) (by decide)) pa_nil (by rfl)) (by decide +kernel) (by rfl) (by rfl) (by decide) (by decide) (by rfl) (by rfl))))))), ?_⟩
  walk_at "rd"
  refine ⟨w, v, rfl, hv, w, rfl, hl, fun H1 s1 => ⟨_, rfl, ?_⟩⟩
  refine ite2 (fun c => ⟨few (by decide), qe c H1 s1⟩) fun c => ?_
  have hb : numB w = true := by
    cases z : numB w with
    | true => rfl
    | false => exact (c z).elim
  obtain ⟨i, e, hi⟩ := numB_dg hb
  have hwl := numB_good hb
  have hwl2 : w.length ≤ 62 := by
    have := ((Bool.and_eq_true _ _).mp hwl).2
    have : 1 ≤ w.length ∧ w.length ≤ 62 := by simpa [Rd.wordOk] using this
    exact this.2
  exact ⟨_, rfl, i, by rw [e]; exact dg_val (Nat.lt_trans hi (by decide +kernel)), by rw [S_len]; omega, q i H1 s1 e hi hb⟩
end KW
set_option maxHeartbeats 8000000
namespace KW
open PySem L2

variable {g : Gx}
variable {C : Addr}
local macro_rules | `(tactic| walk_at "gn") => `(tactic| simp only [gName, List.set_cons_zero, List.set_cons_succ])

local macro_rules | `(tactic| walk_at "rd") => `(tactic| simp (config := { failIfUnchanged := false, maxSteps := 10000000 }) only [L2.start, cxOf_K, nox_K, List.map_cons, List.map_nil, List.length_cons, List.length_nil, List.cons_append, List.nil_append, List.replicate_succ, List.replicate_zero, Nat.zero_add, Nat.reduceAdd, Nat.reduceSub, Nat.sub_self, tSeq, tIfS, tTest, tOp, tC, tVar, rI0, rI, rU, tUn, tRet, tRetN, tDrop, tNext, tBreak, tCont, tAsg, gName, gNil, gCons, tCons, tNil, tCB, tCall, tTry, tTryAs, tRaise, sFld, tFld, tMake, tMeth, Ends.gone, caught_K, tB, tAnd, tOr, tNot, tAndV, tOrV, tNotV, tIf, tChain, tNoPart, tPart, tSl, tNever, tAug, rIxL, rIxT, rSlL, tLst, tTup, gTup, tRev, tLZ, tConT, tDict0, rBits, rFind, rIn, tBM, tBM0, rAppend, rReverse, rEq, rNe, scal_ii, scal_ss, rCat, rSetL, gSub, ipI, capSt, List.getD_cons_zero, List.getD_cons_succ, decide_true, not_true_eq_false, not_false_eq_true,
  exists_eq_left', exists_eq_left, exists_eq', exists_eq, exists_and_left, and_assoc, Option.some.injEq, V.int.injEq, V.bl.injEq, V.ref.injEq, V.str.injEq, List.getElem?_cons_zero, List.getElem?_cons_succ, List.set_cons_zero, List.set_cons_succ, List.cons.injEq, and_true, true_and, List.append_nil, decide_eq_true_eq, Bool.not_eq_true', decide_eq_false_iff_not, Bool.not_not, Bool.not_true, Bool.not_false, Bool.true_eq_false, Bool.false_eq_true, if_true, if_false, ite_true, ite_false])

theorem NoteAtKeep {H H' : Hp} (s : Same H H') {n : Rd.Note} {v : V} (h : Rd.NoteAt H n v) : Rd.NoteAt H' n v := h.keep fun b xs e => s b _ e
def sp_whole_drafted (K : PySem.W.Frag) (CN : Addr) : Sp := fun vs H Q E => ∃ (b : Addr) (u1 u2 : V) (a1 a2 : List Nat), vs = [.ref b] ∧ H b = some (.tup [u1, u2]) ∧ Rd.NoteAt H (.leaf [] a1) u1 ∧ Rd.NoteAt H (.leaf [] a2) u2 ∧ a1.length ≤ 100 ∧ a2.length ≤ 100 ∧ (∀ d v H', Says (.two a1 a2) d → DA H' d v → Same H H' → Q v H') ∧ (Bad (.two a1 a2) → ∀ H', Same H H' → E (.ref CN) none H')
theorem ok_whole_drafted {k : Nat} {C_CountError : Addr} {C_NoNote : Addr} {C_Crowded : Addr} {C_Twice : Addr} {C_NoRange : Addr} {C_NoteReader : Addr} (R : g.Raw "whole_drafted" "whole_drafted" s_whole_drafted ["notes"]) (F_number_drafted : g.FnX k "number_drafted" ["note"] (sp_number_drafted g.K C_NoNote)) (F_refuse_other_length : g.Fn k "refuse_other_length" ["notes", "least", "most"] (sp_refuse_other_length g.K)) : g.FnX (k + 1) "whole_drafted" ["notes"] (sp_whole_drafted g.K C_NoNote) := by
  refine R.fnX sc_whole_drafted (fun vs H Q E h => by obtain ⟨b, u1, u2, a1, a2, rfl, hb, h1, h2, l1, l2, q, qe⟩ := h; rfl) fun f_ cdv A outer s H vs Q E hr h => ?_
  obtain ⟨b, u1, u2, a1, a2, rfl, hb, h1, h2, l1, l2, q, qe⟩ := h
  refine ⟨_, (@pss_cons _ _ _ _ _ (PS.nox (@ps_expr _ _ _ _ (@pe_fn _ _ _ _ _ _ _ _ _ _ _ _ F_refuse_other_length hr (@pa_cons _ _ _ _ _ (@pv _ 0 _ _ (by rfl) (by first | exact Or.inl rfl | exact Or.inr (Or.inl rfl) | exact Or.inr (Or.inr rfl)) (by decide) (by decide)) (@pa_cons _ _ _ _ _ pe_int (@pa_cons _ _ _ _ _ pe_int pa_nil (by rfl)) (by rfl)) (by rfl)) (by omega) (by rfl) (by rfl) (by decide) (by rfl) (by rfl)) (by rfl))) (@pss_one _ _ _ (@ps_ret _ _ _ _ (@pe_tup _ _ _ _ _ (@pa_cons _ _ _ _ _ pe_str (@pa_cons _ _ _ _ _ (@pe_fnX _ _ _ _ _ _ _ _ _ _ _ _ _ F_number_drafted hr passF (@pa_cons _ _ _ _ _ (@pe_ix _ _ _ _ _ _ _ ix_tup (@pv _ 0 _ _ (by rfl) (by first | exact Or.inl rfl | exact Or.inr (Or.inl rfl) | exact Or.inr (Or.inr rfl)) (by decide) (by decide)) pe_int (fun _ _ => rfl)) pa_nil (by rfl)) (by omega) (by rfl) (by rfl) (by decide) (by rfl) (by rfl)) (@pa_cons _ _ _ _ _ (@pe_fnX _ _ _ _ _ _ _ _ _ _ _ _ _ F_number_drafted hr passF (@pa_cons _ _ _ _ _ (@pe_ix _ _ _ _ _ _ _ ix_tup (@pv _ 0 _ _ (by rfl) (by first | exact Or.inl rfl | exact Or.inr (Or.inl rfl) | exact Or.inr (Or.inr rfl)) (by decide) (by decide)) pe_int (fun _ _ => rfl)) pa_nil (by rfl)) (by omega) (by rfl) (by rfl) (by decide) (by rfl) (by rfl)) pa_nil (by rfl)) (by rfl)) (by rfl)))))), ?_⟩
  walk_at "rd"
  refine ⟨b, _, 2, 2, rfl, hb, by simp, by simp, ?_⟩
  refine ⟨_, SqT.of hb, _, rfl, a1, u1, rfl, h1, by omega, fun i H1 s1 e1 b1 n1 => ?_, fun n1 H1 s1 => qe (by show (numB a1 && numB a2) = false; rw [n1]; rfl) H1 s1⟩
  refine ⟨_, SqT.of (s1 _ _ hb), _, rfl, a2, u2, rfl, NoteAtKeep s1 h2, by omega, fun j H2 s2 e2 b2 n2 => ⟨few (by decide), fun p hp => ?_⟩, fun n2 H2 s2 => qe (by show (numB a1 && numB a2) = false; rw [n2, Bool.and_false]) H2 (s1.trans s2)⟩
  exact q (.whole i j) _ _ ⟨e1, e2, b1, b2, n1, n2⟩ ⟨p, rfl, by rw [s_whole]; exact upd_same⟩ ((s1.trans s2).trans (.upd_new hp _))
end KW
set_option maxHeartbeats 8000000
namespace KW
open PySem L2

variable {g : Gx}
variable {C : Addr}
local macro_rules | `(tactic| walk_at "gn") => `(tactic| simp only [gName, List.set_cons_zero, List.set_cons_succ])

local macro_rules | `(tactic| walk_at "rd") => `(tactic| simp (config := { failIfUnchanged := false, maxSteps := 10000000 }) only [L2.start, cxOf_K, nox_K, List.map_cons, List.map_nil, List.length_cons, List.length_nil, List.cons_append, List.nil_append, List.replicate_succ, List.replicate_zero, Nat.zero_add, Nat.reduceAdd, Nat.reduceSub, Nat.sub_self, tSeq, tIfS, tTest, tOp, tC, tVar, rI0, rI, rU, tUn, tRet, tRetN, tDrop, tNext, tBreak, tCont, tAsg, gName, gNil, gCons, tCons, tNil, tCB, tCall, tTry, tTryAs, tRaise, sFld, tFld, tMake, tMeth, Ends.gone, caught_K, tB, tAnd, tOr, tNot, tAndV, tOrV, tNotV, tIf, tChain, tNoPart, tPart, tSl, tNever, tAug, rIxL, rIxT, rSlL, tLst, tTup, gTup, tRev, tLZ, tConT, tDict0, rBits, rFind, rIn, tBM, tBM0, rAppend, rReverse, rEq, rNe, scal_ii, scal_ss, rCat, rSetL, gSub, ipI, capSt, List.getD_cons_zero, List.getD_cons_succ, decide_true, not_true_eq_false, not_false_eq_true,
  exists_eq_left', exists_eq_left, exists_eq', exists_eq, exists_and_left, and_assoc, Option.some.injEq, V.int.injEq, V.bl.injEq, V.ref.injEq, V.str.injEq, List.getElem?_cons_zero, List.getElem?_cons_succ, List.set_cons_zero, List.set_cons_succ, List.cons.injEq, and_true, true_and, List.append_nil, decide_eq_true_eq, Bool.not_eq_true', decide_eq_false_iff_not, Bool.not_not, Bool.not_true, Bool.not_false, Bool.true_eq_false, Bool.false_eq_true, if_true, if_false, ite_true, ite_false])

def sp_text_drafted (K : PySem.W.Frag) (CN : Addr) : Sp := fun vs H Q E => ∃ (b : Addr) (u : V) (w : List Nat), vs = [.ref b] ∧ H b = some (.tup [u]) ∧ Rd.NoteAt H (.leaf [] w) u ∧ w.length ≤ 100 ∧ (∀ d v H', Says (.one w) d → DA H' d v → Same H H' → Q v H') ∧ (Bad (.one w) → ∀ H', Same H H' → E (.ref CN) none H')
theorem ok_text_drafted {k : Nat} {C_CountError : Addr} {C_NoNote : Addr} {C_Crowded : Addr} {C_Twice : Addr} {C_NoRange : Addr} {C_NoteReader : Addr} (R : g.Raw "text_drafted" "text_drafted" s_text_drafted ["notes"]) (F_is_letter_or_figure : g.Fn k "is_letter_or_figure" ["sign"] (Rd.spSign Rd.isLF)) (F_lone_word : g.Fn k "lone_word" ["note"] (sp_lone_word g.K)) (F_refuse_other_length : g.Fn k "refuse_other_length" ["notes", "least", "most"] (sp_refuse_other_length g.K)) (b_all : g.mg "all" = none) (x_NoNote : g.mg "NoNote" = some (.ref C_NoNote)) (r_NoNote : PySem.W.excIn g.K C_NoNote veLine "ValueError.__new__" = true) : g.FnX (k + 1) "text_drafted" ["notes"] (sp_text_drafted g.K C_NoNote) := by
  refine R.fnX sc_text_drafted (fun vs H Q E h => by obtain ⟨b, u, w, rfl, hb, hu, hl, q, qe⟩ := h; rfl) fun f_ cdv A outer s H vs Q E hr h => ?_
  obtain ⟨b, u, w, rfl, hb, hu, hl, q, qe⟩ := h
  refine ⟨_, (@pss_cons _ _ _ _ _ (PS.nox (@ps_expr _ _ _ _ (@pe_fn _ _ _ _ _ _ _ _ _ _ _ _ F_refuse_other_length hr (@pa_cons _ _ _ _ _ (@pv _ 0 _ _ (by rfl) (by first | exact Or.inl rfl | exact Or.inr (Or.inl rfl) | exact Or.inr (Or.inr rfl)) (by decide) (by decide)) (@pa_cons _ _ _ _ _ pe_int (@pa_cons _ _ _ _ _ pe_int pa_nil (by rfl)) (by rfl)) (by rfl)) (by omega) (by rfl) (by rfl) (by decide) (by rfl) (by rfl)) (by rfl))) (@pss_cons _ _ _ _ _ (PS.nox (@ps_set _ _ (1) _ _ _ _ sc_text_drafted.nd rfl (Or.inl rfl) (@pe_fn _ _ _ _ _ _ _ _ _ _ _ _ F_lone_word hr (@pa_cons _ _ _ _ _ (@pe_ix _ _ _ _ _ _ _ ix_tup (@pv _ 0 _ _ (by rfl) (by first | exact Or.inl rfl | exact Or.inr (Or.inl rfl) | exact Or.inr (Or.inr rfl)) (by decide) (by decide)) pe_int (fun _ _ => rfl)) pa_nil (by rfl)) (by omega) (by rfl) (by rfl) (by decide) (by rfl) (by rfl)) (by rfl) (by first | exact .inl rfl | exact .inr rfl | assumption))) (@pss_cons _ _ _ _ _ (@ps_if _ _ _ _ _ _ _ _ (@pt_not _ _ _ _ (@pt_val _ _ _ (@pe_bf _ _ _ _ _ _ _ _ _ _ b_all (call_all_bools rfl) (@pa_cons _ _ _ _ _ (@pe_lc _ _ _ _ _ _ _ ([none]) ((["sign"] : List Str)) _ (gName 0) _ _ (.own .nil) rfl (@pi_str _ _ _ _ (@pv _ 1 _ _ (by rfl) (by first | exact Or.inl rfl | exact Or.inr (Or.inl rfl) | exact Or.inr (Or.inr rfl)) (by decide) (by decide))) (fun cl C s₀ H₀ fp pn => (@pg_name _ _ (0) _ (show List.Nodup (["sign"] : List Str) by decide +kernel) rfl (Or.inl rfl) (Or.inr rfl))) (fun cl C s₀ H₀ fp pn => pts_nil) (fun cl C s₀ H₀ fp pn => (@pe_fn _ _ _ _ _ _ _ _ _ _ _ _ F_is_letter_or_figure hr (@pa_cons _ _ _ _ _ (@pv _ 0 _ _ (by rfl) (by first | exact Or.inl rfl | exact Or.inr (Or.inl rfl) | exact Or.inr (Or.inr rfl)) (by decide) (by decide)) pa_nil (by rfl)) (by omega) (by rfl) (by rfl) (by decide) (by rfl) (by rfl))) (by intro x hx; simp at hx) (by rfl) (by decide) (by decide +kernel) (by intro _; rfl)) pa_nil (by rfl)) (by decide +kernel) (by rfl) (by rfl) (by decide) (by decide) (by rfl) (by rfl)) (by intro _; rfl))) (@pss_one _ _ _ (@ps_raise _ _ _ _ _ _ _ _ _ _ _ ⟨x_NoNote, r_NoNote⟩ raiseF (@pa_cons _ _ _ _ _ pe_str pa_nil (by rfl)) (by rfl) (by rfl) (by rfl) (by decide) (by rfl) (by rfl))) pss_nil) (@pss_one _ _ _ (PS.nox (@ps_ret _ _ _ _ (@pe_tup _ _ _ _ _ (@pa_cons _ _ _ _ _ pe_str (@pa_cons _ _ _ _ _ (@pv _ 1 _ _ (by rfl) (by first | exact Or.inl rfl | exact Or.inr (Or.inl rfl) | exact Or.inr (Or.inr rfl)) (by decide) (by decide)) pa_nil (by rfl)) (by rfl))))))))), ?_⟩
  walk_at "rd"
  refine ⟨b, _, 1, 1, rfl, hb, by simp, by simp, ?_⟩
  refine ⟨_, SqT.of hb, _, rfl, w, u, rfl, hu, ?_⟩
  refine tLC_str (l := w) ((w.map Rd.isLF).map V.bl) (fun R r => by walk_at "rd"; exact r) (by simp) (by omega) ?_ ?_
  · intro j d y H1 hd hy sm R rr
    rw [List.getElem?_map, List.getElem?_map, hd] at hy
    have : V.bl (Rd.isLF d) = y := Option.some.inj hy
    subst this
    walk_at "rd"
    refine ⟨[d], rfl, by simp, ?_⟩
    rw [show ([d] : List Nat).any Rd.isLF = Rd.isLF d by simp]
    exact rr H1 (.refl _)
  · intro D H1 hD sm hd
    refine ⟨D, rfl, _, SqL.of hd, ?_⟩
    rw [show (w.map Rd.isLF).all id = w.all Rd.isLF by rw [List.all_map]; rfl]
    refine ite2 (fun c => ⟨few (by decide), qe c H1 sm⟩) fun c => ⟨few (by decide), fun p hp => ?_⟩
    have hw : w.all Rd.isLF = true := by
      cases z : w.all Rd.isLF with
      | true => rfl
      | false => exact (c z).elim
    exact q (.text w) _ _ ⟨rfl, hw⟩ ⟨p, rfl, by rw [s_text]; exact upd_same⟩ (sm.trans (.upd_new hp _))
end KW
set_option maxHeartbeats 8000000
namespace KW
open PySem L2

variable {g : Gx}
variable {C : Addr}
local macro_rules | `(tactic| walk_at "gn") => `(tactic| simp only [gName, List.set_cons_zero, List.set_cons_succ])

local macro_rules | `(tactic| walk_at "rd") => `(tactic| simp (config := { failIfUnchanged := false, maxSteps := 10000000 }) only [L2.start, cxOf_K, nox_K, List.map_cons, List.map_nil, List.length_cons, List.length_nil, List.cons_append, List.nil_append, List.replicate_succ, List.replicate_zero, Nat.zero_add, Nat.reduceAdd, Nat.reduceSub, Nat.sub_self, tSeq, tIfS, tTest, tOp, tC, tVar, rI0, rI, rU, tUn, tRet, tRetN, tDrop, tNext, tBreak, tCont, tAsg, gName, gNil, gCons, tCons, tNil, tCB, tCall, tTry, tTryAs, tRaise, sFld, tFld, tMake, tMeth, Ends.gone, caught_K, tB, tAnd, tOr, tNot, tAndV, tOrV, tNotV, tIf, tChain, tNoPart, tPart, tSl, tNever, tAug, rIxL, rIxT, rSlL, tLst, tTup, gTup, tRev, tLZ, tConT, tDict0, rBits, rFind, rIn, tBM, tBM0, rAppend, rReverse, rEq, rNe, scal_ii, scal_ss, rCat, rSetL, gSub, ipI, capSt, List.getD_cons_zero, List.getD_cons_succ, decide_true, not_true_eq_false, not_false_eq_true,
  exists_eq_left', exists_eq_left, exists_eq', exists_eq, exists_and_left, and_assoc, Option.some.injEq, V.int.injEq, V.bl.injEq, V.ref.injEq, V.str.injEq, List.getElem?_cons_zero, List.getElem?_cons_succ, List.set_cons_zero, List.set_cons_succ, List.cons.injEq, and_true, true_and, List.append_nil, decide_eq_true_eq, Bool.not_eq_true', decide_eq_false_iff_not, Bool.not_not, Bool.not_true, Bool.not_false, Bool.true_eq_false, Bool.false_eq_true, if_true, if_false, ite_true, ite_false])

def sp_shape_drafted (K : PySem.W.Frag) (CN : Addr) : Sp := fun vs H Q E => ∃ (v : V) (s : Src), vs = [v] ∧ Rd.NoteAt H s.note v ∧ s.ok ∧ (∀ d v H', Says s d → DA H' d v → Same H H' → Q v H') ∧ (Bad s → ∀ H', Same H H' → E (.ref CN) none H')
theorem ok_shape_drafted {k : Nat} {C_CountError : Addr} {C_NoNote : Addr} {C_Crowded : Addr} {C_Twice : Addr} {C_NoRange : Addr} {C_NoteReader : Addr} (R : g.Raw "shape_drafted" "shape_drafted" s_shape_drafted ["note"]) (F_whole_drafted : g.FnX k "whole_drafted" ["notes"] (sp_whole_drafted g.K C_NoNote)) (F_text_drafted : g.FnX k "text_drafted" ["notes"] (sp_text_drafted g.K C_NoNote)) : g.FnX (k + 1) "shape_drafted" ["note"] (sp_shape_drafted g.K C_NoNote) := by
  refine R.fnX sc_shape_drafted (fun vs H Q E h => by obtain ⟨v, s, rfl, hv, hok, q, qe⟩ := h; rfl) fun f_ cdv A outer s H vs Q E hr h => ?_
  obtain ⟨v, s, rfl, hv, hok, q, qe⟩ := h
  refine ⟨_, (@pss_cons _ _ _ _ _ (@ps_if _ _ _ _ _ _ _ _ (@pt_cmpR _ _ _ _ _ _ _ _ op_ne (@pe_ix _ _ _ _ _ _ _ ix_tup (@pv _ 0 _ _ (by rfl) (by first | exact Or.inl rfl | exact Or.inr (Or.inl rfl) | exact Or.inr (Or.inr rfl)) (by decide) (by decide)) pe_int (fun _ _ => rfl)) pe_str (nomark _)) (@pss_one _ _ _ ps_never) pss_nil) (@pss_cons _ _ _ _ _ (PS.nox (@ps_set _ _ (1) _ _ _ _ sc_shape_drafted.nd rfl (Or.inl rfl) (@pe_ix _ _ _ _ _ _ _ ix_tup (@pv _ 0 _ _ (by rfl) (by first | exact Or.inl rfl | exact Or.inr (Or.inl rfl) | exact Or.inr (Or.inr rfl)) (by decide) (by decide)) pe_int (fun _ _ => rfl)) (by rfl) (by first | exact .inl rfl | exact .inr rfl | assumption))) (@pss_cons _ _ _ _ _ (PS.nox (@ps_set _ _ (2) _ _ _ _ sc_shape_drafted.nd rfl (Or.inl rfl) (@pe_ix _ _ _ _ _ _ _ ix_tup (@pv _ 0 _ _ (by rfl) (by first | exact Or.inl rfl | exact Or.inr (Or.inl rfl) | exact Or.inr (Or.inr rfl)) (by decide) (by decide)) pe_int (fun _ _ => rfl)) (by rfl) (by first | exact .inl rfl | exact .inr rfl | assumption))) (@pss_cons _ _ _ _ _ (PS.nox (@ps_if _ _ _ _ _ _ _ _ (@pt_cmpR _ _ _ _ _ _ _ _ op_isN (@pv _ 2 _ _ (by rfl) (by first | exact Or.inl rfl | exact Or.inr (Or.inl rfl) | exact Or.inr (Or.inr rfl)) (by decide) (by decide)) pe_non (nomark _)) (@pss_one _ _ _ ps_never) pss_nil)) (@pss_cons _ _ _ _ _ (@ps_if _ _ _ _ _ _ _ _ (@pt_cmpR _ _ _ _ _ _ _ _ op_eq (@pv _ 1 _ _ (by rfl) (by first | exact Or.inl rfl | exact Or.inr (Or.inl rfl) | exact Or.inr (Or.inr rfl)) (by decide) (by decide)) pe_str (nomark _)) (@pss_one _ _ _ (@ps_ret _ _ _ _ (@pe_fnX _ _ _ _ _ _ _ _ _ _ _ _ _ F_whole_drafted hr passF (@pa_cons _ _ _ _ _ (@pv _ 2 _ _ (by rfl) (by first | exact Or.inl rfl | exact Or.inr (Or.inl rfl) | exact Or.inr (Or.inr rfl)) (by decide) (by decide)) pa_nil (by rfl)) (by omega) (by rfl) (by rfl) (by decide) (by rfl) (by rfl)))) pss_nil) (@pss_cons _ _ _ _ _ (@ps_if _ _ _ _ _ _ _ _ (@pt_cmpR _ _ _ _ _ _ _ _ op_eq (@pv _ 1 _ _ (by rfl) (by first | exact Or.inl rfl | exact Or.inr (Or.inl rfl) | exact Or.inr (Or.inr rfl)) (by decide) (by decide)) pe_str (nomark _)) (@pss_one _ _ _ (@ps_ret _ _ _ _ (@pe_fnX _ _ _ _ _ _ _ _ _ _ _ _ _ F_text_drafted hr passF (@pa_cons _ _ _ _ _ (@pv _ 2 _ _ (by rfl) (by first | exact Or.inl rfl | exact Or.inr (Or.inl rfl) | exact Or.inr (Or.inr rfl)) (by decide) (by decide)) pa_nil (by rfl)) (by omega) (by rfl) (by rfl) (by decide) (by rfl) (by rfl)))) pss_nil) (@pss_cons _ _ _ _ _ ps_never (@pss_cons _ _ _ _ _ ps_never (@pss_cons _ _ _ _ _ ps_never (@pss_cons _ _ _ _ _ ps_never (@pss_one _ _ _ ps_never))))))))))), ?_⟩
  have e0 : Str.ofString "" = S [] := by decide +kernel
  walk_at "rd"
  cases s with
  | two a1 a2 =>
    obtain ⟨a, b, vs, rfl, ha, hb, w, us, rfl, hw, u, us2, rfl, hu, rfl⟩ := hv
    exact ⟨a, rfl, _, SqT.of ha, _, rfl, rfl, iteN (by rw [e0]; simp) ⟨a, rfl, _, SqT.of ha, _, rfl, a, rfl, _, SqT.of ha, _, rfl, iteN (by simp) ⟨rfl, iteY (by rw [s_whole]) ⟨b, w, u, a1, a2, rfl, hb, hw, hu, hok.2.2.1, hok.2.2.2, q, qe⟩⟩⟩⟩
  | one a1 =>
    obtain ⟨a, b, vs, rfl, ha, hb, w, us, rfl, hw, rfl⟩ := hv
    have hl : a1.length ≤ 62 := by
      have := ((Bool.and_eq_true _ _).mp hok).2
      have : 1 ≤ a1.length ∧ a1.length ≤ 62 := by simpa [Rd.wordOk] using this
      exact this.2
    have hne : ¬ V.str (S cT) = V.str (Str.ofString "whole") := by
      rw [s_whole]
      intro z
      injection z with z
      have := S_inj z
      exact absurd this (by decide)
    exact ⟨a, rfl, _, SqT.of ha, _, rfl, rfl, iteN (by rw [e0]; simp) ⟨a, rfl, _, SqT.of ha, _, rfl, a, rfl, _, SqT.of ha, _, rfl, iteN (by simp) ⟨rfl, iteN hne ⟨rfl, iteY (by rw [s_text]) ⟨b, w, a1, rfl, hb, hw, by omega, q, qe⟩⟩⟩⟩⟩
end KW
set_option maxHeartbeats 8000000
namespace KW
open PySem L2

variable {g : Gx}
variable {C : Addr}
local macro_rules | `(tactic| walk_at "gn") => `(tactic| simp only [gName, List.set_cons_zero, List.set_cons_succ])

local macro_rules | `(tactic| walk_at "rd") => `(tactic| simp (config := { failIfUnchanged := false, maxSteps := 10000000 }) only [L2.start, cxOf_K, nox_K, List.map_cons, List.map_nil, List.length_cons, List.length_nil, List.cons_append, List.nil_append, List.replicate_succ, List.replicate_zero, Nat.zero_add, Nat.reduceAdd, Nat.reduceSub, Nat.sub_self, tSeq, tIfS, tTest, tOp, tC, tVar, rI0, rI, rU, tUn, tRet, tRetN, tDrop, tNext, tBreak, tCont, tAsg, gName, gNil, gCons, tCons, tNil, tCB, tCall, tTry, tTryAs, tRaise, sFld, tFld, tMake, tMeth, Ends.gone, caught_K, tB, tAnd, tOr, tNot, tAndV, tOrV, tNotV, tIf, tChain, tNoPart, tPart, tSl, tNever, tAug, rIxL, rIxT, rSlL, tLst, tTup, gTup, tRev, tLZ, tConT, tDict0, rBits, rFind, rIn, tBM, tBM0, rAppend, rReverse, rEq, rNe, scal_ii, scal_ss, rCat, rSetL, gSub, ipI, capSt, List.getD_cons_zero, List.getD_cons_succ, decide_true, not_true_eq_false, not_false_eq_true,
  exists_eq_left', exists_eq_left, exists_eq', exists_eq, exists_and_left, and_assoc, Option.some.injEq, V.int.injEq, V.bl.injEq, V.ref.injEq, V.str.injEq, List.getElem?_cons_zero, List.getElem?_cons_succ, List.set_cons_zero, List.set_cons_succ, List.cons.injEq, and_true, true_and, List.append_nil, decide_eq_true_eq, Bool.not_eq_true', decide_eq_false_iff_not, Bool.not_not, Bool.not_true, Bool.not_false, Bool.true_eq_false, Bool.false_eq_true, if_true, if_false, ite_true, ite_false])

def sp_read_draft (K : PySem.W.Frag) (CN : Addr) : Sp := fun vs H Q E => ∃ (s : Src), vs = [.str (S s.txt)] ∧ s.ok ∧ (∀ d v H', Says s d → DA H' d v → Same H H' → Q v H') ∧ (Bad s → ∀ H', Same H H' → E (.ref CN) none H')
theorem ok_read_draft {k : Nat} {C_CountError : Addr} {C_NoNote : Addr} {C_Crowded : Addr} {C_Twice : Addr} {C_NoRange : Addr} {C_NoteReader : Addr} (R : g.Raw "read_draft" "read_draft" s_read_draft ["text"]) (F_read_note : g.FnX k "read_note" ["text"] (sp_read_note C_NoNote C_Crowded)) (F_shape_drafted : g.FnX k "shape_drafted" ["note"] (sp_shape_drafted g.K C_NoNote)) : g.FnX (k + 1) "read_draft" ["text"] (sp_read_draft g.K C_NoNote) := by
  refine R.fnX sc_read_draft (fun vs H Q E h => by obtain ⟨s, rfl, hok, q, qe⟩ := h; rfl) fun f_ cdv A outer s H vs Q E hr h => ?_
  obtain ⟨s, rfl, hok, q, qe⟩ := h
  refine ⟨_, (@pss_one _ _ _ (@ps_ret _ _ _ _ (@pe_fnX _ _ _ _ _ _ _ _ _ _ _ _ _ F_shape_drafted hr passF (@pa_cons _ _ _ _ _ (@pe_fnX _ _ _ _ _ _ _ _ _ _ _ _ _ F_read_note hr passF (@pa_cons _ _ _ _ _ (@pv _ 0 _ _ (by rfl) (by first | exact Or.inl rfl | exact Or.inr (Or.inl rfl) | exact Or.inr (Or.inr rfl)) (by decide) (by decide)) pa_nil (by rfl)) (by omega) (by rfl) (by rfl) (by decide) (by rfl) (by rfl)) pa_nil (by rfl)) (by omega) (by rfl) (by rfl) (by decide) (by rfl) (by rfl)))), ?_⟩
  have hl := Src.len hok
  have ho := Src.okD hok
  walk_at "rd"
  refine ⟨s.txt, rfl, by omega, fun z => (z ⟨by omega, ho⟩).elim, fun _ _ hp H1 s1 => qe ?_ H1 s1, fun n v H1 _ _ hp hv s1 => ?_⟩
  · rcases Src.parse hok with z | ⟨_, z⟩
    · rw [z] at hp; cases hp
    · exact z
  · rcases Src.parse hok with z | ⟨z, _⟩
    · rw [z] at hp
      cases hp
      exact ⟨v, s, rfl, hv, hok, fun d v' H2 a b c => q d v' H2 a b (s1.trans c), fun a H2 c => qe a H2 (s1.trans c)⟩
    · rw [z] at hp; cases hp
end KW
set_option maxHeartbeats 8000000
namespace KW
open PySem L2

variable {g : Gx}
variable {C : Addr}
local macro_rules | `(tactic| walk_at "gn") => `(tactic| simp only [gName, List.set_cons_zero, List.set_cons_succ])

local macro_rules | `(tactic| walk_at "rd") => `(tactic| simp (config := { failIfUnchanged := false, maxSteps := 10000000 }) only [L2.start, cxOf_K, nox_K, List.map_cons, List.map_nil, List.length_cons, List.length_nil, List.cons_append, List.nil_append, List.replicate_succ, List.replicate_zero, Nat.zero_add, Nat.reduceAdd, Nat.reduceSub, Nat.sub_self, tSeq, tIfS, tTest, tOp, tC, tVar, rI0, rI, rU, tUn, tRet, tRetN, tDrop, tNext, tBreak, tCont, tAsg, gName, gNil, gCons, tCons, tNil, tCB, tCall, tTry, tTryAs, tRaise, sFld, tFld, tMake, tMeth, Ends.gone, caught_K, tB, tAnd, tOr, tNot, tAndV, tOrV, tNotV, tIf, tChain, tNoPart, tPart, tSl, tNever, tAug, rIxL, rIxT, rSlL, tLst, tTup, gTup, tRev, tLZ, tConT, tDict0, rBits, rFind, rIn, tBM, tBM0, rAppend, rReverse, rEq, rNe, scal_ii, scal_ss, rCat, rSetL, gSub, ipI, capSt, List.getD_cons_zero, List.getD_cons_succ, decide_true, not_true_eq_false, not_false_eq_true,
  exists_eq_left', exists_eq_left, exists_eq', exists_eq, exists_and_left, and_assoc, Option.some.injEq, V.int.injEq, V.bl.injEq, V.ref.injEq, V.str.injEq, List.getElem?_cons_zero, List.getElem?_cons_succ, List.set_cons_zero, List.set_cons_succ, List.cons.injEq, and_true, true_and, List.append_nil, decide_eq_true_eq, Bool.not_eq_true', decide_eq_false_iff_not, Bool.not_not, Bool.not_true, Bool.not_false, Bool.true_eq_false, Bool.false_eq_true, if_true, if_false, ite_true, ite_false])

def sp_parts_of (K : PySem.W.Frag) : Sp := fun vs H Q _ => ∃ (d : Dr) (v : V), vs = [v] ∧ DA H d v ∧ ∀ p H', Same H H' → H' p = some (.lst []) → Q (.ref p) H'
theorem ok_parts_of {C_CountError : Addr} {C_NoNote : Addr} {C_Crowded : Addr} {C_Twice : Addr} {C_NoRange : Addr} {C_NoteReader : Addr} (R : g.Raw "parts_of" "parts_of" s_parts_of ["shape"]) (c_OF_ONE_PART : g.ConT "OF_ONE_PART" ([.str "many", .str "rising", .str "unlike"])) : g.Fn (1) "parts_of" ["shape"] (sp_parts_of g.K) := by
  refine R.fn sc_parts_of (fun vs H Q E h => by obtain ⟨d, v, rfl, hd, q⟩ := h; rfl) fun f_ cdv A outer s H vs Q E hr h => ?_
  obtain ⟨d, v, rfl, hd, q⟩ := h
  refine ⟨_, (@pss_cons _ _ _ _ _ (@ps_set _ _ (1) _ _ _ _ sc_parts_of.nd rfl (Or.inl rfl) (@pe_ix _ _ _ _ _ _ _ ix_tup (@pv _ 0 _ _ (by rfl) (by first | exact Or.inl rfl | exact Or.inr (Or.inl rfl) | exact Or.inr (Or.inr rfl)) (by decide) (by decide)) pe_int (fun _ _ => rfl)) (by rfl) (by first | exact .inl rfl | exact .inr rfl | assumption)) (@pss_cons _ _ _ _ _ (@ps_if _ _ _ _ _ _ _ _ (@pt_cmpR _ _ _ _ _ _ _ _ op_eq (@pv _ 1 _ _ (by rfl) (by first | exact Or.inl rfl | exact Or.inr (Or.inl rfl) | exact Or.inr (Or.inr rfl)) (by decide) (by decide)) pe_str (nomark _)) (@pss_one _ _ _ ps_never) pss_nil) (@pss_cons _ _ _ _ _ (@ps_if _ _ _ _ _ _ _ _ (@pt_cmpR _ _ _ _ _ _ _ _ op_eq (@pv _ 1 _ _ (by rfl) (by first | exact Or.inl rfl | exact Or.inr (Or.inl rfl) | exact Or.inr (Or.inr rfl)) (by decide) (by decide)) pe_str (nomark _)) (@pss_one _ _ _ ps_never) pss_nil) (@pss_cons _ _ _ _ _ (@ps_if _ _ _ _ _ _ _ _ (@pw_or _ _ _ _ _ _ _ (@pt_cmpR _ _ _ _ _ _ _ _ op_eq (@pv _ 1 _ _ (by rfl) (by first | exact Or.inl rfl | exact Or.inr (Or.inl rfl) | exact Or.inr (Or.inr rfl)) (by decide) (by decide)) pe_str (nomark _)) (@pw_or1 _ _ _ _ (@pt_cmpR _ _ _ _ _ _ _ _ op_in_seq (@pv _ 1 _ _ (by rfl) (by first | exact Or.inl rfl | exact Or.inr (Or.inl rfl) | exact Or.inr (Or.inr rfl)) (by decide) (by decide)) (@pe_gt _ _ _ _ _ c_OF_ONE_PART (by rfl) (by rfl) (by decide)) rfl))).pt (@pss_one _ _ _ ps_never) pss_nil) (@pss_one _ _ _ (@ps_ret _ _ _ _ (@pe_lst _ _ _ _ pa_nil))))))), ?_⟩
  walk_at "rd"
  cases d with
  | whole i j =>
    obtain ⟨p, rfl, hp⟩ := hd
    have n1 : ∀ x : String, Str.ofString x ≠ S cW → ¬ V.str (S cW) = V.str (Str.ofString x) := fun x h z => by injection z with z; exact h z.symm
    exact ⟨p, rfl, _, SqT.of hp, _, rfl, rfl, iteN (n1 _ (by decide +kernel)) ⟨rfl, iteN (n1 _ (by decide +kernel)) ⟨rfl, iteN (n1 _ (by decide +kernel)) fun c hc => ⟨_, .inr hc, rfl, rfl, iteN (by decide +kernel) ⟨few (by decide), fun l hl => q l _ (.upd_new hl _) upd_same⟩⟩⟩⟩⟩
  | text w =>
    obtain ⟨p, rfl, hp⟩ := hd
    have n1 : ∀ x : String, Str.ofString x ≠ S cT → ¬ V.str (S cT) = V.str (Str.ofString x) := fun x h z => by injection z with z; exact h z.symm
    exact ⟨p, rfl, _, SqT.of hp, _, rfl, rfl, iteN (n1 _ (by decide +kernel)) ⟨rfl, iteN (n1 _ (by decide +kernel)) ⟨rfl, iteN (n1 _ (by decide +kernel)) fun c hc => ⟨_, .inr hc, rfl, rfl, iteN (by decide +kernel) ⟨few (by decide), fun l hl => q l _ (.upd_new hl _) upd_same⟩⟩⟩⟩⟩
def sp_shapes_within (K : PySem.W.Frag) (m : Nat) : Sp := fun vs H Q _ => ∃ (d : Dr) (v : V), 0 < m ∧ vs = [v] ∧ DA H d v ∧ ∀ p H', Same H H' → H' p = some (.lst [v]) → Q (.ref p) H'
theorem no_sw {K : PySem.W.Frag} {vs : List V} {H : Hp} {Q : VK} {E : XK} (h : sp_shapes_within K 0 vs H Q E) : False := by
  obtain ⟨_, _, h, _⟩ := h
  omega
theorem ok_shapes_within {k : Nat} {C_CountError : Addr} {C_NoNote : Addr} {C_Crowded : Addr} {C_Twice : Addr} {C_NoRange : Addr} {C_NoteReader : Addr} (R : g.Raw "shapes_within" "shapes_within" s_shapes_within ["shape"]) (F_parts_of : g.Fn k "parts_of" ["shape"] (sp_parts_of g.K)) (F_shapes_within : g.Fn k "shapes_within" ["shape"] (sp_shapes_within g.K m)) : g.Fn (k + 1) "shapes_within" ["shape"] (sp_shapes_within g.K (m + 1)) := by
  refine R.fn sc_shapes_within (fun vs H Q E h => by obtain ⟨d, v, _, rfl, hd, q⟩ := h; rfl) fun f_ cdv A outer s H vs Q E hr h => ?_
  obtain ⟨d, v, _, rfl, hd, q⟩ := h
  refine ⟨_, (@pss_cons _ _ _ _ _ (@ps_set _ _ (1) _ _ _ _ sc_shapes_within.nd rfl (Or.inl rfl) (@pe_lst _ _ _ _ (@pa_cons _ _ _ _ _ (@pv _ 0 _ _ (by rfl) (by first | exact Or.inl rfl | exact Or.inr (Or.inl rfl) | exact Or.inr (Or.inr rfl)) (by decide) (by decide)) pa_nil (by rfl))) (by rfl) (by first | exact .inl rfl | exact .inr rfl | assumption)) (@pss_cons _ _ _ _ _ (@ps_for _ _ _ _ _ _ _ _ PassesOwn.never rfl (@pi_list _ _ _ _ (@pe_fn _ _ _ _ _ _ _ _ _ _ _ _ F_parts_of hr (@pa_cons _ _ _ _ _ (@pv _ 0 _ _ (by rfl) (by first | exact Or.inl rfl | exact Or.inr (Or.inl rfl) | exact Or.inr (Or.inr rfl)) (by decide) (by decide)) pa_nil (by rfl)) (by omega) (by rfl) (by rfl) (by decide) (by rfl) (by rfl))) (@pg_name _ _ (2) _ sc_shapes_within.nd rfl (Or.inl rfl) (by first | exact .inl rfl | exact .inr rfl | assumption)) (@pss_one _ _ _ (@ps_expr _ _ _ _ (@pe_bm _ _ _ _ _ _ _ _ _ _ _ _ PySem.F.plainAttrs_list PySem.F.slot_list_extend PySem.F.type_list_extend mt_extend (@pv _ 1 _ _ (by rfl) (by first | exact Or.inl rfl | exact Or.inr (Or.inl rfl) | exact Or.inr (Or.inr rfl)) (by decide) (by decide)) (@pa_cons _ _ _ _ _ (@pe_fn _ _ _ _ _ _ _ _ _ _ _ _ F_shapes_within hr (@pa_cons _ _ _ _ _ (@pv _ 2 _ _ (by rfl) (by first | exact Or.inl rfl | exact Or.inr (Or.inl rfl) | exact Or.inr (Or.inr rfl)) (by decide) (by decide)) pa_nil (by rfl)) (by omega) (by rfl) (by rfl) (by decide) (by rfl) (by rfl)) pa_nil (by rfl)) (by rfl) (by rfl) (by rfl) (by rfl) (by rfl)) (by rfl))) (by intro _; rfl)) (@pss_one _ _ _ (@ps_ret _ _ _ _ (@pv _ 1 _ _ (by rfl) (by first | exact Or.inl rfl | exact Or.inr (Or.inl rfl) | exact Or.inr (Or.inr rfl)) (by decide) (by decide)))))), ?_⟩
  walk_at "rd"
  refine ⟨few (by decide), fun p hp => ?_⟩
  have u := Same.upd_new hp (.lst [v])
  refine tFor_listN (K := g.K) (xs := []) (fun c i σ' H' => σ' = [some v, some (.ref p), none] ∧ Same H H' ∧ H' c = some (.lst []) ∧ H' p = some (.lst [v])) (fun R r => ?_) (fun c i σ' H' _ h => SqL.of h.2.2.1) ?_ ?_
  · walk_at "rd"
    exact ⟨d, v, rfl, hd.keep u, fun c H1 s1 h1 => r c H1 ⟨rfl, u.trans s1, h1, s1 _ _ upd_same⟩⟩
  · intro c i x σ' H' hx
    simp at hx
  · rintro c σ' H' ⟨rfl, s1, h1, h2⟩
    walk_at "rd"
    exact q p H' s1 h2
end KW
set_option maxHeartbeats 8000000
namespace KW
open PySem L2

variable {g : Gx}
variable {C : Addr}
local macro_rules | `(tactic| walk_at "gn") => `(tactic| simp only [gName, List.set_cons_zero, List.set_cons_succ])

local macro_rules | `(tactic| walk_at "rd") => `(tactic| simp (config := { failIfUnchanged := false, maxSteps := 10000000 }) only [L2.start, cxOf_K, nox_K, List.map_cons, List.map_nil, List.length_cons, List.length_nil, List.cons_append, List.nil_append, List.replicate_succ, List.replicate_zero, Nat.zero_add, Nat.reduceAdd, Nat.reduceSub, Nat.sub_self, tSeq, tIfS, tTest, tOp, tC, tVar, rI0, rI, rU, tUn, tRet, tRetN, tDrop, tNext, tBreak, tCont, tAsg, gName, gNil, gCons, tCons, tNil, tCB, tCall, tTry, tTryAs, tRaise, sFld, tFld, tMake, tMeth, Ends.gone, caught_K, tB, tAnd, tOr, tNot, tAndV, tOrV, tNotV, tIf, tChain, tNoPart, tPart, tSl, tNever, tAug, rIxL, rIxT, rSlL, tLst, tTup, gTup, tRev, tLZ, tConT, tDict0, rBits, rFind, rIn, tBM, tBM0, rAppend, rReverse, rEq, rNe, scal_ii, scal_ss, rCat, rSetL, gSub, ipI, capSt, List.getD_cons_zero, List.getD_cons_succ, decide_true, not_true_eq_false, not_false_eq_true,
  exists_eq_left', exists_eq_left, exists_eq', exists_eq, exists_and_left, and_assoc, Option.some.injEq, V.int.injEq, V.bl.injEq, V.ref.injEq, V.str.injEq, List.getElem?_cons_zero, List.getElem?_cons_succ, List.set_cons_zero, List.set_cons_succ, List.cons.injEq, and_true, true_and, List.append_nil, decide_eq_true_eq, Bool.not_eq_true', decide_eq_false_iff_not, Bool.not_not, Bool.not_true, Bool.not_false, Bool.true_eq_false, Bool.false_eq_true, if_true, if_false, ite_true, ite_false])

def sp_refuse_no_range (K : PySem.W.Frag) (CR : Addr) : Sp := fun vs H Q E => ∃ (d : Dr) (v : V), vs = [v] ∧ DA H d v ∧ (Range d → ∀ H', Same H H' → Q .non H') ∧ (¬ Range d → ∀ H', Same H H' → E (.ref CR) none H')
theorem ok_refuse_no_range {k : Nat} {C_CountError : Addr} {C_NoNote : Addr} {C_Crowded : Addr} {C_Twice : Addr} {C_NoRange : Addr} {C_NoteReader : Addr} (R : g.Raw "refuse_no_range" "refuse_no_range" s_refuse_no_range ["draft"]) (F_shapes_within : g.Fn k "shapes_within" ["shape"] (sp_shapes_within g.K 1)) (x_NoRange : g.mg "NoRange" = some (.ref C_NoRange)) (r_NoRange : PySem.W.excIn g.K C_NoRange veLine "ValueError.__new__" = true) : g.FnX (k + 1) "refuse_no_range" ["draft"] (sp_refuse_no_range g.K C_NoRange) := by
  refine R.fnX sc_refuse_no_range (fun vs H Q E h => by obtain ⟨d, v, rfl, hd, q, qe⟩ := h; rfl) fun f_ cdv A outer s H vs Q E hr h => ?_
  obtain ⟨d, v, rfl, hd, q, qe⟩ := h
  refine ⟨_, (@pss_one _ _ _ (@ps_for _ _ _ _ _ _ _ _ PassesOwn.leaving rfl (@pi_list _ _ _ _ (@pe_fn _ _ _ _ _ _ _ _ _ _ _ _ F_shapes_within hr (@pa_cons _ _ _ _ _ (@pv _ 0 _ _ (by rfl) (by first | exact Or.inl rfl | exact Or.inr (Or.inl rfl) | exact Or.inr (Or.inr rfl)) (by decide) (by decide)) pa_nil (by rfl)) (by omega) (by rfl) (by rfl) (by decide) (by rfl) (by rfl))) (@pg_name _ _ (1) _ sc_refuse_no_range.nd rfl (Or.inl rfl) (by first | exact .inl rfl | exact .inr rfl | assumption)) (@pss_one _ _ _ (@ps_if _ _ _ _ _ _ _ _ (@pw_and _ _ _ _ _ _ _ (@pt_cmpR _ _ _ _ _ _ _ _ op_eq (@pe_ix _ _ _ _ _ _ _ ix_tup (@pv _ 1 _ _ (by rfl) (by first | exact Or.inl rfl | exact Or.inr (Or.inl rfl) | exact Or.inr (Or.inr rfl)) (by decide) (by decide)) pe_int (fun _ _ => rfl)) pe_str (nomark _)) (@pw_and1 _ _ _ _ (@pt_cmpR _ _ _ _ _ _ _ _ op_gt (@pe_ix _ _ _ _ _ _ _ ix_tup (@pv _ 1 _ _ (by rfl) (by first | exact Or.inl rfl | exact Or.inr (Or.inl rfl) | exact Or.inr (Or.inr rfl)) (by decide) (by decide)) pe_int (fun _ _ => rfl)) (@pe_ix _ _ _ _ _ _ _ ix_tup (@pv _ 1 _ _ (by rfl) (by first | exact Or.inl rfl | exact Or.inr (Or.inl rfl) | exact Or.inr (Or.inr rfl)) (by decide) (by decide)) pe_int (fun _ _ => rfl)) (nomark _)))).pt (@pss_one _ _ _ (@ps_raise _ _ _ _ _ _ _ _ _ _ _ ⟨x_NoRange, r_NoRange⟩ raiseF (@pa_cons _ _ _ _ _ pe_str pa_nil (by rfl)) (by rfl) (by rfl) (by rfl) (by decide) (by rfl) (by rfl))) pss_nil)) (by intro _; rfl))), ?_⟩
  refine tFor_listN (K := g.K) (xs := [v]) (fun c i σ' H' => ∃ o, σ' = [some v, o] ∧ Same H H' ∧ H' c = some (.lst [v]) ∧ (i = 1 → Range d)) (fun R r => ?_) (fun c i σ' H' _ h => by obtain ⟨o, _, _, h, _⟩ := h; exact SqL.of h) ?_ ?_
  · walk_at "rd"
    exact ⟨d, v, by decide, rfl, hd, fun c H1 s1 h1 => r c H1 ⟨none, rfl, s1, h1, fun z => by cases z⟩⟩
  · rintro c i x σ' H' hx ⟨o, rfl, s1, h1, _⟩
    obtain ⟨rfl, rfl⟩ : i = 0 ∧ v = x := by
      match i, hx with
      | 0, hx => exact ⟨rfl, by simpa using hx⟩
    have hd1 := hd.keep s1
    walk_at "rd"
    cases d with
    | whole i j =>
      obtain ⟨p, rfl, hp⟩ := hd1
      refine ⟨p, rfl, _, SqT.of hp, _, rfl, rfl, iteY (by rw [s_whole]) ?_⟩
      refine ⟨p, rfl, _, SqT.of hp, _, rfl, p, rfl, _, SqT.of hp, _, rfl, i, rfl, j, rfl, ite2 (fun c1 => ⟨few (by decide), qe (fun z => ?_) H' s1⟩) fun c1 => ?_⟩
      · have z' : i ≤ j := z
        omega
      · have z' : i ≤ j := by omega
        exact ⟨s1, h1, fun _ => z'⟩
    | text w =>
      obtain ⟨p, rfl, hp⟩ := hd1
      refine ⟨p, rfl, _, SqT.of hp, _, rfl, rfl, iteN (fun z => ?_) ⟨s1, h1, fun _ => trivial⟩⟩
      rw [s_whole] at z
      injection z with z
      exact absurd (S_inj z) (by decide)
  · rintro c σ' H' ⟨o, rfl, s1, h1, h2⟩
    exact q (h2 rfl) H' s1
end KW
set_option maxHeartbeats 8000000
namespace KW
open PySem L2

variable {g : Gx}
variable {C : Addr}
local macro_rules | `(tactic| walk_at "gn") => `(tactic| simp only [gName, List.set_cons_zero, List.set_cons_succ])

local macro_rules | `(tactic| walk_at "rd") => `(tactic| simp (config := { failIfUnchanged := false, maxSteps := 10000000 }) only [L2.start, cxOf_K, nox_K, List.map_cons, List.map_nil, List.length_cons, List.length_nil, List.cons_append, List.nil_append, List.replicate_succ, List.replicate_zero, Nat.zero_add, Nat.reduceAdd, Nat.reduceSub, Nat.sub_self, tSeq, tIfS, tTest, tOp, tC, tVar, rI0, rI, rU, tUn, tRet, tRetN, tDrop, tNext, tBreak, tCont, tAsg, gName, gNil, gCons, tCons, tNil, tCB, tCall, tTry, tTryAs, tRaise, sFld, tFld, tMake, tMeth, Ends.gone, caught_K, tB, tAnd, tOr, tNot, tAndV, tOrV, tNotV, tIf, tChain, tNoPart, tPart, tSl, tNever, tAug, rIxL, rIxT, rSlL, tLst, tTup, gTup, tRev, tLZ, tConT, tDict0, rBits, rFind, rIn, tBM, tBM0, rAppend, rReverse, rEq, rNe, scal_ii, scal_ss, rCat, rSetL, gSub, ipI, capSt, List.getD_cons_zero, List.getD_cons_succ, decide_true, not_true_eq_false, not_false_eq_true,
  exists_eq_left', exists_eq_left, exists_eq', exists_eq, exists_and_left, and_assoc, Option.some.injEq, V.int.injEq, V.bl.injEq, V.ref.injEq, V.str.injEq, List.getElem?_cons_zero, List.getElem?_cons_succ, List.set_cons_zero, List.set_cons_succ, List.cons.injEq, and_true, true_and, List.append_nil, decide_eq_true_eq, Bool.not_eq_true', decide_eq_false_iff_not, Bool.not_not, Bool.not_true, Bool.not_false, Bool.true_eq_false, Bool.false_eq_true, if_true, if_false, ite_true, ite_false])

theorem sg_eq (w : List Nat) (i : Nat) : sg (S w) i = S [w.getD i 0] := by
  unfold sg S
  simp [Array.getD_eq_getD_getElem?, List.getD_eq_getElem?_getD]
theorem S_size (w : List Nat) : (S w).cps.size = w.length := S_len w
theorem sg_inj {w : List Nat} {i j : Nat} (h : sg (S w) i = sg (S w) j) : w.getD i 0 = w.getD j 0 := by
  rw [sg_eq, sg_eq] at h
  have := S_inj h
  simpa using this
theorem met_mem {val : Nat → Str} : ∀ {n i : Nat}, i < n → (met val n).any (· == val i) = true
  | n + 1, i, h => by
    rw [met_succ, add_any]
    by_cases e : i = n
    · subst e; simp
    · rw [met_mem (n := n) (i := i) (by omega), Bool.true_or]
theorem met_lt {val : Nat → Str} : ∀ {n i j : Nat}, i < j → j < n → val i = val j → (met val n).length < n
  | n + 1, i, j, h1, h2, h3 => by
    have hl := met_le val n
    rw [met_succ, add_len]
    by_cases e : j = n
    · subst e
      rw [if_pos (by rw [← h3]; exact met_mem h1)]
      omega
    · have := met_lt (val := val) (n := n) h1 (by omega) h3
      split <;> omega
theorem distinct_len {w : List Nat} (h : w.Nodup) : (met (sg (S w)) (S w).cps.size).length = w.length := by
  rw [S_size, met_all, List.length_map, List.length_range]
  intro i j hi hj e
  have e := sg_inj e
  have hp := List.pairwise_iff_getElem.mp h i j (by omega) hj hi
  rw [List.getD_eq_getElem?_getD, List.getD_eq_getElem?_getD, List.getElem?_eq_getElem hj, List.getElem?_eq_getElem (by omega)] at e
  exact hp e
theorem dup_len {w : List Nat} (h : ¬ w.Nodup) : (met (sg (S w)) (S w).cps.size).length < w.length := by
  rw [S_size]
  have : ¬ ∀ i j (hi : i < w.length) (hj : j < w.length), i < j → w[i] ≠ w[j] := fun z => h (List.pairwise_iff_getElem.mpr z)
  simp only [Classical.not_forall, Classical.not_not] at this
  obtain ⟨i, j, hi, hj, hij, e⟩ := this
  refine met_lt (i := i) (j := j) hij hj ?_
  rw [sg_eq, sg_eq, List.getD_eq_getElem?_getD, List.getD_eq_getElem?_getD, List.getElem?_eq_getElem hi, List.getElem?_eq_getElem hj]
  show S [w[i]] = S [w[j]]
  rw [e]
def sp_refuse_twice (K : PySem.W.Frag) (CT : Addr) : Sp := fun vs H Q E => ∃ (d : Dr) (v : V), vs = [v] ∧ DA H d v ∧ (∀ w, d = .text w → w.length ≤ 100) ∧ (Apart d → ∀ H', Same H H' → Q .non H') ∧ (¬ Apart d → ∀ H', Same H H' → E (.ref CT) none H')
theorem ok_refuse_twice {k : Nat} {C_CountError : Addr} {C_NoNote : Addr} {C_Crowded : Addr} {C_Twice : Addr} {C_NoRange : Addr} {C_NoteReader : Addr} (R : g.Raw "refuse_twice" "refuse_twice" s_refuse_twice ["draft"]) (F_shapes_within : g.Fn k "shapes_within" ["shape"] (sp_shapes_within g.K 1)) (b_len : g.mg "len" = none) (b_set : g.mg "set" = none) (x_Twice : g.mg "Twice" = some (.ref C_Twice)) (r_Twice : PySem.W.excIn g.K C_Twice veLine "ValueError.__new__" = true) : g.FnX (k + 1) "refuse_twice" ["draft"] (sp_refuse_twice g.K C_Twice) := by
  refine R.fnX sc_refuse_twice (fun vs H Q E h => by obtain ⟨d, v, rfl, hd, hwl, q, qe⟩ := h; rfl) fun f_ cdv A outer s H vs Q E hr h => ?_
  obtain ⟨d, v, rfl, hd, hwl, q, qe⟩ := h
  refine ⟨_, (@pss_one _ _ _ (@ps_for _ _ _ _ _ _ _ _ PassesOwn.leaving rfl (@pi_list _ _ _ _ (@pe_fn _ _ _ _ _ _ _ _ _ _ _ _ F_shapes_within hr (@pa_cons _ _ _ _ _ (@pv _ 0 _ _ (by rfl) (by first | exact Or.inl rfl | exact Or.inr (Or.inl rfl) | exact Or.inr (Or.inr rfl)) (by decide) (by decide)) pa_nil (by rfl)) (by omega) (by rfl) (by rfl) (by decide) (by rfl) (by rfl))) (@pg_name _ _ (1) _ sc_refuse_twice.nd rfl (Or.inl rfl) (by first | exact .inl rfl | exact .inr rfl | assumption)) (@pss_cons _ _ _ _ _ (@ps_if _ _ _ _ _ _ _ _ (@pw_and _ _ _ _ _ _ _ (@pt_cmpR _ _ _ _ _ _ _ _ op_eq (@pe_ix _ _ _ _ _ _ _ ix_tup (@pv _ 1 _ _ (by rfl) (by first | exact Or.inl rfl | exact Or.inr (Or.inl rfl) | exact Or.inr (Or.inr rfl)) (by decide) (by decide)) pe_int (fun _ _ => rfl)) pe_str (nomark _)) (@pw_and1 _ _ _ _ (@pt_cmpR _ _ _ _ _ _ _ _ op_lt (@pe_bf _ _ _ _ _ _ _ _ _ _ b_len call_len_setO (@pa_cons _ _ _ _ _ (@pe_bt _ _ _ _ _ _ _ _ _ _ b_set call_set_text (@pa_cons _ _ _ _ _ (@pe_ix _ _ _ _ _ _ _ ix_tup (@pv _ 1 _ _ (by rfl) (by first | exact Or.inl rfl | exact Or.inr (Or.inl rfl) | exact Or.inr (Or.inr rfl)) (by decide) (by decide)) pe_int (fun _ _ => rfl)) pa_nil (by rfl)) (by decide +kernel) (by rfl) (by rfl) (by decide) (by decide) (by rfl) (by rfl)) pa_nil (by rfl)) (by decide +kernel) (by rfl) (by rfl) (by decide) (by decide) (by rfl) (by rfl)) (@pe_bf _ _ _ _ _ _ _ _ _ _ b_len call_len_str (@pa_cons _ _ _ _ _ (@pe_ix _ _ _ _ _ _ _ ix_tup (@pv _ 1 _ _ (by rfl) (by first | exact Or.inl rfl | exact Or.inr (Or.inl rfl) | exact Or.inr (Or.inr rfl)) (by decide) (by decide)) pe_int (fun _ _ => rfl)) pa_nil (by rfl)) (by decide +kernel) (by rfl) (by rfl) (by decide) (by decide) (by rfl) (by rfl)) (nomark _)))).pt (@pss_one _ _ _ (@ps_raise _ _ _ _ _ _ _ _ _ _ _ ⟨x_Twice, r_Twice⟩ raiseF (@pa_cons _ _ _ _ _ pe_str pa_nil (by rfl)) (by rfl) (by rfl) (by rfl) (by decide) (by rfl) (by rfl))) pss_nil) (@pss_one _ _ _ (@ps_if _ _ _ _ _ _ _ _ (@pw_and _ _ _ _ _ _ _ (@pt_cmpR _ _ _ _ _ _ _ _ op_eq (@pe_ix _ _ _ _ _ _ _ ix_tup (@pv _ 1 _ _ (by rfl) (by first | exact Or.inl rfl | exact Or.inr (Or.inl rfl) | exact Or.inr (Or.inr rfl)) (by decide) (by decide)) pe_int (fun _ _ => rfl)) pe_str (nomark _)) (@pw_and1 _ _ _ _ pt_never)).pt (@pss_one _ _ _ (@ps_raise _ _ _ _ _ _ _ _ _ _ _ ⟨x_Twice, r_Twice⟩ raiseF (@pa_cons _ _ _ _ _ pe_str pa_nil (by rfl)) (by rfl) (by rfl) (by rfl) (by decide) (by rfl) (by rfl))) pss_nil))) (by intro _; rfl))), ?_⟩
  refine tFor_listN (K := g.K) (xs := [v]) (fun c i σ' H' => ∃ o, σ' = [some v, o] ∧ Same H H' ∧ H' c = some (.lst [v]) ∧ (i = 1 → Apart d)) (fun R r => ?_) (fun c i σ' H' _ h => by obtain ⟨o, _, _, h, _⟩ := h; exact SqL.of h) ?_ ?_
  · walk_at "rd"
    exact ⟨d, v, by decide, rfl, hd, fun c H1 s1 h1 => r c H1 ⟨none, rfl, s1, h1, fun z => by cases z⟩⟩
  · rintro c i x σ' H' hx ⟨o, rfl, s1, h1, _⟩
    obtain ⟨rfl, rfl⟩ : i = 0 ∧ v = x := by
      match i, hx with
      | 0, hx => exact ⟨rfl, by simpa using hx⟩
    have hd1 := hd.keep s1
    walk_at "rd"
    cases d with
    | whole i j =>
      obtain ⟨p, rfl, hp⟩ := hd1
      refine ⟨p, rfl, _, SqT.of hp, _, rfl, rfl, iteN (fun z => ?_) ⟨p, rfl, _, SqT.of hp, _, rfl, rfl, iteN (fun z => ?_) ⟨s1, h1, fun _ => trivial⟩⟩⟩
      · injection z with z
        exact absurd z (by decide +kernel)
      · injection z with z
        exact absurd z (by decide +kernel)
    | text w =>
      obtain ⟨p, rfl, hp⟩ := hd1
      have hwl' := hwl w rfl
      have hsw := S_len w
      refine ⟨p, rfl, _, SqT.of hp, _, rfl, rfl, iteY (by rw [s_text]) ⟨p, rfl, _, SqT.of hp, _, rfl, S w, rfl, by omega, fun a ha => ?_⟩⟩
      have u := Same.upd_new ha (SetO a (met (sg (S w)) (S w).cps.size).length)
      refine ⟨_, upd_same, p, rfl, _, SqT.of (u _ _ hp), _, rfl, S w, rfl, few (by omega), ite2 (fun c1 => ⟨few (by decide), qe (fun z => ?_) _ (s1.trans u)⟩) fun c1 => ⟨p, rfl, _, SqT.of (u _ _ hp), _, rfl, rfl, iteN (fun z => ?_) ⟨s1.trans u, u _ _ h1, fun _ => ?_⟩⟩⟩
      · rw [distinct_len z] at c1
        omega
      · injection z with z
        exact absurd z (by decide +kernel)
      · by_cases z : w.Nodup
        · exact z
        · have := dup_len z
          omega
  · rintro c σ' H' ⟨o, rfl, s1, h1, h2⟩
    exact q (h2 rfl) H' s1
end KW
set_option maxHeartbeats 8000000
namespace KW
open PySem L2

variable {g : Gx}
variable {C : Addr}
local macro_rules | `(tactic| walk_at "gn") => `(tactic| simp only [gName, List.set_cons_zero, List.set_cons_succ])

local macro_rules | `(tactic| walk_at "rd") => `(tactic| simp (config := { failIfUnchanged := false, maxSteps := 10000000 }) only [L2.start, cxOf_K, nox_K, List.map_cons, List.map_nil, List.length_cons, List.length_nil, List.cons_append, List.nil_append, List.replicate_succ, List.replicate_zero, Nat.zero_add, Nat.reduceAdd, Nat.reduceSub, Nat.sub_self, tSeq, tIfS, tTest, tOp, tC, tVar, rI0, rI, rU, tUn, tRet, tRetN, tDrop, tNext, tBreak, tCont, tAsg, gName, gNil, gCons, tCons, tNil, tCB, tCall, tTry, tTryAs, tRaise, sFld, tFld, tMake, tMeth, Ends.gone, caught_K, tB, tAnd, tOr, tNot, tAndV, tOrV, tNotV, tIf, tChain, tNoPart, tPart, tSl, tNever, tAug, rIxL, rIxT, rSlL, tLst, tTup, gTup, tRev, tLZ, tConT, tDict0, rBits, rFind, rIn, tBM, tBM0, rAppend, rReverse, rEq, rNe, scal_ii, scal_ss, rCat, rSetL, gSub, ipI, capSt, List.getD_cons_zero, List.getD_cons_succ, decide_true, not_true_eq_false, not_false_eq_true,
  exists_eq_left', exists_eq_left, exists_eq', exists_eq, exists_and_left, and_assoc, Option.some.injEq, V.int.injEq, V.bl.injEq, V.ref.injEq, V.str.injEq, List.getElem?_cons_zero, List.getElem?_cons_succ, List.set_cons_zero, List.set_cons_succ, List.cons.injEq, and_true, true_and, List.append_nil, decide_eq_true_eq, Bool.not_eq_true', decide_eq_false_iff_not, Bool.not_not, Bool.not_true, Bool.not_false, Bool.true_eq_false, Bool.false_eq_true, if_true, if_false, ite_true, ite_false])

def sp_read_shape (K : PySem.W.Frag) (CN CT CR : Addr) : Sp := fun vs H Q E => ∃ (s : Src), vs = [.str (S s.txt)] ∧ s.ok ∧ (∀ d v H', Says s d → Apart d → Range d → DA H' d v → Same H H' → Q v H') ∧ (Bad s → ∀ H', Same H H' → E (.ref CN) none H') ∧ (∀ d, Says s d → ¬ Apart d → ∀ H', Same H H' → E (.ref CT) none H') ∧ (∀ d, Says s d → Apart d → ¬ Range d → ∀ H', Same H H' → E (.ref CR) none H')
theorem ok_read_shape {k : Nat} {C_CountError : Addr} {C_NoNote : Addr} {C_Crowded : Addr} {C_Twice : Addr} {C_NoRange : Addr} {C_NoteReader : Addr} (R : g.Raw "read_shape" "read_shape" s_read_shape ["text"]) (F_read_draft : g.FnX k "read_draft" ["text"] (sp_read_draft g.K C_NoNote)) (F_refuse_twice : g.FnX k "refuse_twice" ["draft"] (sp_refuse_twice g.K C_Twice)) (F_refuse_no_range : g.FnX k "refuse_no_range" ["draft"] (sp_refuse_no_range g.K C_NoRange)) : g.FnX (k + 1) "read_shape" ["text"] (sp_read_shape g.K C_NoNote C_Twice C_NoRange) := by
  refine R.fnX sc_read_shape (fun vs H Q E h => by obtain ⟨s, rfl, hok, q, qn, qt, qr⟩ := h; rfl) fun f_ cdv A outer s H vs Q E hr h => ?_
  obtain ⟨s, rfl, hok, q, qn, qt, qr⟩ := h
  refine ⟨_, (@pss_cons _ _ _ _ _ (@ps_set _ _ (1) _ _ _ _ sc_read_shape.nd rfl (Or.inl rfl) (@pe_fnX _ _ _ _ _ _ _ _ _ _ _ _ _ F_read_draft hr passF (@pa_cons _ _ _ _ _ (@pv _ 0 _ _ (by rfl) (by first | exact Or.inl rfl | exact Or.inr (Or.inl rfl) | exact Or.inr (Or.inr rfl)) (by decide) (by decide)) pa_nil (by rfl)) (by omega) (by rfl) (by rfl) (by decide) (by rfl) (by rfl)) (by rfl) (by first | exact .inl rfl | exact .inr rfl | assumption)) (@pss_cons _ _ _ _ _ (@ps_expr _ _ _ _ (@pe_fnX _ _ _ _ _ _ _ _ _ _ _ _ _ F_refuse_twice hr passF (@pa_cons _ _ _ _ _ (@pv _ 1 _ _ (by rfl) (by first | exact Or.inl rfl | exact Or.inr (Or.inl rfl) | exact Or.inr (Or.inr rfl)) (by decide) (by decide)) pa_nil (by rfl)) (by omega) (by rfl) (by rfl) (by decide) (by rfl) (by rfl)) (by rfl)) (@pss_cons _ _ _ _ _ (@ps_expr _ _ _ _ (@pe_fnX _ _ _ _ _ _ _ _ _ _ _ _ _ F_refuse_no_range hr passF (@pa_cons _ _ _ _ _ (@pv _ 1 _ _ (by rfl) (by first | exact Or.inl rfl | exact Or.inr (Or.inl rfl) | exact Or.inr (Or.inr rfl)) (by decide) (by decide)) pa_nil (by rfl)) (by omega) (by rfl) (by rfl) (by decide) (by rfl) (by rfl)) (by rfl)) (@pss_one _ _ _ (PS.nox (@ps_ret _ _ _ _ (@pv _ 1 _ _ (by rfl) (by first | exact Or.inl rfl | exact Or.inr (Or.inl rfl) | exact Or.inr (Or.inr rfl)) (by decide) (by decide)))))))), ?_⟩
  walk_at "rd"
  refine ⟨s, rfl, hok, fun d v H1 hs ha s1 => ⟨d, v, rfl, ha, fun w e => ?_, fun hap H2 s2 => ⟨d, v, rfl, ha.keep s2, fun hr H3 s3 => q d v H3 hs hap hr ((ha.keep s2).keep s3) ((s1.trans s2).trans s3), fun hr H3 s3 => qr d hs hap hr H3 ((s1.trans s2).trans s3)⟩, fun hap H2 s2 => qt d hs hap H2 (s1.trans s2)⟩, fun hb H1 s1 => qn hb H1 s1⟩
  subst e
  cases s with
  | two a b => exact hs.elim
  | one w' =>
    obtain ⟨rfl, _⟩ := hs
    have h2 := ((Bool.and_eq_true _ _).mp hok).2
    have h3 : 1 ≤ w.length ∧ w.length ≤ 62 := by simpa [Rd.wordOk] using h2
    omega
end KW
set_option maxHeartbeats 8000000
namespace KW
open PySem L2

variable {g : Gx}
variable {C : Addr}
local macro_rules | `(tactic| walk_at "gn") => `(tactic| simp only [gName, List.set_cons_zero, List.set_cons_succ])

local macro_rules | `(tactic| walk_at "rd") => `(tactic| simp (config := { failIfUnchanged := false, maxSteps := 10000000 }) only [L2.start, cxOf_K, nox_K, List.map_cons, List.map_nil, List.length_cons, List.length_nil, List.cons_append, List.nil_append, List.replicate_succ, List.replicate_zero, Nat.zero_add, Nat.reduceAdd, Nat.reduceSub, Nat.sub_self, tSeq, tIfS, tTest, tOp, tC, tVar, rI0, rI, rU, tUn, tRet, tRetN, tDrop, tNext, tBreak, tCont, tAsg, gName, gNil, gCons, tCons, tNil, tCB, tCall, tTry, tTryAs, tRaise, sFld, tFld, tMake, tMeth, Ends.gone, caught_K, tB, tAnd, tOr, tNot, tAndV, tOrV, tNotV, tIf, tChain, tNoPart, tPart, tSl, tNever, tAug, rIxL, rIxT, rSlL, tLst, tTup, gTup, tRev, tLZ, tConT, tDict0, rBits, rFind, rIn, tBM, tBM0, rAppend, rReverse, rEq, rNe, scal_ii, scal_ss, rCat, rSetL, gSub, ipI, capSt, List.getD_cons_zero, List.getD_cons_succ, decide_true, not_true_eq_false, not_false_eq_true,
  exists_eq_left', exists_eq_left, exists_eq', exists_eq, exists_and_left, and_assoc, Option.some.injEq, V.int.injEq, V.bl.injEq, V.ref.injEq, V.str.injEq, List.getElem?_cons_zero, List.getElem?_cons_succ, List.set_cons_zero, List.set_cons_succ, List.cons.injEq, and_true, true_and, List.append_nil, decide_eq_true_eq, Bool.not_eq_true', decide_eq_false_iff_not, Bool.not_not, Bool.not_true, Bool.not_false, Bool.true_eq_false, Bool.false_eq_true, if_true, if_false, ite_true, ite_false])

theorem big_log {i : Int} (h : i.natAbs < 10 ^ 60) : i.natAbs.log2 < 1920 := by
  rcases Nat.eq_zero_or_pos i.natAbs with h0 | h0
  · rw [h0]; decide
  · rw [Nat.log2_lt (by omega)]
    exact Nat.lt_trans h (by decide +kernel)
theorem join1 (z a : Str) : Txt.join z [a] = a := by simp [Txt.join, Builtin.Str.glued]
theorem join2 (z a b : Str) : Txt.join z [a, b] = a ++ (z ++ b) := by simp [Txt.join, Builtin.Str.glued]; rfl
theorem dg_max {i : Int} (h : i.natAbs < 10 ^ 60) : (dg i).length ≤ 61 := by
  have hl := dg_len (k := 60) (by decide) h
  rcases Int.natAbs_eq i with e | e
  · rw [e]; omega
  · by_cases h0 : i.natAbs = 0
    · have : i = 0 := by omega
      subst this
      exact Nat.le_trans hl (by decide)
    · have := dg_neg (n := i.natAbs) (by omega)
      rw [← e] at this
      rw [this, List.length_cons]; omega
def sp_shown_within (K : PySem.W.Frag) : Sp := fun vs H Q _ => ∃ (d : Dr) (v : V), vs = [v] ∧ DA H d v ∧ (∀ i j, d = .whole i j → i.natAbs < 10 ^ 60 ∧ j.natAbs < 10 ^ 60) ∧ (∀ i j p H', d = .whole i j → Same H H' → H' p = some (.lst [.str (S (dg i)), .str (S (dg j))]) → Q (.ref p) H') ∧ (∀ w p H', d = .text w → Same H H' → H' p = some (.lst [.str (S w)]) → Q (.ref p) H')
theorem ok_shown_within {C_CountError : Addr} {C_NoNote : Addr} {C_Crowded : Addr} {C_Twice : Addr} {C_NoRange : Addr} {C_NoteReader : Addr} (R : g.Raw "shown_within" "shown_within" s_shown_within ["shape"]) (b_str : g.mg "str" = none) : g.Fn (1) "shown_within" ["shape"] (sp_shown_within g.K) := by
  refine R.fn sc_shown_within (fun vs H Q E h => by obtain ⟨d, v, rfl, hd, hb, q1, q2⟩ := h; rfl) fun f_ cdv A outer s H vs Q E hr h => ?_
  obtain ⟨d, v, rfl, hd, hb, q1, q2⟩ := h
  refine ⟨_, (@pss_cons _ _ _ _ _ (@ps_set _ _ (1) _ _ _ _ sc_shown_within.nd rfl (Or.inl rfl) (@pe_ix _ _ _ _ _ _ _ ix_tup (@pv _ 0 _ _ (by rfl) (by first | exact Or.inl rfl | exact Or.inr (Or.inl rfl) | exact Or.inr (Or.inr rfl)) (by decide) (by decide)) pe_int (fun _ _ => rfl)) (by rfl) (by first | exact .inl rfl | exact .inr rfl | assumption)) (@pss_cons _ _ _ _ _ (@ps_if _ _ _ _ _ _ _ _ (@pt_cmpR _ _ _ _ _ _ _ _ op_eq (@pv _ 1 _ _ (by rfl) (by first | exact Or.inl rfl | exact Or.inr (Or.inl rfl) | exact Or.inr (Or.inr rfl)) (by decide) (by decide)) pe_str (nomark _)) (@pss_one _ _ _ (@ps_ret _ _ _ _ (@pe_lst _ _ _ _ (@pa_cons _ _ _ _ _ (@pe_bt _ _ _ _ _ _ _ _ _ _ b_str call_str_int (@pa_cons _ _ _ _ _ (@pe_ix _ _ _ _ _ _ _ ix_tup (@pv _ 0 _ _ (by rfl) (by first | exact Or.inl rfl | exact Or.inr (Or.inl rfl) | exact Or.inr (Or.inr rfl)) (by decide) (by decide)) pe_int (fun _ _ => rfl)) pa_nil (by rfl)) (by decide +kernel) (by rfl) (by rfl) (by decide) (by decide) (by rfl) (by rfl)) (@pa_cons _ _ _ _ _ (@pe_bt _ _ _ _ _ _ _ _ _ _ b_str call_str_int (@pa_cons _ _ _ _ _ (@pe_ix _ _ _ _ _ _ _ ix_tup (@pv _ 0 _ _ (by rfl) (by first | exact Or.inl rfl | exact Or.inr (Or.inl rfl) | exact Or.inr (Or.inr rfl)) (by decide) (by decide)) pe_int (fun _ _ => rfl)) pa_nil (by rfl)) (by decide +kernel) (by rfl) (by rfl) (by decide) (by decide) (by rfl) (by rfl)) pa_nil (by rfl)) (by rfl))))) pss_nil) (@pss_cons _ _ _ _ _ (@ps_if _ _ _ _ _ _ _ _ (@pt_cmpR _ _ _ _ _ _ _ _ op_eq (@pv _ 1 _ _ (by rfl) (by first | exact Or.inl rfl | exact Or.inr (Or.inl rfl) | exact Or.inr (Or.inr rfl)) (by decide) (by decide)) pe_str (nomark _)) (@pss_one _ _ _ (@ps_ret _ _ _ _ (@pe_lst _ _ _ _ (@pa_cons _ _ _ _ _ (@pe_ix _ _ _ _ _ _ _ ix_tup (@pv _ 0 _ _ (by rfl) (by first | exact Or.inl rfl | exact Or.inr (Or.inl rfl) | exact Or.inr (Or.inr rfl)) (by decide) (by decide)) pe_int (fun _ _ => rfl)) pa_nil (by rfl))))) pss_nil) (@pss_cons _ _ _ _ _ (@ps_if _ _ _ _ _ _ _ _ (@pt_cmpR _ _ _ _ _ _ _ _ op_eq (@pv _ 1 _ _ (by rfl) (by first | exact Or.inl rfl | exact Or.inr (Or.inl rfl) | exact Or.inr (Or.inr rfl)) (by decide) (by decide)) pe_str (nomark _)) (@pss_one _ _ _ ps_never) pss_nil) (@pss_cons _ _ _ _ _ ps_never (@pss_cons _ _ _ _ _ ps_never (@pss_one _ _ _ ps_never))))))), ?_⟩
  walk_at "rd"
  cases d with
  | whole i j =>
    obtain ⟨p, rfl, hp⟩ := hd
    obtain ⟨b1, b2⟩ := hb i j rfl
    refine ⟨p, rfl, _, SqT.of hp, _, rfl, rfl, iteY (by rw [s_whole]) ⟨p, rfl, _, SqT.of hp, _, rfl, i, rfl, big_log b1, p, rfl, _, SqT.of hp, _, rfl, j, rfl, big_log b2, few (by decide), fun l hl => ?_⟩⟩
    rw [dg_str, dg_str]
    exact q1 i j l _ rfl (.upd_new hl _) upd_same
  | text w =>
    obtain ⟨p, rfl, hp⟩ := hd
    refine ⟨p, rfl, _, SqT.of hp, _, rfl, rfl, iteN (fun z => ?_) ⟨rfl, iteY (by rw [s_text]) ⟨p, rfl, _, SqT.of hp, _, rfl, few (by decide), fun l hl => q2 w l _ rfl (.upd_new hl _) upd_same⟩⟩⟩
    rw [s_whole] at z
    injection z with z
    exact absurd (S_inj z) (by decide)
end KW
set_option maxHeartbeats 8000000
namespace KW
open PySem L2

variable {g : Gx}
variable {C : Addr}
local macro_rules | `(tactic| walk_at "gn") => `(tactic| simp only [gName, List.set_cons_zero, List.set_cons_succ])

local macro_rules | `(tactic| walk_at "rd") => `(tactic| simp (config := { failIfUnchanged := false, maxSteps := 10000000 }) only [L2.start, cxOf_K, nox_K, List.map_cons, List.map_nil, List.length_cons, List.length_nil, List.cons_append, List.nil_append, List.replicate_succ, List.replicate_zero, Nat.zero_add, Nat.reduceAdd, Nat.reduceSub, Nat.sub_self, tSeq, tIfS, tTest, tOp, tC, tVar, rI0, rI, rU, tUn, tRet, tRetN, tDrop, tNext, tBreak, tCont, tAsg, gName, gNil, gCons, tCons, tNil, tCB, tCall, tTry, tTryAs, tRaise, sFld, tFld, tMake, tMeth, Ends.gone, caught_K, tB, tAnd, tOr, tNot, tAndV, tOrV, tNotV, tIf, tChain, tNoPart, tPart, tSl, tNever, tAug, rIxL, rIxT, rSlL, tLst, tTup, gTup, tRev, tLZ, tConT, tDict0, rBits, rFind, rIn, tBM, tBM0, rAppend, rReverse, rEq, rNe, scal_ii, scal_ss, rCat, rSetL, gSub, ipI, capSt, List.getD_cons_zero, List.getD_cons_succ, decide_true, not_true_eq_false, not_false_eq_true,
  exists_eq_left', exists_eq_left, exists_eq', exists_eq, exists_and_left, and_assoc, Option.some.injEq, V.int.injEq, V.bl.injEq, V.ref.injEq, V.str.injEq, List.getElem?_cons_zero, List.getElem?_cons_succ, List.set_cons_zero, List.set_cons_succ, List.cons.injEq, and_true, true_and, List.append_nil, decide_eq_true_eq, Bool.not_eq_true', decide_eq_false_iff_not, Bool.not_not, Bool.not_true, Bool.not_false, Bool.true_eq_false, Bool.false_eq_true, if_true, if_false, ite_true, ite_false])

def sp_show_shape (K : PySem.W.Frag) : Sp := fun vs H Q _ => ∃ (d : Dr) (v : V), vs = [v] ∧ DA H d v ∧ (∀ i j, d = .whole i j → i.natAbs < 10 ^ 60 ∧ j.natAbs < 10 ^ 60) ∧ (∀ w, d = .text w → w.length ≤ 100) ∧ ∀ H', Same H H' → Q (.str (S d.src.txt)) H'
theorem ok_show_shape {k : Nat} {C_CountError : Addr} {C_NoNote : Addr} {C_Crowded : Addr} {C_Twice : Addr} {C_NoRange : Addr} {C_NoteReader : Addr} (R : g.Raw "show_shape" "show_shape" s_show_shape ["shape"]) (F_shown_within : g.Fn k "shown_within" ["shape"] (sp_shown_within g.K)) : g.Fn (k + 1) "show_shape" ["shape"] (sp_show_shape g.K) := by
  refine R.fn sc_show_shape (fun vs H Q E h => by obtain ⟨d, v, rfl, hd, hb, hwl, q⟩ := h; rfl) fun f_ cdv A outer s H vs Q E hr h => ?_
  obtain ⟨d, v, rfl, hd, hb, hwl, q⟩ := h
  refine ⟨_, (@pss_cons _ _ _ _ _ (@ps_if _ _ _ _ _ _ _ _ (@pt_cmpR _ _ _ _ _ _ _ _ op_eq (@pe_ix _ _ _ _ _ _ _ ix_tup (@pv _ 0 _ _ (by rfl) (by first | exact Or.inl rfl | exact Or.inr (Or.inl rfl) | exact Or.inr (Or.inr rfl)) (by decide) (by decide)) pe_int (fun _ _ => rfl)) pe_str (nomark _)) (@pss_one _ _ _ (@ps_ret _ _ _ _ (@pe_ix _ _ _ _ _ _ _ ix_tup (@pv _ 0 _ _ (by rfl) (by first | exact Or.inl rfl | exact Or.inr (Or.inl rfl) | exact Or.inr (Or.inr rfl)) (by decide) (by decide)) pe_int (fun _ _ => rfl)))) pss_nil) (@pss_one _ _ _ (@ps_ret _ _ _ _ (@pe_op _ _ _ _ _ _ _ _ op_add_str (@pe_op _ _ _ _ _ _ _ _ op_add_str (@pe_op _ _ _ _ _ _ _ _ op_add_str (@pe_ix _ _ _ _ _ _ _ ix_tup (@pv _ 0 _ _ (by rfl) (by first | exact Or.inl rfl | exact Or.inr (Or.inl rfl) | exact Or.inr (Or.inr rfl)) (by decide) (by decide)) pe_int (fun _ _ => rfl)) pe_str) (@pe_bm _ _ _ _ _ _ _ _ _ _ _ _ PySem.F.plainAttrs_str PySem.F.slot_str_join PySem.F.type_str_join mt_join pe_str (@pa_cons _ _ _ _ _ (@pe_fn _ _ _ _ _ _ _ _ _ _ _ _ F_shown_within hr (@pa_cons _ _ _ _ _ (@pv _ 0 _ _ (by rfl) (by first | exact Or.inl rfl | exact Or.inr (Or.inl rfl) | exact Or.inr (Or.inr rfl)) (by decide) (by decide)) pa_nil (by rfl)) (by omega) (by rfl) (by rfl) (by decide) (by rfl) (by rfl)) pa_nil (by rfl)) (by rfl) (by rfl) (by rfl) (by rfl) (by rfl))) pe_str)))), ?_⟩
  have s40 : Str.ofString "(" = S [40] := by decide +kernel
  have s41 : Str.ofString ")" = S [41] := by decide +kernel
  have s44 : Str.ofString "," = S [44] := by decide +kernel
  have big : 2000000 ≤ sizeLine := by decide
  walk_at "rd"
  cases d with
  | whole i j =>
    obtain ⟨p, rfl, hp⟩ := hd
    obtain ⟨b1, b2⟩ := hb i j rfl
    have l1 := dg_max b1
    have l2 := dg_max b2
    have lw : cW.length = 5 := rfl
    refine ⟨p, rfl, _, SqT.of hp, _, rfl, rfl, iteN (fun z => ?_) ⟨p, rfl, _, SqT.of hp, _, rfl, _, rfl, ?_, rfl, .whole i j, _, rfl, ⟨p, rfl, hp⟩, hb, fun i' j' L H1 e s1 hL => ?_, fun w L H1 e => by cases e⟩⟩
    · injection z with z
      exact absurd z (by decide +kernel)
    · rw [s40, S_len, S_len]; simp only [List.length_cons, List.length_nil]; omega
    · cases e
      refine ⟨_, L, [S (dg i), S (dg j)], rfl, rfl, SqL.of hL, ?_, _, rfl, ?_, ?_, ?_⟩
      · rw [s44, S_len]; simp only [List.length_cons, List.length_nil, List.map_cons, List.map_nil, List.sum_cons, List.sum_nil, S_len]; omega
      · rw [join2, s40, s44, S_app, S_app, S_app, S_len, S_len]; simp only [List.length_append, List.length_cons, List.length_nil]; omega
      · rw [join2, s40, s41, s44, S_app, S_app, S_app, S_app, S_len, S_len]; simp only [List.length_append, List.length_cons, List.length_nil]; omega
      · rw [join2, s40, s41, s44, S_app, S_app, S_app, S_app, S_app]
        have hq := q H1 s1
        simpa [Dr.src, Src.txt] using hq
  | text w =>
    obtain ⟨p, rfl, hp⟩ := hd
    have l1 := hwl w rfl
    have lw : cT.length = 4 := rfl
    refine ⟨p, rfl, _, SqT.of hp, _, rfl, rfl, iteN (fun z => ?_) ⟨p, rfl, _, SqT.of hp, _, rfl, _, rfl, ?_, rfl, .text w, _, rfl, ⟨p, rfl, hp⟩, hb, (fun i' j' L H1 e => by cases e), fun w' L H1 e s1 hL => ?_⟩⟩
    · injection z with z
      exact absurd z (by decide +kernel)
    · rw [s40, S_len, S_len]; simp only [List.length_cons, List.length_nil]; omega
    · cases e
      refine ⟨_, L, [S w], rfl, rfl, SqL.of hL, ?_, _, rfl, ?_, ?_, ?_⟩
      · rw [s44, S_len]; simp only [List.length_cons, List.length_nil, List.map_cons, List.map_nil, List.sum_cons, List.sum_nil, S_len]; omega
      · rw [join1, s40, S_app, S_len, S_len]; simp only [List.length_append, List.length_cons, List.length_nil]; omega
      · rw [join1, s40, s41, S_app, S_app, S_len, S_len]; simp only [List.length_append, List.length_cons, List.length_nil]; omega
      · rw [join1, s40, s41, S_app, S_app, S_app]
        have hq := q H1 s1
        simpa [Dr.src, Src.txt] using hq
end KW
set_option maxHeartbeats 8000000
namespace KW
open PySem L2

variable {g : Gx}
variable {C : Addr}
local macro_rules | `(tactic| walk_at "gn") => `(tactic| simp only [gName, List.set_cons_zero, List.set_cons_succ])

local macro_rules | `(tactic| walk_at "rd") => `(tactic| simp (config := { failIfUnchanged := false, maxSteps := 10000000 }) only [L2.start, cxOf_K, nox_K, List.map_cons, List.map_nil, List.length_cons, List.length_nil, List.cons_append, List.nil_append, List.replicate_succ, List.replicate_zero, Nat.zero_add, Nat.reduceAdd, Nat.reduceSub, Nat.sub_self, tSeq, tIfS, tTest, tOp, tC, tVar, rI0, rI, rU, tUn, tRet, tRetN, tDrop, tNext, tBreak, tCont, tAsg, gName, gNil, gCons, tCons, tNil, tCB, tCall, tTry, tTryAs, tRaise, sFld, tFld, tMake, tMeth, Ends.gone, caught_K, tB, tAnd, tOr, tNot, tAndV, tOrV, tNotV, tIf, tChain, tNoPart, tPart, tSl, tNever, tAug, rIxL, rIxT, rSlL, tLst, tTup, gTup, tRev, tLZ, tConT, tDict0, rBits, rFind, rIn, tBM, tBM0, rAppend, rReverse, rEq, rNe, scal_ii, scal_ss, rCat, rSetL, gSub, ipI, capSt, List.getD_cons_zero, List.getD_cons_succ, decide_true, not_true_eq_false, not_false_eq_true,
  exists_eq_left', exists_eq_left, exists_eq', exists_eq, exists_and_left, and_assoc, Option.some.injEq, V.int.injEq, V.bl.injEq, V.ref.injEq, V.str.injEq, List.getElem?_cons_zero, List.getElem?_cons_succ, List.set_cons_zero, List.set_cons_succ, List.cons.injEq, and_true, true_and, List.append_nil, decide_eq_true_eq, Bool.not_eq_true', decide_eq_false_iff_not, Bool.not_not, Bool.not_true, Bool.not_false, Bool.true_eq_false, Bool.false_eq_true, if_true, if_false, ite_true, ite_false])

def sp_law_number (K : PySem.W.Frag) : Sp := fun vs H Q _ => ∃ w : List Nat, vs = [.str (S w)] ∧ w.length ≤ 1000 ∧ ∀ H', Same H H' → Q (.bl (numB w)) H'
theorem ok_law_number {C_CountError : Addr} {C_NoNote : Addr} {C_Crowded : Addr} {C_Twice : Addr} {C_NoRange : Addr} {C_NoteReader : Addr} (R : g.Raw "_law_number" "_law_number" s_law_number ["_law_text"]) (b_all : g.mg "all" = none) (b_len : g.mg "len" = none) : g.Fn (1) "_law_number" ["_law_text"] (sp_law_number g.K) := by
  refine R.fn sc_law_number (fun vs H Q E h => by obtain ⟨w, rfl, hl, q⟩ := h; rfl) fun f_ cdv A outer s H vs Q E hr h => ?_
  obtain ⟨w, rfl, hl, q⟩ := h
  refine ⟨_, (@pss_cons _ _ _ _ _ (@ps_set _ _ (1) _ _ _ _ sc_law_number.nd rfl (Or.inl rfl) (@pv _ 0 _ _ (by rfl) (by first | exact Or.inl rfl | exact Or.inr (Or.inl rfl) | exact Or.inr (Or.inr rfl)) (by decide) (by decide)) (by rfl) (by first | exact .inl rfl | exact .inr rfl | assumption)) (@pss_cons _ _ _ _ _ (@ps_if _ _ _ _ _ _ _ _ (@pt_cmpR _ _ _ _ _ _ _ _ op_eq (@pe_slice _ _ _ _ _ _ _ _ _ _ sl_str (@pv _ 0 _ _ (by rfl) (by first | exact Or.inl rfl | exact Or.inr (Or.inl rfl) | exact Or.inr (Or.inr rfl)) (by decide) (by decide)) po_none (@po_some _ _ _ pe_int)) pe_str (nomark _)) (@pss_one _ _ _ (@ps_set _ _ (1) _ _ _ _ sc_law_number.nd rfl (Or.inl rfl) (@pe_slice _ _ _ _ _ _ _ _ _ _ sl_str (@pv _ 0 _ _ (by rfl) (by first | exact Or.inl rfl | exact Or.inr (Or.inl rfl) | exact Or.inr (Or.inr rfl)) (by decide) (by decide)) (@po_some _ _ _ pe_int) po_none) (by rfl) (by first | exact .inl rfl | exact .inr rfl | assumption))) pss_nil) (@pss_cons _ _ _ _ _ (@ps_if _ _ _ _ _ _ _ _ (@pw_or _ _ _ _ _ _ _ (@pt_cmpR _ _ _ _ _ _ _ _ op_eq (@pv _ 1 _ _ (by rfl) (by first | exact Or.inl rfl | exact Or.inr (Or.inl rfl) | exact Or.inr (Or.inr rfl)) (by decide) (by decide)) pe_str (nomark _)) (@pw_or _ _ _ _ _ _ _ (@pt_cmpR _ _ _ _ _ _ _ _ op_gt (@pe_bf _ _ _ _ _ _ _ _ _ _ b_len call_len_str (@pa_cons _ _ _ _ _ (@pv _ 1 _ _ (by rfl) (by first | exact Or.inl rfl | exact Or.inr (Or.inl rfl) | exact Or.inr (Or.inr rfl)) (by decide) (by decide)) pa_nil (by rfl)) (by decide +kernel) (by rfl) (by rfl) (by decide) (by decide) (by rfl) (by rfl)) pe_int (nomark _)) (@pw_or1 _ _ _ _ (@pt_not _ _ _ _ (@pt_val _ _ _ (@pe_bf _ _ _ _ _ _ _ _ _ _ b_all (call_all_bools rfl) (@pa_cons _ _ _ _ _ (@pe_lc _ _ _ _ _ _ _ ([none]) ((["_law_sign"] : List Str)) _ (gName 0) _ _ (.own .nil) rfl (@pi_str _ _ _ _ (@pv _ 1 _ _ (by rfl) (by first | exact Or.inl rfl | exact Or.inr (Or.inl rfl) | exact Or.inr (Or.inr rfl)) (by decide) (by decide))) (fun cl C s₀ H₀ fp pn => (@pg_name _ _ (0) _ (show List.Nodup (["_law_sign"] : List Str) by decide +kernel) rfl (Or.inl rfl) (Or.inr rfl))) (fun cl C s₀ H₀ fp pn => pts_nil) (fun cl C s₀ H₀ fp pn => (@pe_cmpR _ _ _ _ _ _ _ _ op_in_str (@pv _ 0 _ _ (by rfl) (by first | exact Or.inl rfl | exact Or.inr (Or.inl rfl) | exact Or.inr (Or.inr rfl)) (by decide) (by decide)) pe_str rfl)) (by intro x hx; simp at hx) (by rfl) (by decide) (by decide +kernel) (by intro _; rfl)) pa_nil (by rfl)) (by decide +kernel) (by rfl) (by rfl) (by decide) (by decide) (by rfl) (by rfl)) (by intro _; rfl)))))).pt (@pss_one _ _ _ (@ps_ret _ _ _ _ pe_bl)) pss_nil) (@pss_one _ _ _ (@ps_ret _ _ _ _ (@pe_or _ _ _ _ _ _ _ (@pe_cmpR _ _ _ _ _ _ _ _ op_ne (@pe_ix _ _ _ _ _ _ _ ix_str (@pv _ 1 _ _ (by rfl) (by first | exact Or.inl rfl | exact Or.inr (Or.inl rfl) | exact Or.inr (Or.inr rfl)) (by decide) (by decide)) pe_int (fun _ _ => rfl)) pe_str (nomark _)) (@pe_one _ _ _ _ _ (@pe_cmpR _ _ _ _ _ _ _ _ op_eq (@pv _ 0 _ _ (by rfl) (by first | exact Or.inl rfl | exact Or.inr (Or.inl rfl) | exact Or.inr (Or.inr rfl)) (by decide) (by decide)) pe_str (nomark _))))))))), ?_⟩
  have e0 : Str.ofString "0" = S [48] := by decide +kernel
  have em : Str.ofString "-" = S [45] := by decide +kernel
  have en : Str.ofString "" = S [] := by decide +kernel
  have ed : Str.ofString "0123456789" = S [48, 49, 50, 51, 52, 53, 54, 55, 56, 57] := by decide +kernel
  have hsw := S_len w
  refine cut2 (fun σ H' => σ = [some (.str (S w)), some (.str (S (if w.head? = some 45 then w.drop 1 else w)))] ∧ H' = H) ?_ ?_
  rotate_left
  · intro N hN
    walk_at "rd"
    refine ⟨_, rfl, few (by omega), ?_⟩
    have ec := cutS_hi w 1
    rw [show ((1 : Nat) : Int) = 1 from rfl] at ec
    rw [ec, em]
    refine ⟨rfl, ite2 (fun c => ?_) fun c => ?_⟩
    · have hc : w.head? = some 45 := by
        injection c with c
        exact (Rd.head_take w 45).mp (S_inj c)
      rw [if_pos hc] at hN
      refine ⟨_, rfl, few (by omega), ?_⟩
      have ec2 := cutS_lo w 1
      rw [show ((1 : Nat) : Int) = 1 from rfl] at ec2
      rw [ec2]
      exact hN _ _ ⟨rfl, rfl⟩
    · have hc : ¬ w.head? = some 45 := fun z => c (by rw [(Rd.head_take w 45).mpr z])
      rw [if_neg hc] at hN
      exact hN _ _ ⟨rfl, rfl⟩
  rintro σ H' ⟨rfl, e⟩
  subst e
  have hfl : (if w.head? = some 45 then w.drop 1 else w).length ≤ 1000 := by
    split
    · rw [List.length_drop]; omega
    · exact hl
  have h48 : w = [48] → (if w.head? = some 45 then w.drop 1 else w) = [48] := fun z => by rw [z]; rfl
  have hnb : numB w = ((w == [48]) || (decide (1 ≤ (if w.head? = some 45 then w.drop 1 else w).length) && decide ((if w.head? = some 45 then w.drop 1 else w).length ≤ 60) && !((if w.head? = some 45 then w.drop 1 else w).head? == some 48) && (if w.head? = some 45 then w.drop 1 else w).all Rd.isFig)) := rfl
  generalize (if w.head? = some 45 then w.drop 1 else w) = f at *
  have hsf := S_len f
  walk_at "rd"
  rw [en]
  refine ite2 (fun c => ?_) fun c => ⟨few (by omega), ite2 (fun c2 => ?_) fun c2 => ?_⟩
  · have ef : f = [] := S_inj c
    have hq := q H' (.refl _)
    have hw : (w == [48]) = false := by
      simp only [beq_eq_false_iff_ne]
      intro z
      rw [h48 z] at ef
      cases ef
    rw [hnb, hw, ef] at hq
    exact hq
  · have hq := q H' (.refl _)
    have hw : (w == [48]) = false := by
      simp only [beq_eq_false_iff_ne]
      intro z
      rw [h48 z] at c2 hsf
      simp at c2 hsf
      omega
    rw [hnb, hw, show decide (f.length ≤ 60) = false from decide_eq_false (by omega)] at hq
    simpa using hq
  · refine tLC_str (l := f) ((f.map Rd.isFig).map V.bl) (fun R r => by walk_at "rd"; exact r) (by simp) (by omega) ?_ ?_
    · intro j d y H1 hd hy sm R rr
      rw [List.getElem?_map, List.getElem?_map, hd] at hy
      have : V.bl (Rd.isFig d) = y := Option.some.inj hy
      subst this
      walk_at "rd"
      have hin := in_sign [48, 49, 50, 51, 52, 53, 54, 55, 56, 57] d
      have hfig : decide (d ∈ [48, 49, 50, 51, 52, 53, 54, 55, 56, 57]) = Rd.isFig d := by
        simp only [Rd.isFig, List.mem_cons, List.not_mem_nil, or_false]
        rw [← Bool.decide_and, decide_eq_decide]
        omega
      rw [ed]
      rw [hfig] at hin
      have := rr H1 (.refl _)
      rw [← hin] at this
      exact this
    · intro D H1 hD sm hd
      refine ⟨D, rfl, _, SqL.of hd, ?_⟩
      rw [show (f.map Rd.isFig).all id = f.all Rd.isFig by rw [List.all_map]; rfl]
      have hq := q H1 sm
      refine ite2 (fun c3 => ?_) fun c3 => ?_
      · have hw : (w == [48]) = false := by
          simp only [beq_eq_false_iff_ne]
          intro z
          rw [h48 z] at c3
          exact absurd c3 (by decide)
        rw [hnb, hw, c3] at hq
        simpa using hq
      · have hall : f.all Rd.isFig = true := by
          cases z : f.all Rd.isFig with
          | true => rfl
          | false => exact (c3 z).elim
        match f, c, c2, hsf, hall, hnb, h48 with
        | [], c, _, _, _, _, _ => exact (c rfl).elim
        | x :: r, c, c2, hsf, hall, hnb, h48 =>
          rw [hnb, hall, show decide (1 ≤ (x :: r).length) = true from decide_eq_true (by simp), show decide ((x :: r).length ≤ 60) = true from decide_eq_true (by omega)] at hq
          refine ⟨_, 0, x, rfl, rfl, few (by omega), ?_, rfl, ite2 (fun cz => ?_) fun cz => ?_⟩
          · rw [S_list]
            exact atI_nat (xs := x :: r) (j := 0) rfl
          · have hc : x ≠ 48 := fun z => cz (by rw [z, e0]; rfl)
            have hx : ((x :: r).head? == some 48) = false := by simpa using hc
            rw [hx] at hq
            simpa using hq
          · have hc : x = 48 := by
              have cz' : V.str ⟨#[x]⟩ = V.str (Str.ofString "0") := Classical.not_not.mp cz
              rw [e0] at cz'
              injection cz' with cz'
              have := S_inj (a := [x]) (b := [48]) cz'
              simpa using this
            have hx : ((x :: r).head? == some 48) = true := by simpa using hc
            rw [hx] at hq
            have hd2 : decide (S w = Str.ofString "0") = (w == [48]) := by
              rw [e0]
              by_cases z : w = [48]
              · rw [z]; simp
              · rw [decide_eq_false (fun y => z (S_inj y))]
                exact (beq_eq_false_iff_ne.mpr z).symm
            rw [hd2]
            simpa using hq
end KW
set_option maxHeartbeats 8000000
namespace KW
open PySem L2

variable {g : Gx}
variable {C : Addr}
local macro_rules | `(tactic| walk_at "gn") => `(tactic| simp only [gName, List.set_cons_zero, List.set_cons_succ])

local macro_rules | `(tactic| walk_at "rd") => `(tactic| simp (config := { failIfUnchanged := false, maxSteps := 10000000 }) only [L2.start, cxOf_K, nox_K, List.map_cons, List.map_nil, List.length_cons, List.length_nil, List.cons_append, List.nil_append, List.replicate_succ, List.replicate_zero, Nat.zero_add, Nat.reduceAdd, Nat.reduceSub, Nat.sub_self, tSeq, tIfS, tTest, tOp, tC, tVar, rI0, rI, rU, tUn, tRet, tRetN, tDrop, tNext, tBreak, tCont, tAsg, gName, gNil, gCons, tCons, tNil, tCB, tCall, tTry, tTryAs, tRaise, sFld, tFld, tMake, tMeth, Ends.gone, caught_K, tB, tAnd, tOr, tNot, tAndV, tOrV, tNotV, tIf, tChain, tNoPart, tPart, tSl, tNever, tAug, rIxL, rIxT, rSlL, tLst, tTup, gTup, tRev, tLZ, tConT, tDict0, rBits, rFind, rIn, tBM, tBM0, rAppend, rReverse, rEq, rNe, scal_ii, scal_ss, rCat, rSetL, gSub, ipI, capSt, List.getD_cons_zero, List.getD_cons_succ, decide_true, not_true_eq_false, not_false_eq_true,
  exists_eq_left', exists_eq_left, exists_eq', exists_eq, exists_and_left, and_assoc, Option.some.injEq, V.int.injEq, V.bl.injEq, V.ref.injEq, V.str.injEq, List.getElem?_cons_zero, List.getElem?_cons_succ, List.set_cons_zero, List.set_cons_succ, List.cons.injEq, and_true, true_and, List.append_nil, decide_eq_true_eq, Bool.not_eq_true', decide_eq_false_iff_not, Bool.not_not, Bool.not_true, Bool.not_false, Bool.true_eq_false, Bool.false_eq_true, if_true, if_false, ite_true, ite_false])

def sp_law_signs (K : PySem.W.Frag) : Sp := fun vs H Q _ => ∃ (c : Int) (n : Nat), vs = [.int c, .int (n : Nat)] ∧ n ≤ 62 ∧ ∀ (w : List Nat) H', w.length = n → w.all Rd.isLF = true → w.Nodup → Same H H' → Q (.str (S w)) H'
theorem seqIx {k n : Nat} (h : k < n) : seqIndex? (k : Int) n = some k := by
  unfold seqIndex?
  simp only [show ¬ ((k : Int) < 0) by omega, if_false]
  rw [if_pos]
  · simp
  · simp only [Bool.and_eq_true, decide_eq_true_eq]
    omega
theorem map_erase {α β : Type} (f : α → β) : ∀ (l : List α) (k : Nat), (l.map f).eraseIdx k = (l.eraseIdx k).map f
  | [], _ => rfl
  | _ :: _, 0 => rfl
  | x :: l, k + 1 => by
    show f x :: (l.map f).eraseIdx k = f x :: (l.eraseIdx k).map f
    rw [map_erase f l k]
theorem perm_at : ∀ {l : List Nat} {k : Nat} (h : k < l.length), ([l[k]] ++ l.eraseIdx k).Perm l
  | x :: l, 0, _ => List.Perm.refl _
  | x :: l, k + 1, h => by
    show (l[k]'(by simpa using h) :: x :: l.eraseIdx k).Perm (x :: l)
    exact (List.Perm.swap x _ _).trans ((perm_at (l := l) (k := k) (by simpa using h)).cons x)
def sL : List Nat := [48, 49, 50, 51, 52, 53, 54, 55, 56, 57, 97, 98, 99, 100, 101, 102, 103, 104, 105, 106, 107, 108, 109, 110, 111, 112, 113, 114, 115, 116, 117, 118, 119, 120, 121, 122, 65, 66, 67, 68, 69, 70, 71, 72, 73, 74, 75, 76, 77, 78, 79, 80, 81, 82, 83, 84, 85, 86, 87, 88, 89, 90]
theorem ok_law_signs {C_CountError : Addr} {C_NoNote : Addr} {C_Crowded : Addr} {C_Twice : Addr} {C_NoRange : Addr} {C_NoteReader : Addr} (R : g.Raw "_law_signs" "_law_signs" s_law_signs ["_law_cell", "_law_size"]) (b_len : g.mg "len" = none) (b_list : g.mg "list" = none) (b_range : g.mg "range" = none) : g.Fn (1) "_law_signs" ["_law_cell", "_law_size"] (sp_law_signs g.K) := by
  refine R.fn sc_law_signs (fun vs H Q E h => by obtain ⟨c, n, rfl, hn, q⟩ := h; rfl) fun f_ cdv A outer s H vs Q E hr h => ?_
  obtain ⟨c, n, rfl, hn, q⟩ := h
  refine ⟨_, (@pss_cons _ _ _ _ _ (@ps_set _ _ (2) _ _ _ _ sc_law_signs.nd rfl (Or.inl rfl) (@pe_bt _ _ _ _ _ _ _ _ _ _ b_list call_list_text (@pa_cons _ _ _ _ _ pe_str pa_nil (by rfl)) (by decide +kernel) (by rfl) (by rfl) (by decide) (by decide) (by rfl) (by rfl)) (by rfl) (by first | exact .inl rfl | exact .inr rfl | assumption)) (@pss_cons _ _ _ _ _ (@ps_set _ _ (3) _ _ _ _ sc_law_signs.nd rfl (Or.inl rfl) (@pe_op _ _ _ _ _ _ _ _ op_add (@pe_op _ _ _ _ _ _ _ _ op_mod (@pv _ 0 _ _ (by rfl) (by first | exact Or.inl rfl | exact Or.inr (Or.inl rfl) | exact Or.inr (Or.inr rfl)) (by decide) (by decide)) pe_int) pe_int) (by rfl) (by first | exact .inl rfl | exact .inr rfl | assumption)) (@pss_cons _ _ _ _ _ (@ps_set _ _ (4) _ _ _ _ sc_law_signs.nd rfl (Or.inl rfl) pe_str (by rfl) (by first | exact .inl rfl | exact .inr rfl | assumption)) (@pss_cons _ _ _ _ _ (@ps_for _ _ _ _ _ _ _ _ PassesOwn.never rfl (@pi_range1 _ _ _ _ _ _ rfl b_range (@pa_cons _ _ _ _ _ (@pv _ 1 _ _ (by rfl) (by first | exact Or.inl rfl | exact Or.inr (Or.inl rfl) | exact Or.inr (Or.inr rfl)) (by decide) (by decide)) pa_nil (by rfl)) (by rfl)) (@pg_name _ _ (5) _ sc_law_signs.nd rfl (Or.inl rfl) (by first | exact .inl rfl | exact .inr rfl | assumption)) (@pss_cons _ _ _ _ _ (@ps_set _ _ (3) _ _ _ _ sc_law_signs.nd rfl (Or.inl rfl) (@pe_op _ _ _ _ _ _ _ _ op_mod (@pe_op _ _ _ _ _ _ _ _ op_mulC (@pv _ 3 _ _ (by rfl) (by first | exact Or.inl rfl | exact Or.inr (Or.inl rfl) | exact Or.inr (Or.inr rfl)) (by decide) (by decide)) pe_int) pe_int) (by rfl) (by first | exact .inl rfl | exact .inr rfl | assumption)) (@pss_one _ _ _ (@ps_set _ _ (4) _ _ _ _ sc_law_signs.nd rfl (Or.inl rfl) (@pe_op _ _ _ _ _ _ _ _ op_add_str (@pv _ 4 _ _ (by rfl) (by first | exact Or.inl rfl | exact Or.inr (Or.inl rfl) | exact Or.inr (Or.inr rfl)) (by decide) (by decide)) (@pe_bm _ _ _ _ _ _ _ _ _ _ _ _ PySem.F.plainAttrs_list PySem.F.slot_list_pop PySem.F.type_list_pop mt_popAt (@pv _ 2 _ _ (by rfl) (by first | exact Or.inl rfl | exact Or.inr (Or.inl rfl) | exact Or.inr (Or.inr rfl)) (by decide) (by decide)) (@pa_cons _ _ _ _ _ (@pe_op _ _ _ _ _ _ _ _ op_mod (@pe_op _ _ _ _ _ _ _ _ op_fdivL (@pv _ 3 _ _ (by rfl) (by first | exact Or.inl rfl | exact Or.inr (Or.inl rfl) | exact Or.inr (Or.inr rfl)) (by decide) (by decide)) pe_int) (@pe_bf _ _ _ _ _ _ _ _ _ _ b_len call_len_seq (@pa_cons _ _ _ _ _ (@pv _ 2 _ _ (by rfl) (by first | exact Or.inl rfl | exact Or.inr (Or.inl rfl) | exact Or.inr (Or.inr rfl)) (by decide) (by decide)) pa_nil (by rfl)) (by decide +kernel) (by rfl) (by rfl) (by decide) (by decide) (by rfl) (by rfl))) pa_nil (by rfl)) (by rfl) (by rfl) (by rfl) (by rfl) (by rfl))) (by rfl) (by first | exact .inl rfl | exact .inr rfl | assumption)))) (by intro _; rfl)) (@pss_one _ _ _ (@ps_ret _ _ _ _ (@pv _ 4 _ _ (by rfl) (by first | exact Or.inl rfl | exact Or.inr (Or.inl rfl) | exact Or.inr (Or.inr rfl)) (by decide) (by decide)))))))), ?_⟩
  have eL : Str.ofString "0123456789abcdefghijklmnopqrstuvwxyzABCDEFGHIJKLMNOPQRSTUVWXYZ" = S sL := by decide +kernel
  have en : Str.ofString "" = S [] := by decide +kernel
  walk_at "rd"
  rw [eL, en]
  refine ⟨by decide, fun l hl => ⟨by decide, ?_⟩⟩
  have u := Same.upd_new hl (.lst (sL.map fun c => V.str (S [c])))
  have hu : Same H (upd H l (.lst (List.map (fun c => V.str { cps := #[c] }) (S sL).cps.toList))) := .upd_new hl _
  refine tFor_range1 (n := n) (fun i σ' H' => ∃ (z : Int) (ac ls : List Nat) (o : Option V), σ' = [some (.int c), some (.int (n : Nat)), some (.ref l), some (.int z), some (.str (S ac)), o] ∧ Same H H' ∧ H' l = some (.lst (ls.map fun c => V.str (S [c]))) ∧ ac.length = i ∧ ls.length + i = 62 ∧ (ac ++ ls).Nodup ∧ (∀ x ∈ ac ++ ls, Rd.isLF x = true) ∧ z.natAbs < 2 ^ 40) (fun R r => by walk_at "rd"; exact r) (by omega) ⟨_, [], sL, none, rfl, hu, upd_same, rfl, rfl, by decide, by decide, ?_⟩ ?_ ?_
  · have h1 := Int.emod_nonneg c (show (2147483646 : Int) ≠ 0 by decide)
    have h2 := Int.emod_lt_of_pos c (show (0 : Int) < 2147483646 by decide)
    have : (2 : Nat) ^ 40 = 1099511627776 := rfl
    omega
  · rintro i σ' H' hi ⟨z, ac, ls, o, rfl, s1, hls, h1, h2, h3, h4, h5⟩
    have hlen : (ls.map fun c => V.str (S [c])).length = ls.length := List.length_map _
    obtain ⟨k, hk, hk2⟩ := mod_nat (z * 48271 % 2147483647 / 1000) (j := (ls.length : Int)) (by omega)
    have hkl : k < ls.length := by omega
    walk_at "rd"
    refine ⟨.inl (cm (m := 40) (n := 20) h5 (by decide)), by decide, .inl ⟨rfl, _, SqL.of hls⟩, small_div (by decide) (by decide), _, .inl (SqL.of hls), by omega, ?_⟩
    rw [hlen, hk]
    have hac := S_len ac
    have hs1 : (S [ls[k]]).length = 1 := S_len _
    have hpm : (ac ++ [ls[k]] ++ ls.eraseIdx k).Perm (ac ++ ls) := by
      rw [List.append_assoc]
      exact List.Perm.append_left _ (perm_at hkl)
    refine ⟨l, _, _, k, V.str (S [ls[k]]), rfl, rfl, hls, by omega, by omega, ?_, ?_, S [ls[k]], rfl, few (by omega), ac ++ [ls[k]], S_app _ _, .upd_over hl s1 _, ls.eraseIdx k, ?_, by rw [List.length_append, List.length_singleton]; omega, by rw [List.length_eraseIdx_of_lt hkl]; omega, hpm.nodup_iff.mpr h3, fun x hx => h4 x (hpm.mem_iff.mp hx), ?_⟩
    · rw [hlen]
      exact seqIx hkl
    · rw [List.getElem?_map, List.getElem?_eq_getElem hkl]
      rfl
    · rw [upd_same, map_erase]
    · have h1 := Int.emod_nonneg (z * 48271) (show (2147483647 : Int) ≠ 0 by decide)
      have h2 := Int.emod_lt_of_pos (z * 48271) (show (0 : Int) < 2147483647 by decide)
      have : (2 : Nat) ^ 40 = 1099511627776 := rfl
      omega
  · rintro σ' H' ⟨z, ac, ls, o, rfl, s1, hls, h1, h2, h3, h4, h5⟩
    walk_at "rd"
    exact q ac H' h1 (List.all_eq_true.mpr fun x hx => h4 x (List.mem_append_left _ hx)) (List.nodup_append.mp h3).1 s1
end KW
set_option maxHeartbeats 8000000
namespace KW
open PySem L2

variable {g : Gx}
variable {C : Addr}
local macro_rules | `(tactic| walk_at "gn") => `(tactic| simp only [gName, List.set_cons_zero, List.set_cons_succ])

local macro_rules | `(tactic| walk_at "rd") => `(tactic| simp (config := { failIfUnchanged := false, maxSteps := 10000000 }) only [L2.start, cxOf_K, nox_K, List.map_cons, List.map_nil, List.length_cons, List.length_nil, List.cons_append, List.nil_append, List.replicate_succ, List.replicate_zero, Nat.zero_add, Nat.reduceAdd, Nat.reduceSub, Nat.sub_self, tSeq, tIfS, tTest, tOp, tC, tVar, rI0, rI, rU, tUn, tRet, tRetN, tDrop, tNext, tBreak, tCont, tAsg, gName, gNil, gCons, tCons, tNil, tCB, tCall, tTry, tTryAs, tRaise, sFld, tFld, tMake, tMeth, Ends.gone, caught_K, tB, tAnd, tOr, tNot, tAndV, tOrV, tNotV, tIf, tChain, tNoPart, tPart, tSl, tNever, tAug, rIxL, rIxT, rSlL, tLst, tTup, gTup, tRev, tLZ, tConT, tDict0, rBits, rFind, rIn, tBM, tBM0, rAppend, rReverse, rEq, rNe, scal_ii, scal_ss, rCat, rSetL, gSub, ipI, capSt, List.getD_cons_zero, List.getD_cons_succ, decide_true, not_true_eq_false, not_false_eq_true,
  exists_eq_left', exists_eq_left, exists_eq', exists_eq, exists_and_left, and_assoc, Option.some.injEq, V.int.injEq, V.bl.injEq, V.ref.injEq, V.str.injEq, List.getElem?_cons_zero, List.getElem?_cons_succ, List.set_cons_zero, List.set_cons_succ, List.cons.injEq, and_true, true_and, List.append_nil, decide_eq_true_eq, Bool.not_eq_true', decide_eq_false_iff_not, Bool.not_not, Bool.not_true, Bool.not_false, Bool.true_eq_false, Bool.false_eq_true, if_true, if_false, ite_true, ite_false])

def sp_law_two (K : PySem.W.Frag) : Sp := fun vs H Q _ => ∃ (a : Addr) (ns : List Int), vs = [.ref a] ∧ SqL K H a (ns.map V.int) ∧ ns.length ≤ 63 ∧ ∀ p lo hi H', Same H H' → H' p = some (.tup [.int lo, .int hi]) → lo.natAbs < 10 ^ 60 → hi.natAbs < 10 ^ 60 → Q (.ref p) H'
theorem ok_law_two {k : Nat} {C_CountError : Addr} {C_NoNote : Addr} {C_Crowded : Addr} {C_Twice : Addr} {C_NoRange : Addr} {C_NoteReader : Addr} (R : g.Raw "_law_two" "_law_two" s_law_two ["_law_script"]) (F_law_cell_at : g.Fn k "_law_cell_at" ["_law_script", "_law_k"] (sp_law_cell_at g.K)) : g.Fn (k + 1) "_law_two" ["_law_script"] (sp_law_two g.K) := by
  refine R.fn sc_law_two (fun vs H Q E h => by obtain ⟨a, ns, rfl, hS, hl, q⟩ := h; rfl) fun f_ cdv A outer s H vs Q E hr h => ?_
  obtain ⟨a, ns, rfl, hS, hl, q⟩ := h
  refine ⟨_, (@pss_cons _ _ _ _ _ (@ps_set _ _ (1) _ _ _ _ sc_law_two.nd rfl (Or.inl rfl) (@pe_op _ _ _ _ _ _ _ _ op_pow pe_int pe_int) (by rfl) (by first | exact .inl rfl | exact .inr rfl | assumption)) (@pss_cons _ _ _ _ _ (@ps_set _ _ (2) _ _ _ _ sc_law_two.nd rfl (Or.inl rfl) (@pe_op _ _ _ _ _ _ _ _ op_add (@pe_op _ _ _ _ _ _ _ _ op_sub (@pe_op _ _ _ _ _ _ _ _ op_mod (@pe_fn _ _ _ _ _ _ _ _ _ _ _ _ F_law_cell_at hr (@pa_cons _ _ _ _ _ (@pv _ 0 _ _ (by rfl) (by first | exact Or.inl rfl | exact Or.inr (Or.inl rfl) | exact Or.inr (Or.inr rfl)) (by decide) (by decide)) (@pa_cons _ _ _ _ _ pe_int pa_nil (by rfl)) (by rfl)) (by omega) (by rfl) (by rfl) (by decide) (by rfl) (by rfl)) (@pe_op _ _ _ _ _ _ _ _ op_sub (@pe_op _ _ _ _ _ _ _ _ op_mulC pe_int (@pv _ 1 _ _ (by rfl) (by first | exact Or.inl rfl | exact Or.inr (Or.inl rfl) | exact Or.inr (Or.inr rfl)) (by decide) (by decide))) pe_int)) (@pv _ 1 _ _ (by rfl) (by first | exact Or.inl rfl | exact Or.inr (Or.inl rfl) | exact Or.inr (Or.inr rfl)) (by decide) (by decide))) pe_int) (by rfl) (by first | exact .inl rfl | exact .inr rfl | assumption)) (@pss_cons _ _ _ _ _ (@ps_set _ _ (3) _ _ _ _ sc_law_two.nd rfl (Or.inl rfl) (@pe_op _ _ _ _ _ _ _ _ op_add (@pe_op _ _ _ _ _ _ _ _ op_sub (@pe_op _ _ _ _ _ _ _ _ op_mod (@pe_fn _ _ _ _ _ _ _ _ _ _ _ _ F_law_cell_at hr (@pa_cons _ _ _ _ _ (@pv _ 0 _ _ (by rfl) (by first | exact Or.inl rfl | exact Or.inr (Or.inl rfl) | exact Or.inr (Or.inr rfl)) (by decide) (by decide)) (@pa_cons _ _ _ _ _ pe_int pa_nil (by rfl)) (by rfl)) (by omega) (by rfl) (by rfl) (by decide) (by rfl) (by rfl)) (@pe_op _ _ _ _ _ _ _ _ op_sub (@pe_op _ _ _ _ _ _ _ _ op_mulC pe_int (@pv _ 1 _ _ (by rfl) (by first | exact Or.inl rfl | exact Or.inr (Or.inl rfl) | exact Or.inr (Or.inr rfl)) (by decide) (by decide))) pe_int)) (@pv _ 1 _ _ (by rfl) (by first | exact Or.inl rfl | exact Or.inr (Or.inl rfl) | exact Or.inr (Or.inr rfl)) (by decide) (by decide))) pe_int) (by rfl) (by first | exact .inl rfl | exact .inr rfl | assumption)) (@pss_cons _ _ _ _ _ (@ps_if _ _ _ _ _ _ _ _ (@pt_cmpR _ _ _ _ _ _ _ _ op_eq (@pe_op _ _ _ _ _ _ _ _ op_mod (@pe_fn _ _ _ _ _ _ _ _ _ _ _ _ F_law_cell_at hr (@pa_cons _ _ _ _ _ (@pv _ 0 _ _ (by rfl) (by first | exact Or.inl rfl | exact Or.inr (Or.inl rfl) | exact Or.inr (Or.inr rfl)) (by decide) (by decide)) (@pa_cons _ _ _ _ _ pe_int pa_nil (by rfl)) (by rfl)) (by omega) (by rfl) (by rfl) (by decide) (by rfl) (by rfl)) pe_int) pe_int (nomark _)) (@pss_one _ _ _ (@ps_set _ _ (3) _ _ _ _ sc_law_two.nd rfl (Or.inl rfl) (@pv _ 2 _ _ (by rfl) (by first | exact Or.inl rfl | exact Or.inr (Or.inl rfl) | exact Or.inr (Or.inr rfl)) (by decide) (by decide)) (by rfl) (by first | exact .inl rfl | exact .inr rfl | assumption))) pss_nil) (@pss_one _ _ _ (@ps_ret _ _ _ _ (@pe_tup _ _ _ _ _ (@pa_cons _ _ _ _ _ (@pv _ 2 _ _ (by rfl) (by first | exact Or.inl rfl | exact Or.inr (Or.inl rfl) | exact Or.inr (Or.inr rfl)) (by decide) (by decide)) (@pa_cons _ _ _ _ _ (@pv _ 3 _ _ (by rfl) (by first | exact Or.inl rfl | exact Or.inr (Or.inl rfl) | exact Or.inr (Or.inr rfl)) (by decide) (by decide)) pa_nil (by rfl)) (by rfl))))))))), ?_⟩
  have e10 : (10 : Int) ^ Int.toNat 60 = ((10 ^ 60 : Nat) : Int) := by decide +kernel
  have key : ∀ x : Int, (x % (2 * 10 ^ Int.toNat 60 - 1) - 10 ^ Int.toNat 60 + 1).natAbs < 10 ^ 60 := fun x => by
    rw [e10]
    have hM : 0 < 10 ^ 60 := by decide +kernel
    generalize 10 ^ 60 = M at hM ⊢
    have h1 := Int.emod_nonneg x (show (2 * (M : Int) - 1) ≠ 0 by omega)
    have h2 := Int.emod_lt_of_pos x (show (0 : Int) < 2 * (M : Int) - 1 by omega)
    omega
  have cmm : CMulC 2 (10 ^ Int.toNat 60) := .inl (cm (m := 2) (n := 200) (by decide) (by decide +kernel))
  walk_at "rd"
  refine ⟨cpow, a, ns, 1, rfl, hS, hl, cmm, _, rfl, by decide +kernel, a, ns, 2, rfl, hS, hl, cmm, _, rfl, by decide +kernel, a, ns, 3, rfl, hS, hl, _, rfl, by decide, ite2 (fun _ => ⟨few (by decide), fun p hp => ?_⟩) fun _ => ⟨few (by decide), fun p hp => ?_⟩⟩
  · exact q p _ _ _ (.upd_new hp _) upd_same (key _) (key _)
  · exact q p _ _ _ (.upd_new hp _) upd_same (key _) (key _)
end KW
set_option maxHeartbeats 8000000
namespace KW
open PySem L2

variable {g : Gx}
variable {C : Addr}
local macro_rules | `(tactic| walk_at "gn") => `(tactic| simp only [gName, List.set_cons_zero, List.set_cons_succ])

local macro_rules | `(tactic| walk_at "rd") => `(tactic| simp (config := { failIfUnchanged := false, maxSteps := 10000000 }) only [L2.start, cxOf_K, nox_K, List.map_cons, List.map_nil, List.length_cons, List.length_nil, List.cons_append, List.nil_append, List.replicate_succ, List.replicate_zero, Nat.zero_add, Nat.reduceAdd, Nat.reduceSub, Nat.sub_self, tSeq, tIfS, tTest, tOp, tC, tVar, rI0, rI, rU, tUn, tRet, tRetN, tDrop, tNext, tBreak, tCont, tAsg, gName, gNil, gCons, tCons, tNil, tCB, tCall, tTry, tTryAs, tRaise, sFld, tFld, tMake, tMeth, Ends.gone, caught_K, tB, tAnd, tOr, tNot, tAndV, tOrV, tNotV, tIf, tChain, tNoPart, tPart, tSl, tNever, tAug, rIxL, rIxT, rSlL, tLst, tTup, gTup, tRev, tLZ, tConT, tDict0, rBits, rFind, rIn, tBM, tBM0, rAppend, rReverse, rEq, rNe, scal_ii, scal_ss, rCat, rSetL, gSub, ipI, capSt, List.getD_cons_zero, List.getD_cons_succ, decide_true, not_true_eq_false, not_false_eq_true,
  exists_eq_left', exists_eq_left, exists_eq', exists_eq, exists_and_left, and_assoc, Option.some.injEq, V.int.injEq, V.bl.injEq, V.ref.injEq, V.str.injEq, List.getElem?_cons_zero, List.getElem?_cons_succ, List.set_cons_zero, List.set_cons_succ, List.cons.injEq, and_true, true_and, List.append_nil, decide_eq_true_eq, Bool.not_eq_true', decide_eq_false_iff_not, Bool.not_not, Bool.not_true, Bool.not_false, Bool.true_eq_false, Bool.false_eq_true, if_true, if_false, ite_true, ite_false])

def sp_law_spoiled (K : PySem.W.Frag) : Sp := fun vs H Q _ => ∃ (w : List Nat) (c : Int), vs = [.str (S w), .int c] ∧ Rd.Plain w ∧ w.length ≤ 61 ∧ ∀ b H', Same H H' → Rd.Plain b → b.length ≤ 100 → Q (.str (S b)) H'
theorem spoil_at {j : Nat} (h : j < 7) : ∃ x : List Nat, atI [V.str (Str.ofString "0"), V.str (Str.ofString "-"), V.str (Str.ofString "+"), V.str (Str.ofString "-0"), V.str (Str.ofString "1_"), V.str (Str.ofString " "), V.str (Str.ofString "")] (j : Int) = some (.str (S x)) ∧ Rd.Plain x ∧ x.length ≤ 2 := by
  have pl : ∀ x : List Nat, (x.all fun c => decide (c ≠ 40 ∧ c ≠ 41 ∧ c ≠ 44 ∧ c ≠ 58)) = true → Rd.Plain x := fun x h c hc => by
    have := List.all_eq_true.mp h c hc
    simpa [Rd.plainc] using this
  match j, h with
  | 0, _ => exact ⟨[48], (atI_nat (j := 0) rfl).trans (by rw [show Str.ofString "0" = S [48] by decide +kernel]), pl _ (by decide), by decide⟩
  | 1, _ => exact ⟨[45], (atI_nat (j := 1) rfl).trans (by rw [show Str.ofString "-" = S [45] by decide +kernel]), pl _ (by decide), by decide⟩
  | 2, _ => exact ⟨[43], (atI_nat (j := 2) rfl).trans (by rw [show Str.ofString "+" = S [43] by decide +kernel]), pl _ (by decide), by decide⟩
  | 3, _ => exact ⟨[45, 48], (atI_nat (j := 3) rfl).trans (by rw [show Str.ofString "-0" = S [45, 48] by decide +kernel]), pl _ (by decide), by decide⟩
  | 4, _ => exact ⟨[49, 95], (atI_nat (j := 4) rfl).trans (by rw [show Str.ofString "1_" = S [49, 95] by decide +kernel]), pl _ (by decide), by decide⟩
  | 5, _ => exact ⟨[32], (atI_nat (j := 5) rfl).trans (by rw [show Str.ofString " " = S [32] by decide +kernel]), pl _ (by decide), by decide⟩
  | 6, _ => exact ⟨[], (atI_nat (j := 6) rfl).trans (by rw [show Str.ofString "" = S [] by decide +kernel]), pl _ (by decide), by decide⟩
theorem ok_law_spoiled {C_CountError : Addr} {C_NoNote : Addr} {C_Crowded : Addr} {C_Twice : Addr} {C_NoRange : Addr} {C_NoteReader : Addr} (R : g.Raw "_law_spoiled" "_law_spoiled" s_law_spoiled ["_law_text", "_law_cell"]) : g.Fn (1) "_law_spoiled" ["_law_text", "_law_cell"] (sp_law_spoiled g.K) := by
  refine R.fn sc_law_spoiled (fun vs H Q E h => by obtain ⟨w, c, rfl, hp, hl, q⟩ := h; rfl) fun f_ cdv A outer s H vs Q E hr h => ?_
  obtain ⟨w, c, rfl, hp, hl, q⟩ := h
  refine ⟨_, (@pss_cons _ _ _ _ _ (@ps_set _ _ (2) _ _ _ _ sc_law_spoiled.nd rfl (Or.inl rfl) (@pe_op _ _ _ _ _ _ _ _ op_mod (@pv _ 1 _ _ (by rfl) (by first | exact Or.inl rfl | exact Or.inr (Or.inl rfl) | exact Or.inr (Or.inr rfl)) (by decide) (by decide)) pe_int) (by rfl) (by first | exact .inl rfl | exact .inr rfl | assumption)) (@pss_cons _ _ _ _ _ (@ps_if _ _ _ _ _ _ _ _ (@pt_cmpR _ _ _ _ _ _ _ _ op_lt (@pv _ 2 _ _ (by rfl) (by first | exact Or.inl rfl | exact Or.inr (Or.inl rfl) | exact Or.inr (Or.inr rfl)) (by decide) (by decide)) pe_int (nomark _)) (@pss_one _ _ _ (@ps_ret _ _ _ _ (@pe_op _ _ _ _ _ _ _ _ op_add_str (@pe_ix _ _ _ _ _ _ _ ix_list (@pe_lst _ _ _ _ (@pa_cons _ _ _ _ _ pe_str (@pa_cons _ _ _ _ _ pe_str (@pa_cons _ _ _ _ _ pe_str (@pa_cons _ _ _ _ _ pe_str (@pa_cons _ _ _ _ _ pe_str (@pa_cons _ _ _ _ _ pe_str (@pa_cons _ _ _ _ _ pe_str pa_nil (by rfl)) (by rfl)) (by rfl)) (by rfl)) (by rfl)) (by rfl)) (by rfl))) (@pv _ 2 _ _ (by rfl) (by first | exact Or.inl rfl | exact Or.inr (Or.inl rfl) | exact Or.inr (Or.inr rfl)) (by decide) (by decide)) (fun _ _ => rfl)) (@pv _ 0 _ _ (by rfl) (by first | exact Or.inl rfl | exact Or.inr (Or.inl rfl) | exact Or.inr (Or.inr rfl)) (by decide) (by decide))))) pss_nil) (@pss_one _ _ _ (@ps_ret _ _ _ _ (@pe_op _ _ _ _ _ _ _ _ op_add_str (@pv _ 0 _ _ (by rfl) (by first | exact Or.inl rfl | exact Or.inr (Or.inl rfl) | exact Or.inr (Or.inr rfl)) (by decide) (by decide)) (@pe_slice _ _ _ _ _ _ _ _ _ _ sl_str pe_str po_none (@po_some _ _ _ (@pe_op _ _ _ _ _ _ _ _ op_sub (@pv _ 2 _ _ (by rfl) (by first | exact Or.inl rfl | exact Or.inr (Or.inl rfl) | exact Or.inr (Or.inr rfl)) (by decide) (by decide)) pe_int)))))))), ?_⟩
  have hsw := S_len w
  walk_at "rd"
  refine ⟨by decide, ite2 (fun c1 => ⟨few (by decide), fun p hp' => ?_⟩) fun c1 => ?_⟩
  · obtain ⟨j, hj, hj2⟩ := mod_nat c (j := 9) (by decide)
    rw [hj] at c1 ⊢
    obtain ⟨x, hx, hxp, hxl⟩ := spoil_at (j := j) (by omega)
    refine ⟨_, SqL.of upd_same, _, hx, _, rfl, few (by rw [S_len]; omega), ?_⟩
    rw [S_app]
    exact q (x ++ w) _ (.upd_new hp' _) (fun y hy => (List.mem_append.mp hy).elim (hxp y) (hp y)) (by rw [List.length_append]; omega)
  · obtain ⟨j, hj, hj2⟩ := mod_nat c (j := 9) (by decide)
    rw [hj] at c1 ⊢
    have e07 : Str.ofString "07" = S [48, 55] := by decide +kernel
    rw [e07, show ((j : Int) - 6) = ((j - 6 : Nat) : Int) by omega]
    refine ⟨_, rfl, few (by rw [S_len]; decide), ?_⟩
    rw [cutS_hi]
    have htl : (List.take (j - 6) [48, 55]).length ≤ 2 := by rw [List.length_take]; simp; omega
    have hst := S_len (List.take (j - 6) [48, 55])
    refine ⟨_, rfl, few (by omega), ?_⟩
    rw [S_app]
    refine q (w ++ List.take (j - 6) [48, 55]) H (.refl _) (fun y hy => (List.mem_append.mp hy).elim (hp y) fun z => ?_) (by rw [List.length_append]; omega)
    have := List.mem_of_mem_take z
    simp only [List.mem_cons, List.not_mem_nil, or_false] at this
    rcases this with rfl | rfl <;> exact ⟨by decide, by decide, by decide, by decide⟩
end KW
set_option maxHeartbeats 8000000
namespace KW
open PySem L2

variable {g : Gx}
variable {C : Addr}
local macro_rules | `(tactic| walk_at "gn") => `(tactic| simp only [gName, List.set_cons_zero, List.set_cons_succ])

local macro_rules | `(tactic| walk_at "rd") => `(tactic| simp (config := { failIfUnchanged := false, maxSteps := 10000000 }) only [L2.start, cxOf_K, nox_K, List.map_cons, List.map_nil, List.length_cons, List.length_nil, List.cons_append, List.nil_append, List.replicate_succ, List.replicate_zero, Nat.zero_add, Nat.reduceAdd, Nat.reduceSub, Nat.sub_self, tSeq, tIfS, tTest, tOp, tC, tVar, rI0, rI, rU, tUn, tRet, tRetN, tDrop, tNext, tBreak, tCont, tAsg, gName, gNil, gCons, tCons, tNil, tCB, tCall, tTry, tTryAs, tRaise, sFld, tFld, tMake, tMeth, Ends.gone, caught_K, tB, tAnd, tOr, tNot, tAndV, tOrV, tNotV, tIf, tChain, tNoPart, tPart, tSl, tNever, tAug, rIxL, rIxT, rSlL, tLst, tTup, gTup, tRev, tLZ, tConT, tDict0, rBits, rFind, rIn, tBM, tBM0, rAppend, rReverse, rEq, rNe, scal_ii, scal_ss, rCat, rSetL, gSub, ipI, capSt, List.getD_cons_zero, List.getD_cons_succ, decide_true, not_true_eq_false, not_false_eq_true,
  exists_eq_left', exists_eq_left, exists_eq', exists_eq, exists_and_left, and_assoc, Option.some.injEq, V.int.injEq, V.bl.injEq, V.ref.injEq, V.str.injEq, List.getElem?_cons_zero, List.getElem?_cons_succ, List.set_cons_zero, List.set_cons_succ, List.cons.injEq, and_true, true_and, List.append_nil, decide_eq_true_eq, Bool.not_eq_true', decide_eq_false_iff_not, Bool.not_not, Bool.not_true, Bool.not_false, Bool.true_eq_false, Bool.false_eq_true, if_true, if_false, ite_true, ite_false])

theorem says_bad {s : Src} {d : Dr} (h : Bad s) (h' : Says s d) : False := by
  cases s with
  | two a b =>
    cases d with
    | whole i j =>
      obtain ⟨_, _, _, _, x, y⟩ := h'
      have h : (numB a && numB b) = false := h
      rw [x, y] at h
      cases h
    | text w => exact h'
  | one w =>
    cases d with
    | whole i j => exact h'
    | text v =>
      have h : w.all Rd.isLF = false := h
      rw [h'.2] at h
      cases h
theorem dg_inj {i j : Int} (h1 : i.natAbs < 10 ^ 60) (h2 : j.natAbs < 10 ^ 60) (h : dg i = dg j) : i = j := by
  have a := dg_val (Nat.lt_trans h1 (by decide +kernel))
  have b := dg_val (Nat.lt_trans h2 (by decide +kernel))
  rw [h, b] at a
  exact (Option.some.inj a).symm
theorem says_uniq {s : Src} {d e : Dr} (h : Says s d) (h' : Says s e) : d = e := by
  cases s with
  | two a b =>
    cases d with
    | whole i j =>
      cases e with
      | whole i' j' =>
        obtain ⟨x1, x2, x3, x4, _⟩ := h
        obtain ⟨y1, y2, y3, y4, _⟩ := h'
        rw [dg_inj x3 y3 (x1.symm.trans y1), dg_inj x4 y4 (x2.symm.trans y2)]
      | text w => exact h'.elim
    | text w => exact h.elim
  | one w =>
    cases d with
    | whole i j => exact h.elim
    | text v =>
      cases e with
      | whole i j => exact h'.elim
      | text v' => rw [h.1, h'.1]
def Told (s : Src) (x y z : Bool) : Prop := (Bad s ∧ x = true ∧ y = false ∧ z = false) ∨ (∃ d, Says s d ∧ ¬ Apart d ∧ x = false ∧ y = true ∧ z = false) ∨ (∃ d, Says s d ∧ Apart d ∧ ¬ Range d ∧ x = false ∧ y = false ∧ z = true)
def sp_law_error (K : PySem.W.Frag) : Sp := fun vs H Q _ => ∃ (s : Src) (x y z : Bool), vs = [.str (S s.txt)] ∧ s.ok ∧ Told s x y z ∧ ∀ p H', Same H H' → H' p = some (.tup [.bl x, .bl y, .bl z, .bl true]) → Q (.ref p) H'
theorem ok_law_error {k : Nat} {C_CountError : Addr} {C_NoNote : Addr} {C_Crowded : Addr} {C_Twice : Addr} {C_NoRange : Addr} {C_NoteReader : Addr} (R : g.Raw "_law_error" "_law_error" s_law_error ["_law_text"]) (F_read_shape : g.FnX k "read_shape" ["text"] (sp_read_shape g.K C_NoNote C_Twice C_NoRange)) (b_ValueError : g.mg "ValueError" = none) (b_isinstance : g.mg "isinstance" = none) (x_CountError : g.mg "CountError" = some (.ref C_CountError)) (x_NoNote : g.mg "NoNote" = some (.ref C_NoNote)) (x_NoRange : g.mg "NoRange" = some (.ref C_NoRange)) (x_Twice : g.mg "Twice" = some (.ref C_Twice)) (t_NoNote : ExcT g.K C_NoNote) (t_NoRange : ExcT g.K C_NoRange) (t_Twice : ExcT g.K C_Twice) (i_NoNote_NoNote : PySem.W.kitOne g.K (.ref C_NoNote) (.ref C_NoNote) = some true) (i_NoNote_Twice : PySem.W.kitOne g.K (.ref C_NoNote) (.ref C_Twice) = some false) (i_NoNote_NoRange : PySem.W.kitOne g.K (.ref C_NoNote) (.ref C_NoRange) = some false) (i_NoNote_ValueError : PySem.W.kitOne g.K (.ref C_NoNote) (.type "ValueError") = some true) (i_Twice_NoNote : PySem.W.kitOne g.K (.ref C_Twice) (.ref C_NoNote) = some false) (i_Twice_Twice : PySem.W.kitOne g.K (.ref C_Twice) (.ref C_Twice) = some true) (i_Twice_NoRange : PySem.W.kitOne g.K (.ref C_Twice) (.ref C_NoRange) = some false) (i_Twice_ValueError : PySem.W.kitOne g.K (.ref C_Twice) (.type "ValueError") = some true) (i_NoRange_NoNote : PySem.W.kitOne g.K (.ref C_NoRange) (.ref C_NoNote) = some false) (i_NoRange_Twice : PySem.W.kitOne g.K (.ref C_NoRange) (.ref C_Twice) = some false) (i_NoRange_NoRange : PySem.W.kitOne g.K (.ref C_NoRange) (.ref C_NoRange) = some true) (i_NoRange_ValueError : PySem.W.kitOne g.K (.ref C_NoRange) (.type "ValueError") = some true) (m_NoNote_CountError : PySem.W.exmOne g.K (.ref C_NoNote) (.ref C_CountError) = some true) (m_Twice_CountError : PySem.W.exmOne g.K (.ref C_Twice) (.ref C_CountError) = some true) (m_NoRange_CountError : PySem.W.exmOne g.K (.ref C_NoRange) (.ref C_CountError) = some true) : g.Fn (k + 1) "_law_error" ["_law_text"] (sp_law_error g.K) := by
  refine R.fn sc_law_error (fun vs H Q E h => by obtain ⟨s, x, y, z, rfl, hok, ht, q⟩ := h; rfl) fun f_ cdv A outer s H vs Q E hr h => ?_
  obtain ⟨s, x, y, z, rfl, hok, ht, q⟩ := h
  refine ⟨_, (@pss_cons _ _ _ _ _ (ps_tryE (j := 1) F_read_shape hr sc_law_error.nd rfl rfl (@pa_cons _ _ _ _ _ (@pv _ 0 _ _ (by rfl) (by first | exact Or.inl rfl | exact Or.inr (Or.inl rfl) | exact Or.inr (Or.inr rfl)) (by decide) (by decide)) pa_nil (by rfl)) x_CountError (fun _ => (@pss_one _ _ _ (@ps_ret _ _ _ _ (@pe_tup _ _ _ _ _ (@pa_cons _ _ _ _ _ (@pe_bf _ _ _ _ _ _ _ _ _ _ b_isinstance (callR_or (call_isinstXK (K := g.K) t_NoNote) (callR_or (call_isinstXK (K := g.K) t_Twice) (call_isinstXK (K := g.K) t_NoRange))) (@pa_cons _ _ _ _ _ (@pv _ 1 _ _ (by rfl) (by first | exact Or.inl rfl | exact Or.inr (Or.inl rfl) | exact Or.inr (Or.inr rfl)) (by decide) (by decide)) (@pa_cons _ _ _ _ _ (@pe_cla _ _ _ _ _ x_NoNote (by rfl) (by rfl) (by decide)) pa_nil (by rfl)) (by rfl)) (by decide +kernel) (by rfl) (by rfl) (by decide) (by decide) (by rfl) (by rfl)) (@pa_cons _ _ _ _ _ (@pe_bf _ _ _ _ _ _ _ _ _ _ b_isinstance (callR_or (call_isinstXK (K := g.K) t_NoNote) (callR_or (call_isinstXK (K := g.K) t_Twice) (call_isinstXK (K := g.K) t_NoRange))) (@pa_cons _ _ _ _ _ (@pv _ 1 _ _ (by rfl) (by first | exact Or.inl rfl | exact Or.inr (Or.inl rfl) | exact Or.inr (Or.inr rfl)) (by decide) (by decide)) (@pa_cons _ _ _ _ _ (@pe_cla _ _ _ _ _ x_Twice (by rfl) (by rfl) (by decide)) pa_nil (by rfl)) (by rfl)) (by decide +kernel) (by rfl) (by rfl) (by decide) (by decide) (by rfl) (by rfl)) (@pa_cons _ _ _ _ _ (@pe_bf _ _ _ _ _ _ _ _ _ _ b_isinstance (callR_or (call_isinstXK (K := g.K) t_NoNote) (callR_or (call_isinstXK (K := g.K) t_Twice) (call_isinstXK (K := g.K) t_NoRange))) (@pa_cons _ _ _ _ _ (@pv _ 1 _ _ (by rfl) (by first | exact Or.inl rfl | exact Or.inr (Or.inl rfl) | exact Or.inr (Or.inr rfl)) (by decide) (by decide)) (@pa_cons _ _ _ _ _ (@pe_cla _ _ _ _ _ x_NoRange (by rfl) (by rfl) (by decide)) pa_nil (by rfl)) (by rfl)) (by decide +kernel) (by rfl) (by rfl) (by decide) (by decide) (by rfl) (by rfl)) (@pa_cons _ _ _ _ _ (@pe_bf _ _ _ _ _ _ _ _ _ _ b_isinstance (callR_or (call_isinstXK (K := g.K) t_NoNote) (callR_or (call_isinstXK (K := g.K) t_Twice) (call_isinstXK (K := g.K) t_NoRange))) (@pa_cons _ _ _ _ _ (@pv _ 1 _ _ (by rfl) (by first | exact Or.inl rfl | exact Or.inr (Or.inl rfl) | exact Or.inr (Or.inr rfl)) (by decide) (by decide)) (@pa_cons _ _ _ _ _ (@pe_bn _ _ _ _ ("ValueError") b_ValueError (by decide +kernel) (by rfl) (by rfl) (by decide) (by decide)) pa_nil (by rfl)) (by rfl)) (by decide +kernel) (by rfl) (by rfl) (by decide) (by decide) (by rfl) (by rfl)) pa_nil (by rfl)) (by rfl)) (by rfl)) (by rfl))))))) (@pss_one _ _ _ (@ps_ret _ _ _ _ pe_non))), ?_⟩
  refine ⟨_, rfl, ?_⟩
  rcases ht with ⟨hb, rfl, rfl, rfl⟩ | ⟨d0, hd0, hap, rfl, rfl, rfl⟩ | ⟨d0, hd0, hap, hrg, rfl, rfl, rfl⟩
  · refine ⟨s, rfl, hok, fun d v H1 hs => (says_bad hb hs).elim, fun _ H1 s1 => ⟨m_NoNote_CountError, fun a ha => ?_⟩, fun d hs => (says_bad hb hs).elim, fun d hs => (says_bad hb hs).elim⟩
    exact ⟨.ref a, rfl, .inl ⟨a, _, _, _, rfl, rfl, upd_same, i_NoNote_NoNote, .ref a, rfl, .inl ⟨a, _, _, _, rfl, rfl, upd_same, i_NoNote_Twice, .ref a, rfl, .inl ⟨a, _, _, _, rfl, rfl, upd_same, i_NoNote_NoRange, .ref a, rfl, .inl ⟨a, _, _, _, rfl, rfl, upd_same, i_NoNote_ValueError, few (by decide), fun p hp => q p _ ((s1.trans (.upd_new ha _)).trans (.upd_new hp _)) upd_same⟩⟩⟩⟩⟩
  · refine ⟨s, rfl, hok, fun d v H1 hs h2 => (hap (by rw [says_uniq hd0 hs]; exact h2)).elim, fun hb => (says_bad hb hd0).elim, fun d hs h2 H1 s1 => ⟨m_Twice_CountError, fun a ha => ?_⟩, fun d hs h2 => (hap (by rw [says_uniq hd0 hs]; exact h2)).elim⟩
    exact ⟨.ref a, rfl, .inr (.inl ⟨a, _, _, _, rfl, rfl, upd_same, i_Twice_NoNote, .ref a, rfl, .inr (.inl ⟨a, _, _, _, rfl, rfl, upd_same, i_Twice_Twice, .ref a, rfl, .inr (.inl ⟨a, _, _, _, rfl, rfl, upd_same, i_Twice_NoRange, .ref a, rfl, .inr (.inl ⟨a, _, _, _, rfl, rfl, upd_same, i_Twice_ValueError, few (by decide), fun p hp => q p _ ((s1.trans (.upd_new ha _)).trans (.upd_new hp _)) upd_same⟩)⟩)⟩)⟩)⟩
  · refine ⟨s, rfl, hok, fun d v H1 hs _ h2 => (hrg (by rw [says_uniq hd0 hs]; exact h2)).elim, fun hb => (says_bad hb hd0).elim, fun d hs h2 => (h2 (by rw [says_uniq hs hd0]; exact hap)).elim, fun d hs h2 h3 H1 s1 => ⟨m_NoRange_CountError, fun a ha => ?_⟩⟩
    exact ⟨.ref a, rfl, .inr (.inr ⟨a, _, _, _, rfl, rfl, upd_same, i_NoRange_NoNote, .ref a, rfl, .inr (.inr ⟨a, _, _, _, rfl, rfl, upd_same, i_NoRange_Twice, .ref a, rfl, .inr (.inr ⟨a, _, _, _, rfl, rfl, upd_same, i_NoRange_NoRange, .ref a, rfl, .inr (.inr ⟨a, _, _, _, rfl, rfl, upd_same, i_NoRange_ValueError, few (by decide), fun p hp => q p _ ((s1.trans (.upd_new ha _)).trans (.upd_new hp _)) upd_same⟩)⟩)⟩)⟩)⟩
end KW
set_option maxHeartbeats 8000000
namespace KW
open PySem L2

variable {g : Gx}
variable {C : Addr}
local macro_rules | `(tactic| walk_at "gn") => `(tactic| simp only [gName, List.set_cons_zero, List.set_cons_succ])

local macro_rules | `(tactic| walk_at "rd") => `(tactic| simp (config := { failIfUnchanged := false, maxSteps := 10000000 }) only [L2.start, cxOf_K, nox_K, List.map_cons, List.map_nil, List.length_cons, List.length_nil, List.cons_append, List.nil_append, List.replicate_succ, List.replicate_zero, Nat.zero_add, Nat.reduceAdd, Nat.reduceSub, Nat.sub_self, tSeq, tIfS, tTest, tOp, tC, tVar, rI0, rI, rU, tUn, tRet, tRetN, tDrop, tNext, tBreak, tCont, tAsg, gName, gNil, gCons, tCons, tNil, tCB, tCall, tTry, tTryAs, tRaise, sFld, tFld, tMake, tMeth, Ends.gone, caught_K, tB, tAnd, tOr, tNot, tAndV, tOrV, tNotV, tIf, tChain, tNoPart, tPart, tSl, tNever, tAug, rIxL, rIxT, rSlL, tLst, tTup, gTup, tRev, tLZ, tConT, tDict0, rBits, rFind, rIn, tBM, tBM0, rAppend, rReverse, rEq, rNe, scal_ii, scal_ss, rCat, rSetL, gSub, ipI, capSt, List.getD_cons_zero, List.getD_cons_succ, decide_true, not_true_eq_false, not_false_eq_true,
  exists_eq_left', exists_eq_left, exists_eq', exists_eq, exists_and_left, and_assoc, Option.some.injEq, V.int.injEq, V.bl.injEq, V.ref.injEq, V.str.injEq, List.getElem?_cons_zero, List.getElem?_cons_succ, List.set_cons_zero, List.set_cons_succ, List.cons.injEq, and_true, true_and, List.append_nil, decide_eq_true_eq, Bool.not_eq_true', decide_eq_false_iff_not, Bool.not_not, Bool.not_true, Bool.not_false, Bool.true_eq_false, Bool.false_eq_true, if_true, if_false, ite_true, ite_false])

theorem lf_ok {w : List Nat} (h : w.all Rd.isLF = true) : PyData.strOk (S w) = true := by
  unfold PyData.strOk
  show w.toArray.all _ = true
  rw [List.all_toArray]
  refine List.all_eq_true.mpr fun c hc => decide_eq_true ?_
  have := List.all_eq_true.mp h c hc
  simp [Rd.isLF, Rd.isSmall, Rd.isBig, Rd.isFig] at this
  omega
def sp_law_taken (K : PySem.W.Frag) : Sp := fun vs H Q _ => ∃ (d : Dr) (v : V), vs = [.str (S d.src.txt), v] ∧ d.src.ok ∧ Says d.src d ∧ Apart d ∧ Range d ∧ DA H d v ∧ ∀ H', Same H H' → Q (.bl true) H'
theorem ok_law_taken {k : Nat} {C_CountError : Addr} {C_NoNote : Addr} {C_Crowded : Addr} {C_Twice : Addr} {C_NoRange : Addr} {C_NoteReader : Addr} (R : g.Raw "_law_taken" "_law_taken" s_law_taken ["_law_text", "_law_shape"]) (F_read_shape : g.FnX k "read_shape" ["text"] (sp_read_shape g.K C_NoNote C_Twice C_NoRange)) (F_show_shape : g.Fn k "show_shape" ["shape"] (sp_show_shape g.K)) (b_bool : g.mg "bool" = none) (b_isinstance : g.mg "isinstance" = none) (b_str : g.mg "str" = none) (b_tuple : g.mg "tuple" = none) : g.Fn (k + 1) "_law_taken" ["_law_text", "_law_shape"] (sp_law_taken g.K) := by
  refine R.fn sc_law_taken (fun vs H Q E h => by obtain ⟨d, v, rfl, hok, hs, hap, hrg, hd, q⟩ := h; rfl) fun f_ cdv A outer s H vs Q E hr h => ?_
  obtain ⟨d, v, rfl, hok, hs, hap, hrg, hd, q⟩ := h
  refine ⟨_, (@pss_cons _ _ _ _ _ (@ps_set _ _ (2) _ _ _ _ sc_law_taken.nd rfl (Or.inl rfl) (@pe_fnX _ _ _ _ _ _ _ _ _ _ _ _ _ F_read_shape hr passNo (@pa_cons _ _ _ _ _ (@pv _ 0 _ _ (by rfl) (by first | exact Or.inl rfl | exact Or.inr (Or.inl rfl) | exact Or.inr (Or.inr rfl)) (by decide) (by decide)) pa_nil (by rfl)) (by omega) (by rfl) (by rfl) (by decide) (by rfl) (by rfl)) (by rfl) (by first | exact .inl rfl | exact .inr rfl | assumption)) (@pss_cons _ _ _ _ _ (@ps_if _ _ _ _ _ _ _ _ (@pw_or _ _ _ _ _ _ _ (@pt_not _ _ _ _ (@pt_val _ _ _ (@pe_bf _ _ _ _ _ _ _ _ _ _ b_isinstance call_isinst (@pa_cons _ _ _ _ _ (@pv _ 2 _ _ (by rfl) (by first | exact Or.inl rfl | exact Or.inr (Or.inl rfl) | exact Or.inr (Or.inr rfl)) (by decide) (by decide)) (@pa_cons _ _ _ _ _ (@pe_bn _ _ _ _ ("tuple") b_tuple (by decide +kernel) (by rfl) (by rfl) (by decide) (by decide)) pa_nil (by rfl)) (by rfl)) (by decide +kernel) (by rfl) (by rfl) (by decide) (by decide) (by rfl) (by rfl)) (by intro _; rfl))) (@pw_or1 _ _ _ _ (@pt_cmpR _ _ _ _ _ _ _ _ (op_neD hr.units) (@pv _ 2 _ _ (by rfl) (by first | exact Or.inl rfl | exact Or.inr (Or.inl rfl) | exact Or.inr (Or.inr rfl)) (by decide) (by decide)) (@pv _ 1 _ _ (by rfl) (by first | exact Or.inl rfl | exact Or.inr (Or.inl rfl) | exact Or.inr (Or.inr rfl)) (by decide) (by decide)) (nomark _)))).pt (@pss_one _ _ _ (@ps_ret _ _ _ _ pe_bl)) pss_nil) (@pss_cons _ _ _ _ _ (@ps_if _ _ _ _ _ _ _ _ (@pw_or _ _ _ _ _ _ _ (@pt_val _ _ _ (@pe_bf _ _ _ _ _ _ _ _ _ _ b_isinstance call_isinst (@pa_cons _ _ _ _ _ (@pe_ix _ _ _ _ _ _ _ ix_tup (@pv _ 2 _ _ (by rfl) (by first | exact Or.inl rfl | exact Or.inr (Or.inl rfl) | exact Or.inr (Or.inr rfl)) (by decide) (by decide)) (@pe_un _ _ _ _ _ _ un_neg pe_int) (fun _ _ => rfl)) (@pa_cons _ _ _ _ _ (@pe_bn _ _ _ _ ("bool") b_bool (by decide +kernel) (by rfl) (by rfl) (by decide) (by decide)) pa_nil (by rfl)) (by rfl)) (by decide +kernel) (by rfl) (by rfl) (by decide) (by decide) (by rfl) (by rfl)) (by intro _; rfl)) (@pw_or1 _ _ _ _ (@pt_val _ _ _ (@pe_bf _ _ _ _ _ _ _ _ _ _ b_isinstance call_isinst (@pa_cons _ _ _ _ _ (@pe_ix _ _ _ _ _ _ _ ix_tup (@pv _ 2 _ _ (by rfl) (by first | exact Or.inl rfl | exact Or.inr (Or.inl rfl) | exact Or.inr (Or.inr rfl)) (by decide) (by decide)) pe_int (fun _ _ => rfl)) (@pa_cons _ _ _ _ _ (@pe_bn _ _ _ _ ("bool") b_bool (by decide +kernel) (by rfl) (by rfl) (by decide) (by decide)) pa_nil (by rfl)) (by rfl)) (by decide +kernel) (by rfl) (by rfl) (by decide) (by decide) (by rfl) (by rfl)) (by intro _; rfl)))).pt (@pss_one _ _ _ (@ps_ret _ _ _ _ pe_bl)) pss_nil) (@pss_cons _ _ _ _ _ (@ps_set _ _ (3) _ _ _ _ sc_law_taken.nd rfl (Or.inl rfl) (@pe_fn _ _ _ _ _ _ _ _ _ _ _ _ F_show_shape hr (@pa_cons _ _ _ _ _ (@pv _ 1 _ _ (by rfl) (by first | exact Or.inl rfl | exact Or.inr (Or.inl rfl) | exact Or.inr (Or.inr rfl)) (by decide) (by decide)) pa_nil (by rfl)) (by omega) (by rfl) (by rfl) (by decide) (by rfl) (by rfl)) (by rfl) (by first | exact .inl rfl | exact .inr rfl | assumption)) (@pss_one _ _ _ (@ps_ret _ _ _ _ (@pe_and _ _ _ _ _ _ _ (@pe_bf _ _ _ _ _ _ _ _ _ _ b_isinstance call_isinst (@pa_cons _ _ _ _ _ (@pv _ 3 _ _ (by rfl) (by first | exact Or.inl rfl | exact Or.inr (Or.inl rfl) | exact Or.inr (Or.inr rfl)) (by decide) (by decide)) (@pa_cons _ _ _ _ _ (@pe_bn _ _ _ _ ("str") b_str (by decide +kernel) (by rfl) (by rfl) (by decide) (by decide)) pa_nil (by rfl)) (by rfl)) (by decide +kernel) (by rfl) (by rfl) (by decide) (by decide) (by rfl) (by rfl)) (@pe_one _ _ _ _ _ (@pe_cmpR _ _ _ _ _ _ _ _ op_eq (@pv _ 3 _ _ (by rfl) (by first | exact Or.inl rfl | exact Or.inr (Or.inl rfl) | exact Or.inr (Or.inr rfl)) (by decide) (by decide)) (@pv _ 0 _ _ (by rfl) (by first | exact Or.inl rfl | exact Or.inr (Or.inl rfl) | exact Or.inr (Or.inr rfl)) (by decide) (by decide)) (nomark _)))))))))), ?_⟩
  cases d with
  | whole i j =>
    walk_at "rd"
    refine ⟨.two (dg i) (dg j), rfl, hok, fun d v' H1 h1 h2 h3 h4 s1 => ?_, fun hb => (says_bad hb hs).elim, fun d h1 h2 => (h2 (by rw [says_uniq h1 hs]; exact hap)).elim, fun d h1 _ h2 => (h2 (by rw [says_uniq h1 hs]; exact hrg)).elim⟩
    obtain rfl := says_uniq h1 hs
    obtain ⟨p', rfl, hp'⟩ := h4
    have hd' := hd.keep s1
    obtain ⟨p, rfl, hp⟩ := hd'
    have dn : ∀ {x : Addr}, H1 x = some (.tup [.str (S cW), .int i, .int j]) → Den g.K H1 (.ref x) (.tuple [.str (S cW), .int i, .int j]) := fun hx => .tup (SqT.of hx) (.cons (.str _ (by decide +kernel)) (.cons (.int i) (.cons (.int j) .nil)))
    refine ⟨_, rfl, _, .tup hp', true, rfl, iteN (by decide) ⟨_, dn hp', _, dn hp, ?_, iteN (by simp [PyData.eqv, PyData.eqvAll]) ⟨p', rfl, _, SqT.of hp', _, rfl, _, rfl, _, .int j, false, rfl, iteN (by decide) ⟨p', rfl, _, SqT.of hp', _, rfl, _, rfl, _, .int i, false, rfl, iteN (by decide) ⟨.whole i j, _, rfl, ⟨p, rfl, hp⟩, fun i' j' e => ?_, (fun w e => by cases e), fun H2 s2 => ?_⟩⟩⟩⟩⟩
    · simp [PyData.depth, PyData.depthAll]
    · cases e
      exact ⟨hs.2.2.1, hs.2.2.2.1⟩
    · refine ⟨_, rfl, _, .str _, true, rfl, iteT ⟨rfl, ?_⟩⟩
      rw [decide_eq_true rfl]
      exact q H2 (s1.trans s2)
  | text w =>
    walk_at "rd"
    refine ⟨.one w, rfl, hok, fun d v' H1 h1 h2 h3 h4 s1 => ?_, fun hb => (says_bad hb hs).elim, fun d h1 h2 => (h2 (by rw [says_uniq h1 hs]; exact hap)).elim, fun d h1 _ h2 => (h2 (by rw [says_uniq h1 hs]; exact hrg)).elim⟩
    obtain rfl := says_uniq h1 hs
    obtain ⟨p', rfl, hp'⟩ := h4
    have hd' := hd.keep s1
    obtain ⟨p, rfl, hp⟩ := hd'
    have hso : PyData.strOk (S w) = true := lf_ok hs.2
    have hwl : w.length ≤ 62 := by
      have h2 := ((Bool.and_eq_true _ _).mp hok).2
      have h3 : 1 ≤ w.length ∧ w.length ≤ 62 := by simpa [Rd.wordOk] using h2
      exact h3.2
    have dn : ∀ {x : Addr}, H1 x = some (.tup [.str (S cT), .str (S w)]) → Den g.K H1 (.ref x) (.tuple [.str (S cT), .str (S w)]) := fun hx => .tup (SqT.of hx) (.cons (.str _ (by decide +kernel)) (.cons (.str _ hso) .nil))
    refine ⟨_, rfl, _, .tup hp', true, rfl, iteN (by decide) ⟨_, dn hp', _, dn hp, ?_, iteN (by simp [PyData.eqv, PyData.eqvAll]) ⟨p', rfl, _, SqT.of hp', _, rfl, _, rfl, _, .str _, false, rfl, iteN (by decide) ⟨p', rfl, _, SqT.of hp', _, rfl, _, rfl, _, .str _, false, rfl, iteN (by decide) ⟨.text w, _, rfl, ⟨p, rfl, hp⟩, (fun i' j' e => by cases e), fun w' e => ?_, fun H2 s2 => ?_⟩⟩⟩⟩⟩
    · simp [PyData.depth, PyData.depthAll]
    · cases e
      omega
    · refine ⟨_, rfl, _, .str _, true, rfl, iteT ⟨rfl, ?_⟩⟩
      rw [decide_eq_true rfl]
      exact q H2 (s1.trans s2)
end KW
set_option maxHeartbeats 8000000
namespace KW
open PySem L2

variable {g : Gx}
variable {C : Addr}
local macro_rules | `(tactic| walk_at "gn") => `(tactic| simp only [gName, List.set_cons_zero, List.set_cons_succ])

local macro_rules | `(tactic| walk_at "rd") => `(tactic| simp (config := { failIfUnchanged := false, maxSteps := 10000000 }) only [L2.start, cxOf_K, nox_K, List.map_cons, List.map_nil, List.length_cons, List.length_nil, List.cons_append, List.nil_append, List.replicate_succ, List.replicate_zero, Nat.zero_add, Nat.reduceAdd, Nat.reduceSub, Nat.sub_self, tSeq, tIfS, tTest, tOp, tC, tVar, rI0, rI, rU, tUn, tRet, tRetN, tDrop, tNext, tBreak, tCont, tAsg, gName, gNil, gCons, tCons, tNil, tCB, tCall, tTry, tTryAs, tRaise, sFld, tFld, tMake, tMeth, Ends.gone, caught_K, tB, tAnd, tOr, tNot, tAndV, tOrV, tNotV, tIf, tChain, tNoPart, tPart, tSl, tNever, tAug, rIxL, rIxT, rSlL, tLst, tTup, gTup, tRev, tLZ, tConT, tDict0, rBits, rFind, rIn, tBM, tBM0, rAppend, rReverse, rEq, rNe, scal_ii, scal_ss, rCat, rSetL, gSub, ipI, capSt, List.getD_cons_zero, List.getD_cons_succ, decide_true, not_true_eq_false, not_false_eq_true,
  exists_eq_left', exists_eq_left, exists_eq', exists_eq, exists_and_left, and_assoc, Option.some.injEq, V.int.injEq, V.bl.injEq, V.ref.injEq, V.str.injEq, List.getElem?_cons_zero, List.getElem?_cons_succ, List.set_cons_zero, List.set_cons_succ, List.cons.injEq, and_true, true_and, List.append_nil, decide_eq_true_eq, Bool.not_eq_true', decide_eq_false_iff_not, Bool.not_not, Bool.not_true, Bool.not_false, Bool.true_eq_false, Bool.false_eq_true, if_true, if_false, ite_true, ite_false])

theorem dg_plain (i : Int) : Rd.Plain (dg i) := by
  have hf : ∀ n : Nat, Rd.Plain (dg (n : Int)) := fun n c hc => by
    have := dg_digits n c hc
    exact ⟨by omega, by omega, by omega, by omega⟩
  rcases Int.natAbs_eq i with e | e
  · rw [e]; exact hf _
  · by_cases h0 : i.natAbs = 0
    · have : i = ((0 : Nat) : Int) := by omega
      rw [this]
      exact hf 0
    · have e2 := dg_neg (n := i.natAbs) (by omega)
      rw [← e] at e2
      rw [e2]
      intro c hc
      rcases List.mem_cons.mp hc with rfl | hc
      · exact ⟨by decide, by decide, by decide, by decide⟩
      · exact hf _ c hc
def sp_law_of_numbers (K : PySem.W.Frag) : Sp := fun vs H Q _ => ∃ (a : Addr) (ns : List Int), vs = [.ref a] ∧ SqL K H a (ns.map V.int) ∧ ns.length ≤ 63 ∧ ∀ H', Q (.bl true) H'
theorem ok_law_of_numbers {k : Nat} {C_CountError : Addr} {C_NoNote : Addr} {C_Crowded : Addr} {C_Twice : Addr} {C_NoRange : Addr} {C_NoteReader : Addr} (R : g.Raw "_law_of_numbers" "_law_of_numbers" s_law_of_numbers ["_law_script"]) (F_law_cell_at : g.Fn k "_law_cell_at" ["_law_script", "_law_k"] (sp_law_cell_at g.K)) (F_law_number : g.Fn k "_law_number" ["_law_text"] (sp_law_number g.K)) (F_law_two : g.Fn k "_law_two" ["_law_script"] (sp_law_two g.K)) (F_law_spoiled : g.Fn k "_law_spoiled" ["_law_text", "_law_cell"] (sp_law_spoiled g.K)) (F_law_error : g.Fn k "_law_error" ["_law_text"] (sp_law_error g.K)) (F_law_taken : g.Fn k "_law_taken" ["_law_text", "_law_shape"] (sp_law_taken g.K)) (b_int : g.mg "int" = none) (b_str : g.mg "str" = none) : g.Fn (k + 1) "_law_of_numbers" ["_law_script"] (sp_law_of_numbers g.K) := by
  refine R.fn sc_law_of_numbers (fun vs H Q E h => by obtain ⟨a, ns, rfl, hS, hl, q⟩ := h; rfl) fun f_ cdv A outer s H vs Q E hr h => ?_
  obtain ⟨a, ns, rfl, hS, hl, q⟩ := h
  refine ⟨_, (@pss_cons _ _ _ _ _ (@ps_asg _ _ _ _ _ _ (@pe_fn _ _ _ _ _ _ _ _ _ _ _ _ F_law_two hr (@pa_cons _ _ _ _ _ (@pv _ 0 _ _ (by rfl) (by first | exact Or.inl rfl | exact Or.inr (Or.inl rfl) | exact Or.inr (Or.inr rfl)) (by decide) (by decide)) pa_nil (by rfl)) (by omega) (by rfl) (by rfl) (by decide) (by rfl) (by rfl)) (@pg_tup _ _ _ _ _ (2) rfl (@pgs_cons _ _ _ _ _ (@pg_name _ _ (1) _ sc_law_of_numbers.nd rfl (Or.inl rfl) (by first | exact .inl rfl | exact .inr rfl | assumption)) (@pgs_cons _ _ _ _ _ (@pg_name _ _ (2) _ sc_law_of_numbers.nd rfl (Or.inl rfl) (by first | exact .inl rfl | exact .inr rfl | assumption)) pgs_nil (by rfl)) (by rfl)) (by rfl) (by rfl)) (by rfl) (by rfl) (by rfl)) (@pss_cons _ _ _ _ _ (@ps_set _ _ (3) _ _ _ _ sc_law_of_numbers.nd rfl (Or.inl rfl) (@pe_lst _ _ _ _ (@pa_cons _ _ _ _ _ (@pe_bt _ _ _ _ _ _ _ _ _ _ b_str call_str_int (@pa_cons _ _ _ _ _ (@pv _ 1 _ _ (by rfl) (by first | exact Or.inl rfl | exact Or.inr (Or.inl rfl) | exact Or.inr (Or.inr rfl)) (by decide) (by decide)) pa_nil (by rfl)) (by decide +kernel) (by rfl) (by rfl) (by decide) (by decide) (by rfl) (by rfl)) (@pa_cons _ _ _ _ _ (@pe_bt _ _ _ _ _ _ _ _ _ _ b_str call_str_int (@pa_cons _ _ _ _ _ (@pv _ 2 _ _ (by rfl) (by first | exact Or.inl rfl | exact Or.inr (Or.inl rfl) | exact Or.inr (Or.inr rfl)) (by decide) (by decide)) pa_nil (by rfl)) (by decide +kernel) (by rfl) (by rfl) (by decide) (by decide) (by rfl) (by rfl)) pa_nil (by rfl)) (by rfl))) (by rfl) (by first | exact .inl rfl | exact .inr rfl | assumption)) (@pss_cons _ _ _ _ _ (@ps_if _ _ _ _ _ _ _ _ (@pt_cmpR _ _ _ _ _ _ _ _ op_eq (@pe_op _ _ _ _ _ _ _ _ op_mod (@pe_fn _ _ _ _ _ _ _ _ _ _ _ _ F_law_cell_at hr (@pa_cons _ _ _ _ _ (@pv _ 0 _ _ (by rfl) (by first | exact Or.inl rfl | exact Or.inr (Or.inl rfl) | exact Or.inr (Or.inr rfl)) (by decide) (by decide)) (@pa_cons _ _ _ _ _ pe_int pa_nil (by rfl)) (by rfl)) (by omega) (by rfl) (by rfl) (by decide) (by rfl) (by rfl)) pe_int) pe_int (nomark _)) (@pss_cons _ _ _ _ _ (@ps_set _ _ (4) _ _ _ _ sc_law_of_numbers.nd rfl (Or.inl rfl) (@pe_op _ _ _ _ _ _ _ _ op_mod (@pe_fn _ _ _ _ _ _ _ _ _ _ _ _ F_law_cell_at hr (@pa_cons _ _ _ _ _ (@pv _ 0 _ _ (by rfl) (by first | exact Or.inl rfl | exact Or.inr (Or.inl rfl) | exact Or.inr (Or.inr rfl)) (by decide) (by decide)) (@pa_cons _ _ _ _ _ pe_int pa_nil (by rfl)) (by rfl)) (by omega) (by rfl) (by rfl) (by decide) (by rfl) (by rfl)) pe_int) (by rfl) (by first | exact .inl rfl | exact .inr rfl | assumption)) (@pss_one _ _ _ (@ps_asg _ _ _ _ _ _ (@pe_fn _ _ _ _ _ _ _ _ _ _ _ _ F_law_spoiled hr (@pa_cons _ _ _ _ _ (@pe_ix _ _ _ _ _ _ _ ix_list (@pv _ 3 _ _ (by rfl) (by first | exact Or.inl rfl | exact Or.inr (Or.inl rfl) | exact Or.inr (Or.inr rfl)) (by decide) (by decide)) (@pv _ 4 _ _ (by rfl) (by first | exact Or.inl rfl | exact Or.inr (Or.inl rfl) | exact Or.inr (Or.inr rfl)) (by decide) (by decide)) (fun _ _ => rfl)) (@pa_cons _ _ _ _ _ (@pe_fn _ _ _ _ _ _ _ _ _ _ _ _ F_law_cell_at hr (@pa_cons _ _ _ _ _ (@pv _ 0 _ _ (by rfl) (by first | exact Or.inl rfl | exact Or.inr (Or.inl rfl) | exact Or.inr (Or.inr rfl)) (by decide) (by decide)) (@pa_cons _ _ _ _ _ pe_int pa_nil (by rfl)) (by rfl)) (by omega) (by rfl) (by rfl) (by decide) (by rfl) (by rfl)) pa_nil (by rfl)) (by rfl)) (by omega) (by rfl) (by rfl) (by decide) (by rfl) (by rfl)) (@pg_sub _ _ _ _ _ _ _ (@pv _ 3 _ _ (by rfl) (by first | exact Or.inl rfl | exact Or.inr (Or.inl rfl) | exact Or.inr (Or.inr rfl)) (by decide) (by decide)) (@pv _ 4 _ _ (by rfl) (by first | exact Or.inl rfl | exact Or.inr (Or.inl rfl) | exact Or.inr (Or.inr rfl)) (by decide) (by decide)) set_list (by intro _; rfl)) (by rfl) (by rfl) (by rfl)))) pss_nil) (@pss_cons _ _ _ _ _ (@ps_set _ _ (5) _ _ _ _ sc_law_of_numbers.nd rfl (Or.inl rfl) (@pe_op _ _ _ _ _ _ _ _ op_add_str (@pe_op _ _ _ _ _ _ _ _ op_add_str (@pe_op _ _ _ _ _ _ _ _ op_add_str (@pe_op _ _ _ _ _ _ _ _ op_add_str pe_str (@pe_ix _ _ _ _ _ _ _ ix_list (@pv _ 3 _ _ (by rfl) (by first | exact Or.inl rfl | exact Or.inr (Or.inl rfl) | exact Or.inr (Or.inr rfl)) (by decide) (by decide)) pe_int (fun _ _ => rfl))) pe_str) (@pe_ix _ _ _ _ _ _ _ ix_list (@pv _ 3 _ _ (by rfl) (by first | exact Or.inl rfl | exact Or.inr (Or.inl rfl) | exact Or.inr (Or.inr rfl)) (by decide) (by decide)) pe_int (fun _ _ => rfl))) pe_str) (by rfl) (by first | exact .inl rfl | exact .inr rfl | assumption)) (@pss_cons _ _ _ _ _ (@ps_if _ _ _ _ _ _ _ _ (@pw_or _ _ _ _ _ _ _ (@pt_not _ _ _ _ (@pt_val _ _ _ (@pe_fn _ _ _ _ _ _ _ _ _ _ _ _ F_law_number hr (@pa_cons _ _ _ _ _ (@pe_ix _ _ _ _ _ _ _ ix_list (@pv _ 3 _ _ (by rfl) (by first | exact Or.inl rfl | exact Or.inr (Or.inl rfl) | exact Or.inr (Or.inr rfl)) (by decide) (by decide)) pe_int (fun _ _ => rfl)) pa_nil (by rfl)) (by omega) (by rfl) (by rfl) (by decide) (by rfl) (by rfl)) (by intro _; rfl))) (@pw_or1 _ _ _ _ (@pt_not _ _ _ _ (@pt_val _ _ _ (@pe_fn _ _ _ _ _ _ _ _ _ _ _ _ F_law_number hr (@pa_cons _ _ _ _ _ (@pe_ix _ _ _ _ _ _ _ ix_list (@pv _ 3 _ _ (by rfl) (by first | exact Or.inl rfl | exact Or.inr (Or.inl rfl) | exact Or.inr (Or.inr rfl)) (by decide) (by decide)) pe_int (fun _ _ => rfl)) pa_nil (by rfl)) (by omega) (by rfl) (by rfl) (by decide) (by rfl) (by rfl)) (by intro _; rfl))))).pt (@pss_one _ _ _ (@ps_ret _ _ _ _ (@pe_cmpR _ _ _ _ _ _ _ _ (op_eqD hr.units) (@pe_fn _ _ _ _ _ _ _ _ _ _ _ _ F_law_error hr (@pa_cons _ _ _ _ _ (@pv _ 5 _ _ (by rfl) (by first | exact Or.inl rfl | exact Or.inr (Or.inl rfl) | exact Or.inr (Or.inr rfl)) (by decide) (by decide)) pa_nil (by rfl)) (by omega) (by rfl) (by rfl) (by decide) (by rfl) (by rfl)) (@pe_tup _ _ _ _ _ (@pa_cons _ _ _ _ _ pe_bl (@pa_cons _ _ _ _ _ pe_bl (@pa_cons _ _ _ _ _ pe_bl (@pa_cons _ _ _ _ _ pe_bl pa_nil (by rfl)) (by rfl)) (by rfl)) (by rfl))) (nomark _)))) pss_nil) (@pss_cons _ _ _ _ _ (@ps_set _ _ (1) _ _ _ _ sc_law_of_numbers.nd rfl (Or.inl rfl) (@pe_bt _ _ _ _ _ _ _ _ _ _ b_int call_int_text (@pa_cons _ _ _ _ _ (@pe_ix _ _ _ _ _ _ _ ix_list (@pv _ 3 _ _ (by rfl) (by first | exact Or.inl rfl | exact Or.inr (Or.inl rfl) | exact Or.inr (Or.inr rfl)) (by decide) (by decide)) pe_int (fun _ _ => rfl)) pa_nil (by rfl)) (by decide +kernel) (by rfl) (by rfl) (by decide) (by decide) (by rfl) (by rfl)) (by rfl) (by first | exact .inl rfl | exact .inr rfl | assumption)) (@pss_cons _ _ _ _ _ (@ps_set _ _ (2) _ _ _ _ sc_law_of_numbers.nd rfl (Or.inl rfl) (@pe_bt _ _ _ _ _ _ _ _ _ _ b_int call_int_text (@pa_cons _ _ _ _ _ (@pe_ix _ _ _ _ _ _ _ ix_list (@pv _ 3 _ _ (by rfl) (by first | exact Or.inl rfl | exact Or.inr (Or.inl rfl) | exact Or.inr (Or.inr rfl)) (by decide) (by decide)) pe_int (fun _ _ => rfl)) pa_nil (by rfl)) (by decide +kernel) (by rfl) (by rfl) (by decide) (by decide) (by rfl) (by rfl)) (by rfl) (by first | exact .inl rfl | exact .inr rfl | assumption)) (@pss_cons _ _ _ _ _ (@ps_if _ _ _ _ _ _ _ _ (@pt_cmpR _ _ _ _ _ _ _ _ op_gt (@pv _ 1 _ _ (by rfl) (by first | exact Or.inl rfl | exact Or.inr (Or.inl rfl) | exact Or.inr (Or.inr rfl)) (by decide) (by decide)) (@pv _ 2 _ _ (by rfl) (by first | exact Or.inl rfl | exact Or.inr (Or.inl rfl) | exact Or.inr (Or.inr rfl)) (by decide) (by decide)) (nomark _)) (@pss_one _ _ _ (@ps_ret _ _ _ _ (@pe_cmpR _ _ _ _ _ _ _ _ (op_eqD hr.units) (@pe_fn _ _ _ _ _ _ _ _ _ _ _ _ F_law_error hr (@pa_cons _ _ _ _ _ (@pv _ 5 _ _ (by rfl) (by first | exact Or.inl rfl | exact Or.inr (Or.inl rfl) | exact Or.inr (Or.inr rfl)) (by decide) (by decide)) pa_nil (by rfl)) (by omega) (by rfl) (by rfl) (by decide) (by rfl) (by rfl)) (@pe_tup _ _ _ _ _ (@pa_cons _ _ _ _ _ pe_bl (@pa_cons _ _ _ _ _ pe_bl (@pa_cons _ _ _ _ _ pe_bl (@pa_cons _ _ _ _ _ pe_bl pa_nil (by rfl)) (by rfl)) (by rfl)) (by rfl))) (nomark _)))) pss_nil) (@pss_one _ _ _ (@ps_ret _ _ _ _ (@pe_fn _ _ _ _ _ _ _ _ _ _ _ _ F_law_taken hr (@pa_cons _ _ _ _ _ (@pv _ 5 _ _ (by rfl) (by first | exact Or.inl rfl | exact Or.inr (Or.inl rfl) | exact Or.inr (Or.inr rfl)) (by decide) (by decide)) (@pa_cons _ _ _ _ _ (@pe_tup _ _ _ _ _ (@pa_cons _ _ _ _ _ pe_str (@pa_cons _ _ _ _ _ (@pv _ 1 _ _ (by rfl) (by first | exact Or.inl rfl | exact Or.inr (Or.inl rfl) | exact Or.inr (Or.inr rfl)) (by decide) (by decide)) (@pa_cons _ _ _ _ _ (@pv _ 2 _ _ (by rfl) (by first | exact Or.inl rfl | exact Or.inr (Or.inl rfl) | exact Or.inr (Or.inr rfl)) (by decide) (by decide)) pa_nil (by rfl)) (by rfl)) (by rfl))) pa_nil (star_tup _ _ _ _ _)) (by rfl)) (by omega) (by rfl) (by rfl) (by decide) (by rfl) (by rfl)))))))))))), ?_⟩
  refine cut3 (fun σ H' => ∃ (o1 o2 o4 : Option V) (p : Addr) (t1 t2 : List Nat), σ = [some (.ref a), o1, o2, some (.ref p), o4, none] ∧ H' p = some (.lst [.str (S t1), .str (S t2)]) ∧ (Src.two t1 t2).ok) ?_ ?_
  rotate_left
  · intro N hN
    walk_at "rd"
    refine ⟨a, ns, rfl, hS, hl, fun p0 lo hi H1 s1 hp0 b1 b2 => ⟨p0, rfl, _, SqT.of hp0, rfl, _, _, rfl, _, _, rfl, rfl, lo, rfl, big_log b1, hi, rfl, big_log b2, few (by decide), fun p hp => ?_⟩⟩
    rw [dg_str, dg_str]
    have hS1 := (s1.trans (.upd_new hp (.lst [.str (S (dg lo)), .str (S (dg hi))]))).seq hS
    have l1 := dg_max b1
    have l2 := dg_max b2
    have pl1 := dg_plain lo
    have pl2 := dg_plain hi
    refine ⟨a, ns, 0, rfl, hS1, hl, _, rfl, by decide, ite2 (fun _ => ?_) fun _ => hN _ _ ⟨_, _, _, p, dg lo, dg hi, rfl, upd_same, pl1, pl2, by omega, by omega⟩⟩
    refine ⟨a, ns, 4, rfl, hS1, hl, _, rfl, by decide, _, SqL.of upd_same, ?_⟩
    rcases (by omega : ns.getD 4 0 % 2 = 0 ∨ ns.getD 4 0 % 2 = 1) with e | e
    · rw [e]
      exact ⟨_, rfl, a, ns, 5, rfl, hS1, hl, dg lo, _, rfl, pl1, by omega, fun b H2 s2 pb lb => ⟨_, s2 _ _ upd_same, 0, rfl, hN _ _ ⟨_, _, _, p, b, dg hi, rfl, upd_same, pb, pl2, lb, by omega⟩⟩⟩
    · rw [e]
      exact ⟨_, rfl, a, ns, 5, rfl, hS1, hl, dg hi, _, rfl, pl2, by omega, fun b H2 s2 pb lb => ⟨_, s2 _ _ upd_same, 1, rfl, hN _ _ ⟨_, _, _, p, dg lo, b, rfl, upd_same, pl1, pb, by omega, lb⟩⟩⟩
  rintro σ H1 ⟨o1, o2, o4, p, t1, t2, rfl, hp, hok⟩
  have hl1 := hok.2.2.1
  have hl2 := hok.2.2.2
  have hs1 := S_len t1
  have hs2 := S_len t2
  have sw : Str.ofString "whole(" = S (cW ++ [40]) := by decide +kernel
  have s41 : Str.ofString ")" = S [41] := by decide +kernel
  have s44 : Str.ofString "," = S [44] := by decide +kernel
  have lw : cW.length = 5 := rfl
  have dn : ∀ {x : Addr} {H' : Hp} {b1 b2 b3 : Bool}, H' x = some (.tup [.bl b1, .bl b2, .bl b3, .bl true]) → Den g.K H' (.ref x) (.tuple [.bool b1, .bool b2, .bool b3, .bool true]) := fun hx => .tup (SqT.of hx) (.cons (.bl _) (.cons (.bl _) (.cons (.bl _) (.cons (.bl _) .nil))))
  refine cut1 (fun σ H' => H' = H1 ∧ σ = [some (.ref a), o1, o2, some (.ref p), o4, some (.str (S (Src.two t1 t2).txt))]) ?_ ?_
  rotate_left
  · intro N hN
    walk_at "rd"
    rw [sw, s41, s44]
    refine ⟨_, SqL.of hp, _, rfl, S t1, rfl, ?_, ?_, _, SqL.of hp, _, rfl, S t2, rfl, ?_, ?_, hN _ _ ⟨rfl, ?_⟩⟩
    · exact few (by rw [S_len, S_len, List.length_append]; simp; omega)
    · exact few (by rw [S_app, S_len, S_len]; simp only [List.length_append, List.length_cons, List.length_nil]; omega)
    · exact few (by rw [S_app, S_app, S_len, S_len]; simp only [List.length_append, List.length_cons, List.length_nil]; omega)
    · exact few (by rw [S_app, S_app, S_app, S_len, S_len]; simp only [List.length_append, List.length_cons, List.length_nil]; omega)
    · rw [S_app, S_app, S_app, S_app]
      simp [Src.txt]
  rintro σ H2 ⟨rfl, rfl⟩
  walk_at "rd"
  refine ⟨_, SqL.of hp, _, rfl, t1, rfl, by omega, fun H3 s3 => ⟨_, rfl, ite2 (fun c1 => ?_) fun c1 => ⟨_, SqL.of (s3 _ _ hp), _, rfl, t2, rfl, by omega, fun H4 s4 => ⟨_, rfl, ite2 (fun c2 => ?_) fun c2 => ?_⟩⟩⟩⟩
  · refine ⟨.two t1 t2, true, false, false, rfl, hok, .inl ⟨by show (numB t1 && numB t2) = false; rw [c1]; rfl, rfl, rfl, rfl⟩, fun p' H5 s5 hp' => ⟨few (by decide), fun p2 hp2 => ⟨_, dn ((Same.upd_new hp2 _) _ _ hp'), _, dn upd_same, by simp [PyData.depth, PyData.depthAll], ?_⟩⟩⟩
    rw [show PyData.eqv (.tuple [.bool true, .bool false, .bool false, .bool true]) (.tuple [.bool true, .bool false, .bool false, .bool true]) = true by decide +kernel]
    exact q _
  · refine ⟨.two t1 t2, true, false, false, rfl, hok, .inl ⟨by show (numB t1 && numB t2) = false; rw [c2, Bool.and_false], rfl, rfl, rfl⟩, fun p' H5 s5 hp' => ⟨few (by decide), fun p2 hp2 => ⟨_, dn ((Same.upd_new hp2 _) _ _ hp'), _, dn upd_same, by simp [PyData.depth, PyData.depthAll], ?_⟩⟩⟩
    rw [show PyData.eqv (.tuple [.bool true, .bool false, .bool false, .bool true]) (.tuple [.bool true, .bool false, .bool false, .bool true]) = true by decide +kernel]
    exact q _
  have n1 : numB t1 = true := by
    cases z : numB t1 with
    | true => rfl
    | false => exact (c1 z).elim
  have n2 : numB t2 = true := by
    cases z : numB t2 with
    | true => rfl
    | false => exact (c2 z).elim
  obtain ⟨i, e1, b1⟩ := numB_dg n1
  obtain ⟨j, e2, b2⟩ := numB_dg n2
  have hsays : Says (.two t1 t2) (.whole i j) := ⟨e1, e2, b1, b2, n1, n2⟩
  have hp4 := (s3.trans s4) _ _ hp
  have v1 : intText? (S t1) = some i := by rw [e1]; exact dg_val (Nat.lt_trans b1 (by decide +kernel))
  have v2 : intText? (S t2) = some j := by rw [e2]; exact dg_val (Nat.lt_trans b2 (by decide +kernel))
  refine ⟨_, SqL.of hp4, _, rfl, _, rfl, i, v1, by omega, _, SqL.of hp4, _, rfl, _, rfl, j, v2, by omega, ite2 (fun c3 => ?_) fun c3 => ⟨few (by decide), fun p2 hp2 => ?_⟩⟩
  · have hnr : ¬ Range (.whole i j) := fun z => by
      have z' : i ≤ j := z
      omega
    refine ⟨.two t1 t2, false, false, true, rfl, hok, .inr (.inr ⟨_, hsays, trivial, hnr, rfl, rfl, rfl⟩), fun p' H5 s5 hp' => ⟨few (by decide), fun p2 hp2 => ⟨_, dn ((Same.upd_new hp2 _) _ _ hp'), _, dn upd_same, by simp [PyData.depth, PyData.depthAll], ?_⟩⟩⟩
    rw [show PyData.eqv (.tuple [.bool false, .bool false, .bool true, .bool true]) (.tuple [.bool false, .bool false, .bool true, .bool true]) = true by decide +kernel]
    exact q _
  · have hr' : Range (.whole i j) := show i ≤ j by omega
    rw [e1, e2] at hok hsays ⊢
    exact ⟨.whole i j, _, rfl, hok, hsays, trivial, hr', ⟨p2, rfl, by rw [s_whole]; exact upd_same⟩, fun H5 _ => q H5⟩
end KW
set_option maxHeartbeats 8000000
namespace KW
open PySem L2

variable {g : Gx}
variable {C : Addr}
local macro_rules | `(tactic| walk_at "gn") => `(tactic| simp only [gName, List.set_cons_zero, List.set_cons_succ])

local macro_rules | `(tactic| walk_at "rd") => `(tactic| simp (config := { failIfUnchanged := false, maxSteps := 10000000 }) only [L2.start, cxOf_K, nox_K, List.map_cons, List.map_nil, List.length_cons, List.length_nil, List.cons_append, List.nil_append, List.replicate_succ, List.replicate_zero, Nat.zero_add, Nat.reduceAdd, Nat.reduceSub, Nat.sub_self, tSeq, tIfS, tTest, tOp, tC, tVar, rI0, rI, rU, tUn, tRet, tRetN, tDrop, tNext, tBreak, tCont, tAsg, gName, gNil, gCons, tCons, tNil, tCB, tCall, tTry, tTryAs, tRaise, sFld, tFld, tMake, tMeth, Ends.gone, caught_K, tB, tAnd, tOr, tNot, tAndV, tOrV, tNotV, tIf, tChain, tNoPart, tPart, tSl, tNever, tAug, rIxL, rIxT, rSlL, tLst, tTup, gTup, tRev, tLZ, tConT, tDict0, rBits, rFind, rIn, tBM, tBM0, rAppend, rReverse, rEq, rNe, scal_ii, scal_ss, rCat, rSetL, gSub, ipI, capSt, List.getD_cons_zero, List.getD_cons_succ, decide_true, not_true_eq_false, not_false_eq_true,
  exists_eq_left', exists_eq_left, exists_eq', exists_eq, exists_and_left, and_assoc, Option.some.injEq, V.int.injEq, V.bl.injEq, V.ref.injEq, V.str.injEq, List.getElem?_cons_zero, List.getElem?_cons_succ, List.set_cons_zero, List.set_cons_succ, List.cons.injEq, and_true, true_and, List.append_nil, decide_eq_true_eq, Bool.not_eq_true', decide_eq_false_iff_not, Bool.not_not, Bool.not_true, Bool.not_false, Bool.true_eq_false, Bool.false_eq_true, if_true, if_false, ite_true, ite_false])

theorem lf_ws {c : Nat} (h : Rd.isLF c = true) : Rd.isWS c = true := by simp [Rd.isWS, h]
theorem good_of {w : List Nat} (h : ∀ c ∈ w, Rd.isWS c = true) (h1 : 1 ≤ w.length) (h2 : w.length ≤ 62) : Rd.goodW w = true := by
  unfold Rd.goodW Rd.wordOk
  rw [List.all_eq_true.mpr h, decide_eq_true h1, decide_eq_true h2]
  rfl
theorem one_txt (w : List Nat) : S (cT ++ [40]) ++ S w ++ S [41] = S (Src.one w).txt := by
  rw [S_app, S_app]
  simp [Src.txt]
end KW
set_option maxHeartbeats 8000000
namespace KW
open PySem L2

variable {g : Gx}
variable {C : Addr}
local macro_rules | `(tactic| walk_at "gn") => `(tactic| simp only [gName, List.set_cons_zero, List.set_cons_succ])

local macro_rules | `(tactic| walk_at "rd") => `(tactic| simp (config := { failIfUnchanged := false, maxSteps := 10000000 }) only [L2.start, cxOf_K, nox_K, List.map_cons, List.map_nil, List.length_cons, List.length_nil, List.cons_append, List.nil_append, List.replicate_succ, List.replicate_zero, Nat.zero_add, Nat.reduceAdd, Nat.reduceSub, Nat.sub_self, tSeq, tIfS, tTest, tOp, tC, tVar, rI0, rI, rU, tUn, tRet, tRetN, tDrop, tNext, tBreak, tCont, tAsg, gName, gNil, gCons, tCons, tNil, tCB, tCall, tTry, tTryAs, tRaise, sFld, tFld, tMake, tMeth, Ends.gone, caught_K, tB, tAnd, tOr, tNot, tAndV, tOrV, tNotV, tIf, tChain, tNoPart, tPart, tSl, tNever, tAug, rIxL, rIxT, rSlL, tLst, tTup, gTup, tRev, tLZ, tConT, tDict0, rBits, rFind, rIn, tBM, tBM0, rAppend, rReverse, rEq, rNe, scal_ii, scal_ss, rCat, rSetL, gSub, ipI, capSt, List.getD_cons_zero, List.getD_cons_succ, decide_true, not_true_eq_false, not_false_eq_true,
  exists_eq_left', exists_eq_left, exists_eq', exists_eq, exists_and_left, and_assoc, Option.some.injEq, V.int.injEq, V.bl.injEq, V.ref.injEq, V.str.injEq, List.getElem?_cons_zero, List.getElem?_cons_succ, List.set_cons_zero, List.set_cons_succ, List.cons.injEq, and_true, true_and, List.append_nil, decide_eq_true_eq, Bool.not_eq_true', decide_eq_false_iff_not, Bool.not_not, Bool.not_true, Bool.not_false, Bool.true_eq_false, Bool.false_eq_true, if_true, if_false, ite_true, ite_false])

theorem body_law {k : Nat} {C_CountError : Addr} {C_NoNote : Addr} {C_Crowded : Addr} {C_Twice : Addr} {C_NoRange : Addr} {C_NoteReader : Addr} (F_law_cell_at : g.Fn k "_law_cell_at" ["_law_script", "_law_k"] (sp_law_cell_at g.K)) (F_law_signs : g.Fn k "_law_signs" ["_law_cell", "_law_size"] (sp_law_signs g.K)) (F_law_error : g.Fn k "_law_error" ["_law_text"] (sp_law_error g.K)) (F_law_taken : g.Fn k "_law_taken" ["_law_text", "_law_shape"] (sp_law_taken g.K)) (F_law_of_numbers : g.Fn k "_law_of_numbers" ["_law_script"] (sp_law_of_numbers g.K)) (b_len : g.mg "len" = none) : Body g k ["_law_script", "_law_signs_here", "_law_at", "_law_way"] "law" s_law (spTrue g.K) := by
  refine fun f_ cdv A outer s H vs Q E hr h => ?_
  obtain ⟨a, ns, rfl, hS, hl, q⟩ := h
  refine ⟨_, (@pss_cons _ _ _ _ _ (@ps_if _ _ _ _ _ _ _ _ (@pt_cmpR _ _ _ _ _ _ _ _ op_lt (@pe_op _ _ _ _ _ _ _ _ op_mod (@pe_fn _ _ _ _ _ _ _ _ _ _ _ _ F_law_cell_at hr (@pa_cons _ _ _ _ _ (@pv _ 0 _ _ (by rfl) (by first | exact Or.inl rfl | exact Or.inr (Or.inl rfl) | exact Or.inr (Or.inr rfl)) (by decide) (by decide)) (@pa_cons _ _ _ _ _ pe_int pa_nil (by rfl)) (by rfl)) (by omega) (by rfl) (by rfl) (by decide) (by rfl) (by rfl)) pe_int) pe_int (nomark _)) (@pss_one _ _ _ (@ps_ret _ _ _ _ (@pe_fn _ _ _ _ _ _ _ _ _ _ _ _ F_law_of_numbers hr (@pa_cons _ _ _ _ _ (@pv _ 0 _ _ (by rfl) (by first | exact Or.inl rfl | exact Or.inr (Or.inl rfl) | exact Or.inr (Or.inr rfl)) (by decide) (by decide)) pa_nil (by rfl)) (by omega) (by rfl) (by rfl) (by decide) (by rfl) (by rfl)))) pss_nil) (@pss_cons _ _ _ _ _ (@ps_set _ _ (1) _ _ _ _ sc_law.nd rfl (Or.inl rfl) (@pe_fn _ _ _ _ _ _ _ _ _ _ _ _ F_law_signs hr (@pa_cons _ _ _ _ _ (@pe_fn _ _ _ _ _ _ _ _ _ _ _ _ F_law_cell_at hr (@pa_cons _ _ _ _ _ (@pv _ 0 _ _ (by rfl) (by first | exact Or.inl rfl | exact Or.inr (Or.inl rfl) | exact Or.inr (Or.inr rfl)) (by decide) (by decide)) (@pa_cons _ _ _ _ _ pe_int pa_nil (by rfl)) (by rfl)) (by omega) (by rfl) (by rfl) (by decide) (by rfl) (by rfl)) (@pa_cons _ _ _ _ _ (@pe_op _ _ _ _ _ _ _ _ op_add pe_int (@pe_op _ _ _ _ _ _ _ _ op_mod (@pe_fn _ _ _ _ _ _ _ _ _ _ _ _ F_law_cell_at hr (@pa_cons _ _ _ _ _ (@pv _ 0 _ _ (by rfl) (by first | exact Or.inl rfl | exact Or.inr (Or.inl rfl) | exact Or.inr (Or.inr rfl)) (by decide) (by decide)) (@pa_cons _ _ _ _ _ pe_int pa_nil (by rfl)) (by rfl)) (by omega) (by rfl) (by rfl) (by decide) (by rfl) (by rfl)) pe_int)) pa_nil (by rfl)) (by rfl)) (by omega) (by rfl) (by rfl) (by decide) (by rfl) (by rfl)) (by rfl) (by first | exact .inl rfl | exact .inr rfl | assumption)) (@pss_cons _ _ _ _ _ (@ps_set _ _ (2) _ _ _ _ sc_law.nd rfl (Or.inl rfl) (@pe_op _ _ _ _ _ _ _ _ op_mod (@pe_fn _ _ _ _ _ _ _ _ _ _ _ _ F_law_cell_at hr (@pa_cons _ _ _ _ _ (@pv _ 0 _ _ (by rfl) (by first | exact Or.inl rfl | exact Or.inr (Or.inl rfl) | exact Or.inr (Or.inr rfl)) (by decide) (by decide)) (@pa_cons _ _ _ _ _ pe_int pa_nil (by rfl)) (by rfl)) (by omega) (by rfl) (by rfl) (by decide) (by rfl) (by rfl)) (@pe_op _ _ _ _ _ _ _ _ op_add (@pe_bf _ _ _ _ _ _ _ _ _ _ b_len call_len_str (@pa_cons _ _ _ _ _ (@pv _ 1 _ _ (by rfl) (by first | exact Or.inl rfl | exact Or.inr (Or.inl rfl) | exact Or.inr (Or.inr rfl)) (by decide) (by decide)) pa_nil (by rfl)) (by decide +kernel) (by rfl) (by rfl) (by decide) (by decide) (by rfl) (by rfl)) pe_int)) (by rfl) (by first | exact .inl rfl | exact .inr rfl | assumption)) (@pss_cons _ _ _ _ _ (@ps_set _ _ (3) _ _ _ _ sc_law.nd rfl (Or.inl rfl) (@pe_op _ _ _ _ _ _ _ _ op_mod (@pe_fn _ _ _ _ _ _ _ _ _ _ _ _ F_law_cell_at hr (@pa_cons _ _ _ _ _ (@pv _ 0 _ _ (by rfl) (by first | exact Or.inl rfl | exact Or.inr (Or.inl rfl) | exact Or.inr (Or.inr rfl)) (by decide) (by decide)) (@pa_cons _ _ _ _ _ pe_int pa_nil (by rfl)) (by rfl)) (by omega) (by rfl) (by rfl) (by decide) (by rfl) (by rfl)) pe_int) (by rfl) (by first | exact .inl rfl | exact .inr rfl | assumption)) (@pss_cons _ _ _ _ _ (@ps_if _ _ _ _ _ _ _ _ (@pw_and _ _ _ _ _ _ _ (@pt_cmpR _ _ _ _ _ _ _ _ op_eq (@pv _ 3 _ _ (by rfl) (by first | exact Or.inl rfl | exact Or.inr (Or.inl rfl) | exact Or.inr (Or.inr rfl)) (by decide) (by decide)) pe_int (nomark _)) (@pw_and1 _ _ _ _ (@pt_cmpR _ _ _ _ _ _ _ _ op_lt (@pe_bf _ _ _ _ _ _ _ _ _ _ b_len call_len_str (@pa_cons _ _ _ _ _ (@pv _ 1 _ _ (by rfl) (by first | exact Or.inl rfl | exact Or.inr (Or.inl rfl) | exact Or.inr (Or.inr rfl)) (by decide) (by decide)) pa_nil (by rfl)) (by decide +kernel) (by rfl) (by rfl) (by decide) (by decide) (by rfl) (by rfl)) pe_int (nomark _)))).pt (@pss_cons _ _ _ _ _ (@ps_set _ _ (1) _ _ _ _ sc_law.nd rfl (Or.inl rfl) (@pe_op _ _ _ _ _ _ _ _ op_add_str (@pe_op _ _ _ _ _ _ _ _ op_add_str (@pe_slice _ _ _ _ _ _ _ _ _ _ sl_str (@pv _ 1 _ _ (by rfl) (by first | exact Or.inl rfl | exact Or.inr (Or.inl rfl) | exact Or.inr (Or.inr rfl)) (by decide) (by decide)) po_none (@po_some _ _ _ (@pv _ 2 _ _ (by rfl) (by first | exact Or.inl rfl | exact Or.inr (Or.inl rfl) | exact Or.inr (Or.inr rfl)) (by decide) (by decide)))) (@pe_ix _ _ _ _ _ _ _ ix_str (@pv _ 1 _ _ (by rfl) (by first | exact Or.inl rfl | exact Or.inr (Or.inl rfl) | exact Or.inr (Or.inr rfl)) (by decide) (by decide)) (@pe_op _ _ _ _ _ _ _ _ op_mod (@pe_fn _ _ _ _ _ _ _ _ _ _ _ _ F_law_cell_at hr (@pa_cons _ _ _ _ _ (@pv _ 0 _ _ (by rfl) (by first | exact Or.inl rfl | exact Or.inr (Or.inl rfl) | exact Or.inr (Or.inr rfl)) (by decide) (by decide)) (@pa_cons _ _ _ _ _ pe_int pa_nil (by rfl)) (by rfl)) (by omega) (by rfl) (by rfl) (by decide) (by rfl) (by rfl)) (@pe_bf _ _ _ _ _ _ _ _ _ _ b_len call_len_str (@pa_cons _ _ _ _ _ (@pv _ 1 _ _ (by rfl) (by first | exact Or.inl rfl | exact Or.inr (Or.inl rfl) | exact Or.inr (Or.inr rfl)) (by decide) (by decide)) pa_nil (by rfl)) (by decide +kernel) (by rfl) (by rfl) (by decide) (by decide) (by rfl) (by rfl))) (fun _ _ => rfl))) (@pe_slice _ _ _ _ _ _ _ _ _ _ sl_str (@pv _ 1 _ _ (by rfl) (by first | exact Or.inl rfl | exact Or.inr (Or.inl rfl) | exact Or.inr (Or.inr rfl)) (by decide) (by decide)) (@po_some _ _ _ (@pv _ 2 _ _ (by rfl) (by first | exact Or.inl rfl | exact Or.inr (Or.inl rfl) | exact Or.inr (Or.inr rfl)) (by decide) (by decide))) po_none)) (by rfl) (by first | exact .inl rfl | exact .inr rfl | assumption)) (@pss_one _ _ _ (@ps_ret _ _ _ _ (@pe_cmpR _ _ _ _ _ _ _ _ (op_eqD hr.units) (@pe_fn _ _ _ _ _ _ _ _ _ _ _ _ F_law_error hr (@pa_cons _ _ _ _ _ (@pe_op _ _ _ _ _ _ _ _ op_add_str (@pe_op _ _ _ _ _ _ _ _ op_add_str pe_str (@pv _ 1 _ _ (by rfl) (by first | exact Or.inl rfl | exact Or.inr (Or.inl rfl) | exact Or.inr (Or.inr rfl)) (by decide) (by decide))) pe_str) pa_nil (by rfl)) (by omega) (by rfl) (by rfl) (by decide) (by rfl) (by rfl)) (@pe_tup _ _ _ _ _ (@pa_cons _ _ _ _ _ pe_bl (@pa_cons _ _ _ _ _ pe_bl (@pa_cons _ _ _ _ _ pe_bl (@pa_cons _ _ _ _ _ pe_bl pa_nil (by rfl)) (by rfl)) (by rfl)) (by rfl))) (nomark _))))) pss_nil) (@pss_cons _ _ _ _ _ (@ps_if _ _ _ _ _ _ _ _ (@pw_and _ _ _ _ _ _ _ (@pt_cmpR _ _ _ _ _ _ _ _ op_eq (@pv _ 3 _ _ (by rfl) (by first | exact Or.inl rfl | exact Or.inr (Or.inl rfl) | exact Or.inr (Or.inr rfl)) (by decide) (by decide)) pe_int (nomark _)) (@pw_and1 _ _ _ _ (@pt_cmpR _ _ _ _ _ _ _ _ op_lt (@pe_bf _ _ _ _ _ _ _ _ _ _ b_len call_len_str (@pa_cons _ _ _ _ _ (@pv _ 1 _ _ (by rfl) (by first | exact Or.inl rfl | exact Or.inr (Or.inl rfl) | exact Or.inr (Or.inr rfl)) (by decide) (by decide)) pa_nil (by rfl)) (by decide +kernel) (by rfl) (by rfl) (by decide) (by decide) (by rfl) (by rfl)) pe_int (nomark _)))).pt (@pss_cons _ _ _ _ _ (@ps_set _ _ (1) _ _ _ _ sc_law.nd rfl (Or.inl rfl) (@pe_op _ _ _ _ _ _ _ _ op_add_str (@pe_op _ _ _ _ _ _ _ _ op_add_str (@pe_slice _ _ _ _ _ _ _ _ _ _ sl_str (@pv _ 1 _ _ (by rfl) (by first | exact Or.inl rfl | exact Or.inr (Or.inl rfl) | exact Or.inr (Or.inr rfl)) (by decide) (by decide)) po_none (@po_some _ _ _ (@pv _ 2 _ _ (by rfl) (by first | exact Or.inl rfl | exact Or.inr (Or.inl rfl) | exact Or.inr (Or.inr rfl)) (by decide) (by decide)))) pe_str) (@pe_slice _ _ _ _ _ _ _ _ _ _ sl_str (@pv _ 1 _ _ (by rfl) (by first | exact Or.inl rfl | exact Or.inr (Or.inl rfl) | exact Or.inr (Or.inr rfl)) (by decide) (by decide)) (@po_some _ _ _ (@pv _ 2 _ _ (by rfl) (by first | exact Or.inl rfl | exact Or.inr (Or.inl rfl) | exact Or.inr (Or.inr rfl)) (by decide) (by decide))) po_none)) (by rfl) (by first | exact .inl rfl | exact .inr rfl | assumption)) (@pss_one _ _ _ (@ps_ret _ _ _ _ (@pe_cmpR _ _ _ _ _ _ _ _ (op_eqD hr.units) (@pe_fn _ _ _ _ _ _ _ _ _ _ _ _ F_law_error hr (@pa_cons _ _ _ _ _ (@pe_op _ _ _ _ _ _ _ _ op_add_str (@pe_op _ _ _ _ _ _ _ _ op_add_str pe_str (@pv _ 1 _ _ (by rfl) (by first | exact Or.inl rfl | exact Or.inr (Or.inl rfl) | exact Or.inr (Or.inr rfl)) (by decide) (by decide))) pe_str) pa_nil (by rfl)) (by omega) (by rfl) (by rfl) (by decide) (by rfl) (by rfl)) (@pe_tup _ _ _ _ _ (@pa_cons _ _ _ _ _ pe_bl (@pa_cons _ _ _ _ _ pe_bl (@pa_cons _ _ _ _ _ pe_bl (@pa_cons _ _ _ _ _ pe_bl pa_nil (by rfl)) (by rfl)) (by rfl)) (by rfl))) (nomark _))))) pss_nil) (@pss_one _ _ _ (@ps_ret _ _ _ _ (@pe_fn _ _ _ _ _ _ _ _ _ _ _ _ F_law_taken hr (@pa_cons _ _ _ _ _ (@pe_op _ _ _ _ _ _ _ _ op_add_str (@pe_op _ _ _ _ _ _ _ _ op_add_str pe_str (@pv _ 1 _ _ (by rfl) (by first | exact Or.inl rfl | exact Or.inr (Or.inl rfl) | exact Or.inr (Or.inr rfl)) (by decide) (by decide))) pe_str) (@pa_cons _ _ _ _ _ (@pe_tup _ _ _ _ _ (@pa_cons _ _ _ _ _ pe_str (@pa_cons _ _ _ _ _ (@pv _ 1 _ _ (by rfl) (by first | exact Or.inl rfl | exact Or.inr (Or.inl rfl) | exact Or.inr (Or.inr rfl)) (by decide) (by decide)) pa_nil (by rfl)) (by rfl))) pa_nil (star_tup _ _ _ _ _)) (by rfl)) (by omega) (by rfl) (by rfl) (by decide) (by rfl) (by rfl)))))))))), ?_⟩
  have st : Str.ofString "text(" = S (cT ++ [40]) := by decide +kernel
  have s41 : Str.ofString ")" = S [41] := by decide +kernel
  have s45 : Str.ofString "-" = S [45] := by decide +kernel
  have dn : ∀ {x : Addr} {H' : Hp} {b1 b2 b3 : Bool}, H' x = some (.tup [.bl b1, .bl b2, .bl b3, .bl true]) → Den g.K H' (.ref x) (.tuple [.bool b1, .bool b2, .bool b3, .bool true]) := fun hx => .tup (SqT.of hx) (.cons (.bl _) (.cons (.bl _) (.cons (.bl _) (.cons (.bl _) .nil))))
  refine cut4 (fun σ H' => ∃ (w : List Nat) (k : Nat) (y : Int), σ = [some (.ref a), some (.str (S w)), some (.int (k : Nat)), some (.int y)] ∧ SqL g.K H' a (ns.map V.int) ∧ 1 ≤ w.length ∧ w.length ≤ 62 ∧ w.all Rd.isLF = true ∧ w.Nodup ∧ k ≤ w.length) ?_ ?_
  rotate_left
  · intro N hN
    walk_at "rd"
    refine ⟨a, ns, 0, rfl, hS, hl, _, rfl, by decide, ite2 (fun _ => ⟨a, ns, rfl, hS, hl, q⟩) fun _ => ?_⟩
    obtain ⟨m, hm, hm2⟩ := mod_nat (ns.getD 2 0) (j := 62) (by decide)
    refine ⟨a, ns, 1, rfl, hS, hl, a, ns, 2, rfl, hS, hl, _, rfl, by decide, ?_⟩
    rw [hm, show (1 + (m : Int)) = ((1 + m : Nat) : Int) by omega]
    refine ⟨_, 1 + m, rfl, by omega, fun w H1 h1 h2 h3 s1 => ?_⟩
    have hsw := S_len w
    refine ⟨a, ns, 3, rfl, s1.seq hS, hl, S w, rfl, few (by omega), _, rfl, by omega, a, ns, 4, rfl, s1.seq hS, hl, _, rfl, by decide, ?_⟩
    obtain ⟨k, hk, hk2⟩ := mod_nat (ns.getD 3 0) (j := ((S w).length : Int) + 1) (by omega)
    rw [hk]
    exact hN _ _ ⟨w, k, _, rfl, s1.seq hS, by omega, by omega, h2, h3, by omega⟩
  rintro σ H1 ⟨w, k, y, rfl, hS1, w1, w2, hlf, hnd, hk⟩
  have hsw := S_len w
  have hlf' : ∀ c ∈ w, Rd.isLF c = true := List.all_eq_true.mp hlf
  have e1 := cutS_hi w k
  have e2 := cutS_lo w k
  have lT : (S (cT ++ [40])).length = 5 := S_len _
  have l41 : (S [41]).length = 1 := S_len _
  have l45 : (S [45]).length = 1 := S_len _
  have ltk : (w.take k).length ≤ 62 := by rw [List.length_take]; omega
  have ldk : (w.drop k).length ≤ 62 := by rw [List.length_drop]; omega
  have hst := S_len (w.take k)
  have hsd := S_len (w.drop k)
  have hmem : ∀ (x c : Nat), c ∈ w.take k ++ [x] ++ w.drop k → c = x ∨ c ∈ w := fun x c hc => by
    rcases List.mem_append.mp hc with hc | hc
    · rcases List.mem_append.mp hc with hc | hc
      · exact .inr (List.mem_of_mem_take hc)
      · exact .inl (by simpa using hc)
    · exact .inr (List.mem_of_mem_drop hc)
  have hlen : ∀ x : Nat, (w.take k ++ [x] ++ w.drop k).length = w.length + 1 := fun x => by
    rw [List.length_append, List.length_append, List.length_take, List.length_drop, List.length_singleton]
    omega
  refine cut1 (fun σ H' => H' = H1 ∧ σ = [some (.ref a), some (.str (S w)), some (.int (k : Nat)), some (.int y)]) ?_ ?_
  rotate_left
  · intro N hN
    walk_at "rd"
    rw [st, s41]
    refine ite2 (fun _ => ⟨few (by omega), ite2 (fun c => ?_) fun _ => hN _ _ ⟨rfl, rfl⟩⟩) fun _ => hN _ _ ⟨rfl, rfl⟩
    obtain ⟨m, hm, hm2⟩ := mod_nat (ns.getD 5 0) (j := ((S w).length : Int)) (by omega)
    have hmw : m < w.length := by omega
    have lx : (S [w[m]]).length = 1 := S_len _
    have hok : (Src.one (w.take k ++ [w[m]] ++ w.drop k)).ok := good_of (fun c hc => by
      rcases hmem _ c hc with e | e
      · rw [e]; exact lf_ws (hlf' _ (List.getElem_mem hmw))
      · exact lf_ws (hlf' c e)) (by rw [hlen]; omega) (by rw [hlen]; omega)
    have hsy : Says (Src.one (w.take k ++ [w[m]] ++ w.drop k)) (.text (w.take k ++ [w[m]] ++ w.drop k)) := ⟨rfl, List.all_eq_true.mpr fun c hc => by
      rcases hmem _ c hc with e | e
      · rw [e]; exact hlf' _ (List.getElem_mem hmw)
      · exact hlf' c e⟩
    have hnap : ¬ Apart (.text (w.take k ++ [w[m]] ++ w.drop k)) := fun z => by
      have z' : (w.take k ++ [w[m]] ++ w.drop k).Nodup := z
      have pm : (w.take k ++ [w[m]] ++ w.drop k).Perm (w[m] :: w) := by
        rw [List.append_assoc]
        refine List.perm_append_comm.trans ?_
        show (w[m] :: (w.drop k ++ w.take k)).Perm (w[m] :: w)
        refine List.Perm.cons _ (List.perm_append_comm.trans ?_)
        rw [List.take_append_drop]
      have := pm.nodup_iff.mp z'
      exact (List.nodup_cons.mp this).1 (List.getElem_mem hmw)
    refine ⟨_, rfl, few (by omega), a, ns, 5, rfl, hS1, hl, few (by omega), _, rfl, by omega, ?_⟩
    rw [e1, hm]
    refine ⟨_, _, w[m], rfl, rfl, few (by omega), ?_, S (w.take k), rfl, S [w[m]], rfl, few (by omega), _, rfl, few (by omega), ?_⟩
    · rw [S_list]
      exact atI_nat (List.getElem?_eq_getElem hmw)
    · rw [e2]
      have hz := hlen w[m]
      have hsz := S_len (w.take k ++ [w[m]] ++ w.drop k)
      have hsz2 := S_len (w.take k ++ [w[m]])
      rw [List.length_append, List.length_singleton] at hsz2
      refine ⟨_, rfl, ?_, ?_⟩
      · rw [S_app]; exact few (by omega)
      · rw [S_app, S_app]
        refine ⟨few (by omega), ?_, ?_⟩
        · rw [S_app, S_len]; exact few (by rw [List.length_append]; simp only [List.length_append, List.length_cons, List.length_nil] at *; have : cT.length = 4 := rfl; omega)
        · rw [one_txt]
          refine ⟨.one _, false, true, false, rfl, hok, .inr (.inl ⟨_, hsy, hnap, rfl, rfl, rfl⟩), fun p' H5 s5 hp' => ⟨few (by decide), fun p2 hp2 => ⟨_, dn ((Same.upd_new hp2 _) _ _ hp'), _, dn upd_same, by simp [PyData.depth, PyData.depthAll], ?_⟩⟩⟩
          rw [show PyData.eqv (.tuple [.bool false, .bool true, .bool false, .bool true]) (.tuple [.bool false, .bool true, .bool false, .bool true]) = true by decide +kernel]
          exact q _
  rintro σ H2 ⟨rfl, rfl⟩
  refine cut1 (fun σ H' => H' = H2 ∧ σ = [some (.ref a), some (.str (S w)), some (.int (k : Nat)), some (.int y)]) ?_ ?_
  rotate_left
  · intro N hN
    walk_at "rd"
    rw [st, s41, s45]
    refine ite2 (fun _ => ⟨few (by omega), ite2 (fun c => ?_) fun _ => hN _ _ ⟨rfl, rfl⟩⟩) fun _ => hN _ _ ⟨rfl, rfl⟩
    have hok : (Src.one (w.take k ++ [45] ++ w.drop k)).ok := good_of (fun c hc => by
      rcases hmem _ c hc with e | e
      · rw [e]; decide
      · exact lf_ws (hlf' c e)) (by rw [hlen]; omega) (by rw [hlen]; omega)
    have hbad : Bad (Src.one (w.take k ++ [45] ++ w.drop k)) := by
      show (w.take k ++ [45] ++ w.drop k).all Rd.isLF = false
      rw [List.all_append, List.all_append]
      simp [Rd.isLF, Rd.isSmall, Rd.isBig, Rd.isFig]
    refine ⟨_, rfl, few (by omega), ?_⟩
    rw [e1]
    refine ⟨_, rfl, few (by omega), _, rfl, few (by omega), ?_⟩
    rw [e2]
    have hz := hlen 45
    have hsz := S_len (w.take k ++ [45] ++ w.drop k)
    have hsz2 := S_len (w.take k ++ [45])
    rw [List.length_append, List.length_singleton] at hsz2
    refine ⟨_, rfl, ?_, ?_⟩
    · rw [S_app]; exact few (by omega)
    · rw [S_app, S_app]
      refine ⟨few (by omega), ?_, ?_⟩
      · rw [S_app, S_len]; exact few (by rw [List.length_append]; simp only [List.length_append, List.length_cons, List.length_nil] at *; have : cT.length = 4 := rfl; omega)
      · rw [one_txt]
        refine ⟨.one _, true, false, false, rfl, hok, .inl ⟨hbad, rfl, rfl, rfl⟩, fun p' H5 s5 hp' => ⟨few (by decide), fun p2 hp2 => ⟨_, dn ((Same.upd_new hp2 _) _ _ hp'), _, dn upd_same, by simp [PyData.depth, PyData.depthAll], ?_⟩⟩⟩
        rw [show PyData.eqv (.tuple [.bool true, .bool false, .bool false, .bool true]) (.tuple [.bool true, .bool false, .bool false, .bool true]) = true by decide +kernel]
        exact q _
  rintro σ H3 ⟨rfl, rfl⟩
  walk_at "rd"
  rw [st, s41]
  refine ⟨few (by omega), ?_, few (by decide), fun p hp => ?_⟩
  · rw [S_app, S_len]; exact few (by simp only [List.length_append, List.length_cons, List.length_nil] at *; have : cT.length = 4 := rfl; omega)
  · rw [one_txt]
    exact ⟨.text w, _, rfl, good_of (fun c hc => lf_ws (hlf' c hc)) w1 w2, ⟨rfl, hlf⟩, hnd, trivial, ⟨p, rfl, by rw [s_text]; exact upd_same⟩, fun H5 _ => q H5⟩
end KW
set_option maxHeartbeats 8000000
namespace KW
open PySem L2

variable {g : Gx}
variable {C : Addr}
local macro_rules | `(tactic| walk_at "gn") => `(tactic| simp only [gName, List.set_cons_zero, List.set_cons_succ])

local macro_rules | `(tactic| walk_at "rd") => `(tactic| simp (config := { failIfUnchanged := false, maxSteps := 10000000 }) only [L2.start, cxOf_K, nox_K, List.map_cons, List.map_nil, List.length_cons, List.length_nil, List.cons_append, List.nil_append, List.replicate_succ, List.replicate_zero, Nat.zero_add, Nat.reduceAdd, Nat.reduceSub, Nat.sub_self, tSeq, tIfS, tTest, tOp, tC, tVar, rI0, rI, rU, tUn, tRet, tRetN, tDrop, tNext, tBreak, tCont, tAsg, gName, gNil, gCons, tCons, tNil, tCB, tCall, tTry, tTryAs, tRaise, sFld, tFld, tMake, tMeth, Ends.gone, caught_K, tB, tAnd, tOr, tNot, tAndV, tOrV, tNotV, tIf, tChain, tNoPart, tPart, tSl, tNever, tAug, rIxL, rIxT, rSlL, tLst, tTup, gTup, tRev, tLZ, tConT, tDict0, rBits, rFind, rIn, tBM, tBM0, rAppend, rReverse, rEq, rNe, scal_ii, scal_ss, rCat, rSetL, gSub, ipI, capSt, List.getD_cons_zero, List.getD_cons_succ, decide_true, not_true_eq_false, not_false_eq_true,
  exists_eq_left', exists_eq_left, exists_eq', exists_eq, exists_and_left, and_assoc, Option.some.injEq, V.int.injEq, V.bl.injEq, V.ref.injEq, V.str.injEq, List.getElem?_cons_zero, List.getElem?_cons_succ, List.set_cons_zero, List.set_cons_succ, List.cons.injEq, and_true, true_and, List.append_nil, decide_eq_true_eq, Bool.not_eq_true', decide_eq_false_iff_not, Bool.not_not, Bool.not_true, Bool.not_false, Bool.true_eq_false, Bool.false_eq_true, if_true, if_false, ite_true, ite_false])

structure Top (K : PySem.W.Frag) (mg : Str → Option Value) (C_CountError : Addr) (C_NoNote : Addr) (C_Crowded : Addr) (C_Twice : Addr) (C_NoRange : Addr) (C_NoteReader : Addr) : Prop where
  f_is_figure : ∀ P w base, (Gx.mk P w K mg base).Raw "is_figure" "is_figure" s_is_figure ["sign"]
  f_is_small_letter : ∀ P w base, (Gx.mk P w K mg base).Raw "is_small_letter" "is_small_letter" s_is_small_letter ["sign"]
  f_is_letter_or_figure : ∀ P w base, (Gx.mk P w K mg base).Raw "is_letter_or_figure" "is_letter_or_figure" s_is_letter_or_figure ["sign"]
  f_is_word_sign : ∀ P w base, (Gx.mk P w K mg base).Raw "is_word_sign" "is_word_sign" s_is_word_sign ["sign"]
  f_is_label : ∀ P w base, (Gx.mk P w K mg base).Raw "is_label" "is_label" s_is_label ["text"]
  f_NoteReader___init__ : ∀ P w base, (Gx.mk P w K mg base).RawI "NoteReader" C_NoteReader "NoteReader.__init__" s_NoteReader___init__ ["self", "text"]
  f_NoteReader_sign_here : ∀ P w base, (Gx.mk P w K mg base).RawM C_NoteReader "sign_here" "NoteReader.sign_here" s_NoteReader_sign_here ["self"]
  f_NoteReader_takes : ∀ P w base, (Gx.mk P w K mg base).RawM C_NoteReader "takes" "NoteReader.takes" s_NoteReader_takes ["self", "sign"]
  f_NoteReader_word_signs : ∀ P w base, (Gx.mk P w K mg base).RawM C_NoteReader "word_signs" "NoteReader.word_signs" s_NoteReader_word_signs ["self"]
  f_NoteReader_at_end : ∀ P w base, (Gx.mk P w K mg base).RawM C_NoteReader "at_end" "NoteReader.at_end" s_NoteReader_at_end ["self"]
  f_law_cell_at : ∀ P w base, (Gx.mk P w K mg base).Raw "_law_cell_at" "_law_cell_at" s_law_cell_at ["_law_script", "_law_k"]
  f_NoteReader_labelled_note : ∀ P w base, (Gx.mk P w K mg base).RawM C_NoteReader "labelled_note" "NoteReader.labelled_note" s_NoteReader_labelled_note ["self"]
  f_NoteReader_bracketed_notes : ∀ P w base, (Gx.mk P w K mg base).RawM C_NoteReader "bracketed_notes" "NoteReader.bracketed_notes" s_NoteReader_bracketed_notes ["self"]
  f_refuse_crowded : ∀ P w base, (Gx.mk P w K mg base).Raw "refuse_crowded" "refuse_crowded" s_refuse_crowded ["text"]
  f_read_note : ∀ P w base, (Gx.mk P w K mg base).Raw "read_note" "read_note" s_read_note ["text"]
  f_is_number_word : ∀ P w base, (Gx.mk P w K mg base).Raw "is_number_word" "is_number_word" s_is_number_word ["word"]
  f_lone_word : ∀ P w base, (Gx.mk P w K mg base).Raw "lone_word" "lone_word" s_lone_word ["note"]
  f_refuse_other_length : ∀ P w base, (Gx.mk P w K mg base).Raw "refuse_other_length" "refuse_other_length" s_refuse_other_length ["notes", "least", "most"]
  f_number_drafted : ∀ P w base, (Gx.mk P w K mg base).Raw "number_drafted" "number_drafted" s_number_drafted ["note"]
  f_whole_drafted : ∀ P w base, (Gx.mk P w K mg base).Raw "whole_drafted" "whole_drafted" s_whole_drafted ["notes"]
  f_text_drafted : ∀ P w base, (Gx.mk P w K mg base).Raw "text_drafted" "text_drafted" s_text_drafted ["notes"]
  f_shape_drafted : ∀ P w base, (Gx.mk P w K mg base).Raw "shape_drafted" "shape_drafted" s_shape_drafted ["note"]
  f_read_draft : ∀ P w base, (Gx.mk P w K mg base).Raw "read_draft" "read_draft" s_read_draft ["text"]
  f_parts_of : ∀ P w base, (Gx.mk P w K mg base).Raw "parts_of" "parts_of" s_parts_of ["shape"]
  f_shapes_within : ∀ P w base, (Gx.mk P w K mg base).Raw "shapes_within" "shapes_within" s_shapes_within ["shape"]
  f_refuse_no_range : ∀ P w base, (Gx.mk P w K mg base).Raw "refuse_no_range" "refuse_no_range" s_refuse_no_range ["draft"]
  f_refuse_twice : ∀ P w base, (Gx.mk P w K mg base).Raw "refuse_twice" "refuse_twice" s_refuse_twice ["draft"]
  f_read_shape : ∀ P w base, (Gx.mk P w K mg base).Raw "read_shape" "read_shape" s_read_shape ["text"]
  f_shown_within : ∀ P w base, (Gx.mk P w K mg base).Raw "shown_within" "shown_within" s_shown_within ["shape"]
  f_show_shape : ∀ P w base, (Gx.mk P w K mg base).Raw "show_shape" "show_shape" s_show_shape ["shape"]
  f_law_number : ∀ P w base, (Gx.mk P w K mg base).Raw "_law_number" "_law_number" s_law_number ["_law_text"]
  f_law_signs : ∀ P w base, (Gx.mk P w K mg base).Raw "_law_signs" "_law_signs" s_law_signs ["_law_cell", "_law_size"]
  f_law_two : ∀ P w base, (Gx.mk P w K mg base).Raw "_law_two" "_law_two" s_law_two ["_law_script"]
  f_law_spoiled : ∀ P w base, (Gx.mk P w K mg base).Raw "_law_spoiled" "_law_spoiled" s_law_spoiled ["_law_text", "_law_cell"]
  f_law_error : ∀ P w base, (Gx.mk P w K mg base).Raw "_law_error" "_law_error" s_law_error ["_law_text"]
  f_law_taken : ∀ P w base, (Gx.mk P w K mg base).Raw "_law_taken" "_law_taken" s_law_taken ["_law_text", "_law_shape"]
  f_law_of_numbers : ∀ P w base, (Gx.mk P w K mg base).Raw "_law_of_numbers" "_law_of_numbers" s_law_of_numbers ["_law_script"]
  cl_NoteReader : Cls K C_NoteReader
  n_NoteReader_text : NoAttr K C_NoteReader "text"
  n_NoteReader_place : NoAttr K C_NoteReader "place"
  c_LONGEST_LABEL : ∀ P w base, (Gx.mk P w K mg base).Con "LONGEST_LABEL" (.int 8)
  c_LONGEST_WORD : ∀ P w base, (Gx.mk P w K mg base).Con "LONGEST_WORD" (.int 62)
  c_MOST_BRACKETS : ∀ P w base, (Gx.mk P w K mg base).Con "MOST_BRACKETS" (.int 6)
  c_MOST_FIGURES : ∀ P w base, (Gx.mk P w K mg base).Con "MOST_FIGURES" (.int 60)
  c_MOST_SIGNS : ∀ P w base, (Gx.mk P w K mg base).Con "MOST_SIGNS" (.int 2000)
  c_OF_ONE_PART : ∀ P w base, (Gx.mk P w K mg base).ConT "OF_ONE_PART" ([.str "many", .str "rising", .str "unlike"])
  b_ValueError : mg "ValueError" = none
  b_all : mg "all" = none
  b_bool : mg "bool" = none
  b_int : mg "int" = none
  b_isinstance : mg "isinstance" = none
  b_len : mg "len" = none
  b_list : mg "list" = none
  b_range : mg "range" = none
  b_set : mg "set" = none
  b_str : mg "str" = none
  b_tuple : mg "tuple" = none
  x_CountError : mg "CountError" = some (.ref C_CountError)
  x_NoNote : mg "NoNote" = some (.ref C_NoNote)
  x_Crowded : mg "Crowded" = some (.ref C_Crowded)
  x_Twice : mg "Twice" = some (.ref C_Twice)
  x_NoRange : mg "NoRange" = some (.ref C_NoRange)
  r_Crowded : PySem.W.excIn K C_Crowded veLine "ValueError.__new__" = true
  r_NoNote : PySem.W.excIn K C_NoNote veLine "ValueError.__new__" = true
  r_NoRange : PySem.W.excIn K C_NoRange veLine "ValueError.__new__" = true
  r_Twice : PySem.W.excIn K C_Twice veLine "ValueError.__new__" = true
  t_NoNote : ExcT K C_NoNote
  t_NoRange : ExcT K C_NoRange
  t_Twice : ExcT K C_Twice
  i_NoNote_NoNote : PySem.W.kitOne K (.ref C_NoNote) (.ref C_NoNote) = some true
  i_NoNote_NoRange : PySem.W.kitOne K (.ref C_NoNote) (.ref C_NoRange) = some false
  i_NoNote_Twice : PySem.W.kitOne K (.ref C_NoNote) (.ref C_Twice) = some false
  i_NoNote_ValueError : PySem.W.kitOne K (.ref C_NoNote) (.type "ValueError") = some true
  i_NoRange_NoNote : PySem.W.kitOne K (.ref C_NoRange) (.ref C_NoNote) = some false
  i_NoRange_NoRange : PySem.W.kitOne K (.ref C_NoRange) (.ref C_NoRange) = some true
  i_NoRange_Twice : PySem.W.kitOne K (.ref C_NoRange) (.ref C_Twice) = some false
  i_NoRange_ValueError : PySem.W.kitOne K (.ref C_NoRange) (.type "ValueError") = some true
  i_Twice_NoNote : PySem.W.kitOne K (.ref C_Twice) (.ref C_NoNote) = some false
  i_Twice_NoRange : PySem.W.kitOne K (.ref C_Twice) (.ref C_NoRange) = some false
  i_Twice_Twice : PySem.W.kitOne K (.ref C_Twice) (.ref C_Twice) = some true
  i_Twice_ValueError : PySem.W.kitOne K (.ref C_Twice) (.type "ValueError") = some true
  m_NoNote_CountError : PySem.W.exmOne K (.ref C_NoNote) (.ref C_CountError) = some true
  m_Twice_CountError : PySem.W.exmOne K (.ref C_Twice) (.ref C_CountError) = some true
  m_NoRange_CountError : PySem.W.exmOne K (.ref C_NoRange) (.ref C_CountError) = some true
theorem law_body {K : PySem.W.Frag} {mg : Str → Option Value} {C_CountError : Addr} {C_NoNote : Addr} {C_Crowded : Addr} {C_Twice : Addr} {C_NoRange : Addr} {C_NoteReader : Addr} (t : Top K mg C_CountError C_NoNote C_Crowded C_Twice C_NoRange C_NoteReader) (P : Program) (w : World) (base : Heap) :
    Body (Gx.mk P w K mg base) 23 ["_law_script", "_law_signs_here", "_law_at", "_law_way"] "law" s_law (spTrue K) := by
  have T_ : Rd.Txt (Gx.mk P w K mg base) C_NoteReader := ⟨t.cl_NoteReader, t.n_NoteReader_text, t.n_NoteReader_place⟩
  have G_is_figure := Rd.ok_fig (g := Gx.mk P w K mg base) (t.f_is_figure P w base)
  have G_is_small_letter := Rd.ok_small (g := Gx.mk P w K mg base) (t.f_is_small_letter P w base)
  have G_is_letter_or_figure := Rd.ok_lf (t.f_is_letter_or_figure P w base) G_is_small_letter G_is_figure
  have G_is_word_sign := Rd.ok_ws (t.f_is_word_sign P w base) G_is_letter_or_figure
  have G_is_label := Rd.ok_label (t.f_is_label P w base) G_is_small_letter (t.c_LONGEST_LABEL P w base) t.b_len t.b_all
  have G_NoteReader___init__ := Rd.ok_init T_ (t.f_NoteReader___init__ P w base)
  have G_NoteReader_sign_here := Rd.ok_here T_ (t.f_NoteReader_sign_here P w base)
  have G_NoteReader_takes := Rd.ok_takes T_ (t.f_NoteReader_takes P w base) G_NoteReader_sign_here
  have G_NoteReader_word_signs := Rd.ok_word T_ (t.f_NoteReader_word_signs P w base) G_NoteReader_sign_here G_is_word_sign
  have G_NoteReader_at_end := Rd.ok_end T_ (t.f_NoteReader_at_end P w base) t.b_len
  have G_law_cell_at := ok_law_cell_at (g := Gx.mk P w K mg base) (C_CountError := C_CountError) (C_NoNote := C_NoNote) (C_Crowded := C_Crowded) (C_Twice := C_Twice) (C_NoRange := C_NoRange) (C_NoteReader := C_NoteReader) (t.f_law_cell_at P w base) t.b_len
  have G_NoteReader_bracketed_notes_0 := ok_NoteReader_bracketed_notes (g := Gx.mk P w K mg base) (m := 0) (k := 4) (C_CountError := C_CountError) (C_NoNote := C_NoNote) (C_Crowded := C_Crowded) (C_Twice := C_Twice) (C_NoRange := C_NoRange) (C_NoteReader := C_NoteReader) (t.f_NoteReader_bracketed_notes P w base) (G_NoteReader_takes.mono (by decide)) ((t.f_NoteReader_labelled_note P w base).noneX (fun _ _ _ _ h => Rd.no_ln h)) t.b_tuple t.cl_NoteReader t.n_NoteReader_text t.n_NoteReader_place t.x_NoNote t.r_NoNote
  have G_NoteReader_labelled_note_1 := ok_NoteReader_labelled_note (g := Gx.mk P w K mg base) (m := 0) (k := 5) (C_CountError := C_CountError) (C_NoNote := C_NoNote) (C_Crowded := C_Crowded) (C_Twice := C_Twice) (C_NoRange := C_NoRange) (C_NoteReader := C_NoteReader) (t.f_NoteReader_labelled_note P w base) (G_is_label.mono (by decide)) (G_NoteReader_takes.mono (by decide)) (G_NoteReader_word_signs.mono (by decide)) (G_NoteReader_bracketed_notes_0.mono (by decide)) t.b_len (t.c_LONGEST_WORD P w base) t.cl_NoteReader t.n_NoteReader_text t.n_NoteReader_place t.x_NoNote t.r_NoNote
  have G_NoteReader_bracketed_notes_1 := ok_NoteReader_bracketed_notes (g := Gx.mk P w K mg base) (m := 1) (k := 6) (C_CountError := C_CountError) (C_NoNote := C_NoNote) (C_Crowded := C_Crowded) (C_Twice := C_Twice) (C_NoRange := C_NoRange) (C_NoteReader := C_NoteReader) (t.f_NoteReader_bracketed_notes P w base) (G_NoteReader_takes.mono (by decide)) (G_NoteReader_labelled_note_1.mono (by decide)) t.b_tuple t.cl_NoteReader t.n_NoteReader_text t.n_NoteReader_place t.x_NoNote t.r_NoNote
  have G_NoteReader_labelled_note_2 := ok_NoteReader_labelled_note (g := Gx.mk P w K mg base) (m := 1) (k := 7) (C_CountError := C_CountError) (C_NoNote := C_NoNote) (C_Crowded := C_Crowded) (C_Twice := C_Twice) (C_NoRange := C_NoRange) (C_NoteReader := C_NoteReader) (t.f_NoteReader_labelled_note P w base) (G_is_label.mono (by decide)) (G_NoteReader_takes.mono (by decide)) (G_NoteReader_word_signs.mono (by decide)) (G_NoteReader_bracketed_notes_1.mono (by decide)) t.b_len (t.c_LONGEST_WORD P w base) t.cl_NoteReader t.n_NoteReader_text t.n_NoteReader_place t.x_NoNote t.r_NoNote
  have G_NoteReader_bracketed_notes_2 := ok_NoteReader_bracketed_notes (g := Gx.mk P w K mg base) (m := 2) (k := 8) (C_CountError := C_CountError) (C_NoNote := C_NoNote) (C_Crowded := C_Crowded) (C_Twice := C_Twice) (C_NoRange := C_NoRange) (C_NoteReader := C_NoteReader) (t.f_NoteReader_bracketed_notes P w base) (G_NoteReader_takes.mono (by decide)) (G_NoteReader_labelled_note_2.mono (by decide)) t.b_tuple t.cl_NoteReader t.n_NoteReader_text t.n_NoteReader_place t.x_NoNote t.r_NoNote
  have G_NoteReader_labelled_note_3 := ok_NoteReader_labelled_note (g := Gx.mk P w K mg base) (m := 2) (k := 9) (C_CountError := C_CountError) (C_NoNote := C_NoNote) (C_Crowded := C_Crowded) (C_Twice := C_Twice) (C_NoRange := C_NoRange) (C_NoteReader := C_NoteReader) (t.f_NoteReader_labelled_note P w base) (G_is_label.mono (by decide)) (G_NoteReader_takes.mono (by decide)) (G_NoteReader_word_signs.mono (by decide)) (G_NoteReader_bracketed_notes_2.mono (by decide)) t.b_len (t.c_LONGEST_WORD P w base) t.cl_NoteReader t.n_NoteReader_text t.n_NoteReader_place t.x_NoNote t.r_NoNote
  have G_NoteReader_bracketed_notes_3 := ok_NoteReader_bracketed_notes (g := Gx.mk P w K mg base) (m := 3) (k := 10) (C_CountError := C_CountError) (C_NoNote := C_NoNote) (C_Crowded := C_Crowded) (C_Twice := C_Twice) (C_NoRange := C_NoRange) (C_NoteReader := C_NoteReader) (t.f_NoteReader_bracketed_notes P w base) (G_NoteReader_takes.mono (by decide)) (G_NoteReader_labelled_note_3.mono (by decide)) t.b_tuple t.cl_NoteReader t.n_NoteReader_text t.n_NoteReader_place t.x_NoNote t.r_NoNote
  have G_NoteReader_labelled_note_4 := ok_NoteReader_labelled_note (g := Gx.mk P w K mg base) (m := 3) (k := 11) (C_CountError := C_CountError) (C_NoNote := C_NoNote) (C_Crowded := C_Crowded) (C_Twice := C_Twice) (C_NoRange := C_NoRange) (C_NoteReader := C_NoteReader) (t.f_NoteReader_labelled_note P w base) (G_is_label.mono (by decide)) (G_NoteReader_takes.mono (by decide)) (G_NoteReader_word_signs.mono (by decide)) (G_NoteReader_bracketed_notes_3.mono (by decide)) t.b_len (t.c_LONGEST_WORD P w base) t.cl_NoteReader t.n_NoteReader_text t.n_NoteReader_place t.x_NoNote t.r_NoNote
  have G_NoteReader_bracketed_notes_4 := ok_NoteReader_bracketed_notes (g := Gx.mk P w K mg base) (m := 4) (k := 12) (C_CountError := C_CountError) (C_NoNote := C_NoNote) (C_Crowded := C_Crowded) (C_Twice := C_Twice) (C_NoRange := C_NoRange) (C_NoteReader := C_NoteReader) (t.f_NoteReader_bracketed_notes P w base) (G_NoteReader_takes.mono (by decide)) (G_NoteReader_labelled_note_4.mono (by decide)) t.b_tuple t.cl_NoteReader t.n_NoteReader_text t.n_NoteReader_place t.x_NoNote t.r_NoNote
  have G_NoteReader_labelled_note_5 := ok_NoteReader_labelled_note (g := Gx.mk P w K mg base) (m := 4) (k := 13) (C_CountError := C_CountError) (C_NoNote := C_NoNote) (C_Crowded := C_Crowded) (C_Twice := C_Twice) (C_NoRange := C_NoRange) (C_NoteReader := C_NoteReader) (t.f_NoteReader_labelled_note P w base) (G_is_label.mono (by decide)) (G_NoteReader_takes.mono (by decide)) (G_NoteReader_word_signs.mono (by decide)) (G_NoteReader_bracketed_notes_4.mono (by decide)) t.b_len (t.c_LONGEST_WORD P w base) t.cl_NoteReader t.n_NoteReader_text t.n_NoteReader_place t.x_NoNote t.r_NoNote
  have G_NoteReader_bracketed_notes_5 := ok_NoteReader_bracketed_notes (g := Gx.mk P w K mg base) (m := 5) (k := 14) (C_CountError := C_CountError) (C_NoNote := C_NoNote) (C_Crowded := C_Crowded) (C_Twice := C_Twice) (C_NoRange := C_NoRange) (C_NoteReader := C_NoteReader) (t.f_NoteReader_bracketed_notes P w base) (G_NoteReader_takes.mono (by decide)) (G_NoteReader_labelled_note_5.mono (by decide)) t.b_tuple t.cl_NoteReader t.n_NoteReader_text t.n_NoteReader_place t.x_NoNote t.r_NoNote
  have G_NoteReader_labelled_note_6 := ok_NoteReader_labelled_note (g := Gx.mk P w K mg base) (m := 5) (k := 15) (C_CountError := C_CountError) (C_NoNote := C_NoNote) (C_Crowded := C_Crowded) (C_Twice := C_Twice) (C_NoRange := C_NoRange) (C_NoteReader := C_NoteReader) (t.f_NoteReader_labelled_note P w base) (G_is_label.mono (by decide)) (G_NoteReader_takes.mono (by decide)) (G_NoteReader_word_signs.mono (by decide)) (G_NoteReader_bracketed_notes_5.mono (by decide)) t.b_len (t.c_LONGEST_WORD P w base) t.cl_NoteReader t.n_NoteReader_text t.n_NoteReader_place t.x_NoNote t.r_NoNote
  have G_NoteReader_bracketed_notes_6 := ok_NoteReader_bracketed_notes (g := Gx.mk P w K mg base) (m := 6) (k := 16) (C_CountError := C_CountError) (C_NoNote := C_NoNote) (C_Crowded := C_Crowded) (C_Twice := C_Twice) (C_NoRange := C_NoRange) (C_NoteReader := C_NoteReader) (t.f_NoteReader_bracketed_notes P w base) (G_NoteReader_takes.mono (by decide)) (G_NoteReader_labelled_note_6.mono (by decide)) t.b_tuple t.cl_NoteReader t.n_NoteReader_text t.n_NoteReader_place t.x_NoNote t.r_NoNote
  have G_NoteReader_labelled_note := ok_NoteReader_labelled_note (g := Gx.mk P w K mg base) (m := 6) (k := 17) (C_CountError := C_CountError) (C_NoNote := C_NoNote) (C_Crowded := C_Crowded) (C_Twice := C_Twice) (C_NoRange := C_NoRange) (C_NoteReader := C_NoteReader) (t.f_NoteReader_labelled_note P w base) (G_is_label.mono (by decide)) (G_NoteReader_takes.mono (by decide)) (G_NoteReader_word_signs.mono (by decide)) (G_NoteReader_bracketed_notes_6.mono (by decide)) t.b_len (t.c_LONGEST_WORD P w base) t.cl_NoteReader t.n_NoteReader_text t.n_NoteReader_place t.x_NoNote t.r_NoNote
  have G_refuse_crowded := ok_refuse_crowded (g := Gx.mk P w K mg base) (C_CountError := C_CountError) (C_NoNote := C_NoNote) (C_Crowded := C_Crowded) (C_Twice := C_Twice) (C_NoRange := C_NoRange) (C_NoteReader := C_NoteReader) (t.f_refuse_crowded P w base) t.b_len (t.c_MOST_BRACKETS P w base) (t.c_MOST_SIGNS P w base) t.x_Crowded t.r_Crowded
  have G_read_note := ok_read_note (g := Gx.mk P w K mg base) (k := 18) (C_CountError := C_CountError) (C_NoNote := C_NoNote) (C_Crowded := C_Crowded) (C_Twice := C_Twice) (C_NoRange := C_NoRange) (C_NoteReader := C_NoteReader) (t.f_read_note P w base) (G_refuse_crowded.mono (by decide)) G_NoteReader___init__ (by decide) (G_NoteReader_labelled_note.mono (by decide)) (G_NoteReader_at_end.mono (by decide)) t.b_isinstance t.b_str t.cl_NoteReader t.n_NoteReader_text t.n_NoteReader_place t.x_NoNote t.r_NoNote
  have G_is_number_word := ok_is_number_word (g := Gx.mk P w K mg base) (k := 1) (C_CountError := C_CountError) (C_NoNote := C_NoNote) (C_Crowded := C_Crowded) (C_Twice := C_Twice) (C_NoRange := C_NoRange) (C_NoteReader := C_NoteReader) (t.f_is_number_word P w base) (G_is_figure.mono (by decide)) t.b_all t.b_len (t.c_MOST_FIGURES P w base)
  have G_lone_word := ok_lone_word (g := Gx.mk P w K mg base) (C_CountError := C_CountError) (C_NoNote := C_NoNote) (C_Crowded := C_Crowded) (C_Twice := C_Twice) (C_NoRange := C_NoRange) (C_NoteReader := C_NoteReader) (t.f_lone_word P w base) 
  have G_refuse_other_length := ok_refuse_other_length (g := Gx.mk P w K mg base) (C_CountError := C_CountError) (C_NoNote := C_NoNote) (C_Crowded := C_Crowded) (C_Twice := C_Twice) (C_NoRange := C_NoRange) (C_NoteReader := C_NoteReader) (t.f_refuse_other_length P w base) t.b_len
  have G_number_drafted := ok_number_drafted (g := Gx.mk P w K mg base) (k := 2) (C_CountError := C_CountError) (C_NoNote := C_NoNote) (C_Crowded := C_Crowded) (C_Twice := C_Twice) (C_NoRange := C_NoRange) (C_NoteReader := C_NoteReader) (t.f_number_drafted P w base) (G_is_number_word.mono (by decide)) (G_lone_word.mono (by decide)) t.b_int t.x_NoNote t.r_NoNote
  have G_whole_drafted := ok_whole_drafted (g := Gx.mk P w K mg base) (k := 3) (C_CountError := C_CountError) (C_NoNote := C_NoNote) (C_Crowded := C_Crowded) (C_Twice := C_Twice) (C_NoRange := C_NoRange) (C_NoteReader := C_NoteReader) (t.f_whole_drafted P w base) (G_number_drafted.mono (by decide)) (G_refuse_other_length.mono (by decide))
  have G_text_drafted := ok_text_drafted (g := Gx.mk P w K mg base) (k := 2) (C_CountError := C_CountError) (C_NoNote := C_NoNote) (C_Crowded := C_Crowded) (C_Twice := C_Twice) (C_NoRange := C_NoRange) (C_NoteReader := C_NoteReader) (t.f_text_drafted P w base) (G_is_letter_or_figure.mono (by decide)) (G_lone_word.mono (by decide)) (G_refuse_other_length.mono (by decide)) t.b_all t.x_NoNote t.r_NoNote
  have G_shape_drafted := ok_shape_drafted (g := Gx.mk P w K mg base) (k := 4) (C_CountError := C_CountError) (C_NoNote := C_NoNote) (C_Crowded := C_Crowded) (C_Twice := C_Twice) (C_NoRange := C_NoRange) (C_NoteReader := C_NoteReader) (t.f_shape_drafted P w base) (G_whole_drafted.mono (by decide)) (G_text_drafted.mono (by decide))
  have G_read_draft := ok_read_draft (g := Gx.mk P w K mg base) (k := 19) (C_CountError := C_CountError) (C_NoNote := C_NoNote) (C_Crowded := C_Crowded) (C_Twice := C_Twice) (C_NoRange := C_NoRange) (C_NoteReader := C_NoteReader) (t.f_read_draft P w base) (G_read_note.mono (by decide)) (G_shape_drafted.mono (by decide))
  have G_parts_of := ok_parts_of (g := Gx.mk P w K mg base) (C_CountError := C_CountError) (C_NoNote := C_NoNote) (C_Crowded := C_Crowded) (C_Twice := C_Twice) (C_NoRange := C_NoRange) (C_NoteReader := C_NoteReader) (t.f_parts_of P w base) (t.c_OF_ONE_PART P w base)
  have G_shapes_within := ok_shapes_within (g := Gx.mk P w K mg base) (m := 0) (k := 1) (C_CountError := C_CountError) (C_NoNote := C_NoNote) (C_Crowded := C_Crowded) (C_Twice := C_Twice) (C_NoRange := C_NoRange) (C_NoteReader := C_NoteReader) (t.f_shapes_within P w base) (G_parts_of.mono (by decide)) ((t.f_shapes_within P w base).none (fun _ _ _ _ h => no_sw h))
  have G_refuse_no_range := ok_refuse_no_range (g := Gx.mk P w K mg base) (k := 2) (C_CountError := C_CountError) (C_NoNote := C_NoNote) (C_Crowded := C_Crowded) (C_Twice := C_Twice) (C_NoRange := C_NoRange) (C_NoteReader := C_NoteReader) (t.f_refuse_no_range P w base) (G_shapes_within.mono (by decide)) t.x_NoRange t.r_NoRange
  have G_refuse_twice := ok_refuse_twice (g := Gx.mk P w K mg base) (k := 2) (C_CountError := C_CountError) (C_NoNote := C_NoNote) (C_Crowded := C_Crowded) (C_Twice := C_Twice) (C_NoRange := C_NoRange) (C_NoteReader := C_NoteReader) (t.f_refuse_twice P w base) (G_shapes_within.mono (by decide)) t.b_len t.b_set t.x_Twice t.r_Twice
  have G_read_shape := ok_read_shape (g := Gx.mk P w K mg base) (k := 20) (C_CountError := C_CountError) (C_NoNote := C_NoNote) (C_Crowded := C_Crowded) (C_Twice := C_Twice) (C_NoRange := C_NoRange) (C_NoteReader := C_NoteReader) (t.f_read_shape P w base) (G_read_draft.mono (by decide)) (G_refuse_twice.mono (by decide)) (G_refuse_no_range.mono (by decide))
  have G_shown_within := ok_shown_within (g := Gx.mk P w K mg base) (C_CountError := C_CountError) (C_NoNote := C_NoNote) (C_Crowded := C_Crowded) (C_Twice := C_Twice) (C_NoRange := C_NoRange) (C_NoteReader := C_NoteReader) (t.f_shown_within P w base) t.b_str
  have G_show_shape := ok_show_shape (g := Gx.mk P w K mg base) (k := 1) (C_CountError := C_CountError) (C_NoNote := C_NoNote) (C_Crowded := C_Crowded) (C_Twice := C_Twice) (C_NoRange := C_NoRange) (C_NoteReader := C_NoteReader) (t.f_show_shape P w base) (G_shown_within.mono (by decide))
  have G_law_number := ok_law_number (g := Gx.mk P w K mg base) (C_CountError := C_CountError) (C_NoNote := C_NoNote) (C_Crowded := C_Crowded) (C_Twice := C_Twice) (C_NoRange := C_NoRange) (C_NoteReader := C_NoteReader) (t.f_law_number P w base) t.b_all t.b_len
  have G_law_signs := ok_law_signs (g := Gx.mk P w K mg base) (C_CountError := C_CountError) (C_NoNote := C_NoNote) (C_Crowded := C_Crowded) (C_Twice := C_Twice) (C_NoRange := C_NoRange) (C_NoteReader := C_NoteReader) (t.f_law_signs P w base) t.b_len t.b_list t.b_range
  have G_law_two := ok_law_two (g := Gx.mk P w K mg base) (k := 1) (C_CountError := C_CountError) (C_NoNote := C_NoNote) (C_Crowded := C_Crowded) (C_Twice := C_Twice) (C_NoRange := C_NoRange) (C_NoteReader := C_NoteReader) (t.f_law_two P w base) (G_law_cell_at.mono (by decide))
  have G_law_spoiled := ok_law_spoiled (g := Gx.mk P w K mg base) (C_CountError := C_CountError) (C_NoNote := C_NoNote) (C_Crowded := C_Crowded) (C_Twice := C_Twice) (C_NoRange := C_NoRange) (C_NoteReader := C_NoteReader) (t.f_law_spoiled P w base) 
  have G_law_error := ok_law_error (g := Gx.mk P w K mg base) (k := 21) (C_CountError := C_CountError) (C_NoNote := C_NoNote) (C_Crowded := C_Crowded) (C_Twice := C_Twice) (C_NoRange := C_NoRange) (C_NoteReader := C_NoteReader) (t.f_law_error P w base) (G_read_shape.mono (by decide)) t.b_ValueError t.b_isinstance t.x_CountError t.x_NoNote t.x_NoRange t.x_Twice t.t_NoNote t.t_NoRange t.t_Twice t.i_NoNote_NoNote t.i_NoNote_Twice t.i_NoNote_NoRange t.i_NoNote_ValueError t.i_Twice_NoNote t.i_Twice_Twice t.i_Twice_NoRange t.i_Twice_ValueError t.i_NoRange_NoNote t.i_NoRange_Twice t.i_NoRange_NoRange t.i_NoRange_ValueError t.m_NoNote_CountError t.m_Twice_CountError t.m_NoRange_CountError
  have G_law_taken := ok_law_taken (g := Gx.mk P w K mg base) (k := 21) (C_CountError := C_CountError) (C_NoNote := C_NoNote) (C_Crowded := C_Crowded) (C_Twice := C_Twice) (C_NoRange := C_NoRange) (C_NoteReader := C_NoteReader) (t.f_law_taken P w base) (G_read_shape.mono (by decide)) (G_show_shape.mono (by decide)) t.b_bool t.b_isinstance t.b_str t.b_tuple
  have G_law_of_numbers := ok_law_of_numbers (g := Gx.mk P w K mg base) (k := 22) (C_CountError := C_CountError) (C_NoNote := C_NoNote) (C_Crowded := C_Crowded) (C_Twice := C_Twice) (C_NoRange := C_NoRange) (C_NoteReader := C_NoteReader) (t.f_law_of_numbers P w base) (G_law_cell_at.mono (by decide)) (G_law_number.mono (by decide)) (G_law_two.mono (by decide)) (G_law_spoiled.mono (by decide)) (G_law_error.mono (by decide)) (G_law_taken.mono (by decide)) t.b_int t.b_str
  exact body_law (g := Gx.mk P w K mg base) (k := 23) (C_CountError := C_CountError) (C_NoNote := C_NoNote) (C_Crowded := C_Crowded) (C_Twice := C_Twice) (C_NoRange := C_NoRange) (C_NoteReader := C_NoteReader) (G_law_cell_at.mono (by decide)) (G_law_signs.mono (by decide)) (G_law_error.mono (by decide)) (G_law_taken.mono (by decide)) (G_law_of_numbers.mono (by decide)) t.b_len
end KW
def PySem.W.Fast.tw5017404612527039560 : Nat := 0
def PySem.W.Fast.tw10873830310418701468 : Nat := 0
def PySem.W.Fast.tw13744081340322430000 : Nat := 0
def PySem.W.Fast.tw3783813929145919429 : Nat := 0
def PySem.W.Fast.tw16509950014495296439 : Nat := 0
def PySem.W.Fast.tw16517039381555883942 : Nat := 0
def PySem.W.Fast.tw17797461730285732992 : Nat := 0
def PySem.W.Fast.tw1824317249146887806 : Nat := 0
def PySem.W.Fast.tw10790189962369981233 : Nat := 0
def PySem.W.Fast.tw6995145783765123512 : Nat := 0
def PySem.W.Fast.tw14695087772511541875 : Nat := 0
def PySem.W.Fast.tw13729693136773650841 : Nat := 0
def PySem.W.Fast.tw4045341482931606896 : Nat := 0
def PySem.W.Fast.tw5391278415769550149 : Nat := 0
def PySem.W.Fast.tw18017232718587280208 : Nat := 0
def PySem.W.Fast.tw12868803787763778597 : Nat := 0
def PySem.W.Fast.tw14715210432161139180 : Nat := 0
def PySem.W.Fast.tw16462521246623555856 : Nat := 0
def PySem.W.Fast.tw17455150491772573842 : Nat := 0
def PySem.W.Fast.tw13905787689904722119 : Nat := 0
def PySem.W.Fast.tw14672149454697082737 : Nat := 0
def PySem.W.Fast.tw4836485915083691147 : Nat := 0
def PySem.W.Fast.tw17672251241625484685 : Nat := 0
def PySem.W.Fast.tw11253531425293177233 : Nat := 0
open PySem PySem.W PyProof.Rows
set_option maxRecDepth 100000 in
set_option maxHeartbeats 0 in
theorem PySem.Challenge.cw_countgen_k03_numbers_and_signs_holds : PySem.Challenge.rw_countgen_k03_numbers_and_signs.Holds := by
  w_on; o_law; k_head; (case hw => w_witness2)
  k_fill
  refine L2.walk_gx (l := PySem.Challenge.rw_countgen_k03_numbers_and_signs) 23 "_law_script" KW.s_law ["_law_script", "_law_signs_here", "_law_at", "_law_way"] rfl rfl ⟨rfl, by decide, by decide⟩ KW.sc_law (fun w h Y => by first | exact PySem.W.kIn_of Y | exact PySem.W.km_in_of Y) ?F
  case F =>
    intro w mg h KX G
    refine' ⟨L2.lawRaw_mk KX G ?a ?l ?c ?k (fun _ _ _ _ _ _ _ _ => .of_eq rfl), fun base => KW.law_body ⟨?f_is_figure, ?f_is_small_letter, ?f_is_letter_or_figure, ?f_is_word_sign, ?f_is_label, ?f_NoteReader___init__, ?f_NoteReader_sign_here, ?f_NoteReader_takes, ?f_NoteReader_word_signs, ?f_NoteReader_at_end, ?f_law_cell_at, ?f_NoteReader_labelled_note, ?f_NoteReader_bracketed_notes, ?f_refuse_crowded, ?f_read_note, ?f_is_number_word, ?f_lone_word, ?f_refuse_other_length, ?f_number_drafted, ?f_whole_drafted, ?f_text_drafted, ?f_shape_drafted, ?f_read_draft, ?f_parts_of, ?f_shapes_within, ?f_refuse_no_range, ?f_refuse_twice, ?f_read_shape, ?f_shown_within, ?f_show_shape, ?f_law_number, ?f_law_signs, ?f_law_two, ?f_law_spoiled, ?f_law_error, ?f_law_taken, ?f_law_of_numbers, ?cl_NoteReader, ?n_NoteReader_text, ?n_NoteReader_place, ?c_LONGEST_LABEL, ?c_LONGEST_WORD, ?c_MOST_BRACKETS, ?c_MOST_FIGURES, ?c_MOST_SIGNS, ?c_OF_ONE_PART, ?b_ValueError, ?b_all, ?b_bool, ?b_int, ?b_isinstance, ?b_len, ?b_list, ?b_range, ?b_set, ?b_str, ?b_tuple, ?x_CountError, ?x_NoNote, ?x_Crowded, ?x_Twice, ?x_NoRange, ?r_Crowded, ?r_NoNote, ?r_NoRange, ?r_Twice, ?t_NoNote, ?t_NoRange, ?t_Twice, ?i_NoNote_NoNote, ?i_NoNote_NoRange, ?i_NoNote_Twice, ?i_NoNote_ValueError, ?i_NoRange_NoNote, ?i_NoRange_NoRange, ?i_NoRange_Twice, ?i_NoRange_ValueError, ?i_Twice_NoNote, ?i_Twice_NoRange, ?i_Twice_Twice, ?i_Twice_ValueError, ?m_NoNote_CountError, ?m_Twice_CountError, ?m_NoRange_CountError⟩ _ w base⟩
    (case a => k_is)
    (case l => k_is)
    (case c => k_is)
    (case k => k_is)
    case f_NoteReader___init__ =>
      refine' L2.rawI_mk KX G ["self", "text"] ?aC ?mk ?kc ?a ?i ?l ?c ?k (fun _ _ _ _ _ _ us hl => match us, hl with | [_, _], _ => rfl)
      (case aC => k_is)
      (case mk => k_is)
      (case kc => k_is)
      (case a => k_is)
      (case i => k_is)
      (case l => k_is)
      (case c => k_is)
      (case k => k_is)
    case f_is_figure =>
      refine' L2.raw_mk KX G ["sign"] ?a ?l ?c ?k (fun _ _ _ _ _ _ us hl => match us, hl with | [_], _ => rfl)
      (case a => k_is)
      (case l => k_is)
      (case c => k_is)
      (case k => k_is)
    case f_is_small_letter =>
      refine' L2.raw_mk KX G ["sign"] ?a ?l ?c ?k (fun _ _ _ _ _ _ us hl => match us, hl with | [_], _ => rfl)
      (case a => k_is)
      (case l => k_is)
      (case c => k_is)
      (case k => k_is)
    case f_is_letter_or_figure =>
      refine' L2.raw_mk KX G ["sign"] ?a ?l ?c ?k (fun _ _ _ _ _ _ us hl => match us, hl with | [_], _ => rfl)
      (case a => k_is)
      (case l => k_is)
      (case c => k_is)
      (case k => k_is)
    case f_is_word_sign =>
      refine' L2.raw_mk KX G ["sign"] ?a ?l ?c ?k (fun _ _ _ _ _ _ us hl => match us, hl with | [_], _ => rfl)
      (case a => k_is)
      (case l => k_is)
      (case c => k_is)
      (case k => k_is)
    case f_is_label =>
      refine' L2.raw_mk KX G ["text"] ?a ?l ?c ?k (fun _ _ _ _ _ _ us hl => match us, hl with | [_], _ => rfl)
      (case a => k_is)
      (case l => k_is)
      (case c => k_is)
      (case k => k_is)
    case f_NoteReader_sign_here =>
      refine' L2.rawM_mk KX G ["self"] ?a ?i ?l ?c ?k (fun _ _ _ _ _ _ us hl => match us, hl with | [_], _ => rfl)
      (case a => k_is)
      (case i => k_is)
      (case l => k_is)
      (case c => k_is)
      (case k => k_is)
    case f_NoteReader_takes =>
      refine' L2.rawM_mk KX G ["self", "sign"] ?a ?i ?l ?c ?k (fun _ _ _ _ _ _ us hl => match us, hl with | [_, _], _ => rfl)
      (case a => k_is)
      (case i => k_is)
      (case l => k_is)
      (case c => k_is)
      (case k => k_is)
    case f_NoteReader_word_signs =>
      refine' L2.rawM_mk KX G ["self"] ?a ?i ?l ?c ?k (fun _ _ _ _ _ _ us hl => match us, hl with | [_], _ => rfl)
      (case a => k_is)
      (case i => k_is)
      (case l => k_is)
      (case c => k_is)
      (case k => k_is)
    case f_NoteReader_at_end =>
      refine' L2.rawM_mk KX G ["self"] ?a ?i ?l ?c ?k (fun _ _ _ _ _ _ us hl => match us, hl with | [_], _ => rfl)
      (case a => k_is)
      (case i => k_is)
      (case l => k_is)
      (case c => k_is)
      (case k => k_is)
    case f_law_cell_at =>
      refine' L2.raw_mk KX G ["_law_script", "_law_k"] ?a ?l ?c ?k (fun _ _ _ _ _ _ us hl => match us, hl with | [_, _], _ => rfl)
      (case a => k_is)
      (case l => k_is)
      (case c => k_is)
      (case k => k_is)
    case f_NoteReader_labelled_note =>
      refine' L2.rawM_mk KX G ["self"] ?a ?i ?l ?c ?k (fun _ _ _ _ _ _ us hl => match us, hl with | [_], _ => rfl)
      (case a => k_is)
      (case i => k_is)
      (case l => k_is)
      (case c => k_is)
      (case k => k_is)
    case f_NoteReader_bracketed_notes =>
      refine' L2.rawM_mk KX G ["self"] ?a ?i ?l ?c ?k (fun _ _ _ _ _ _ us hl => match us, hl with | [_], _ => rfl)
      (case a => k_is)
      (case i => k_is)
      (case l => k_is)
      (case c => k_is)
      (case k => k_is)
    case f_refuse_crowded =>
      refine' L2.raw_mk KX G ["text"] ?a ?l ?c ?k (fun _ _ _ _ _ _ us hl => match us, hl with | [_], _ => rfl)
      (case a => k_is)
      (case l => k_is)
      (case c => k_is)
      (case k => k_is)
    case f_read_note =>
      refine' L2.raw_mk KX G ["text"] ?a ?l ?c ?k (fun _ _ _ _ _ _ us hl => match us, hl with | [_], _ => rfl)
      (case a => k_is)
      (case l => k_is)
      (case c => k_is)
      (case k => k_is)
    case f_is_number_word =>
      refine' L2.raw_mk KX G ["word"] ?a ?l ?c ?k (fun _ _ _ _ _ _ us hl => match us, hl with | [_], _ => rfl)
      (case a => k_is)
      (case l => k_is)
      (case c => k_is)
      (case k => k_is)
    case f_lone_word =>
      refine' L2.raw_mk KX G ["note"] ?a ?l ?c ?k (fun _ _ _ _ _ _ us hl => match us, hl with | [_], _ => rfl)
      (case a => k_is)
      (case l => k_is)
      (case c => k_is)
      (case k => k_is)
    case f_refuse_other_length =>
      refine' L2.raw_mk KX G ["notes", "least", "most"] ?a ?l ?c ?k (fun _ _ _ _ _ _ us hl => match us, hl with | [_, _, _], _ => rfl)
      (case a => k_is)
      (case l => k_is)
      (case c => k_is)
      (case k => k_is)
    case f_number_drafted =>
      refine' L2.raw_mk KX G ["note"] ?a ?l ?c ?k (fun _ _ _ _ _ _ us hl => match us, hl with | [_], _ => rfl)
      (case a => k_is)
      (case l => k_is)
      (case c => k_is)
      (case k => k_is)
    case f_whole_drafted =>
      refine' L2.raw_mk KX G ["notes"] ?a ?l ?c ?k (fun _ _ _ _ _ _ us hl => match us, hl with | [_], _ => rfl)
      (case a => k_is)
      (case l => k_is)
      (case c => k_is)
      (case k => k_is)
    case f_text_drafted =>
      refine' L2.raw_mk KX G ["notes"] ?a ?l ?c ?k (fun _ _ _ _ _ _ us hl => match us, hl with | [_], _ => rfl)
      (case a => k_is)
      (case l => k_is)
      (case c => k_is)
      (case k => k_is)
    case f_shape_drafted =>
      refine' L2.raw_mk KX G ["note"] ?a ?l ?c ?k (fun _ _ _ _ _ _ us hl => match us, hl with | [_], _ => rfl)
      (case a => k_is)
      (case l => k_is)
      (case c => k_is)
      (case k => k_is)
    case f_read_draft =>
      refine' L2.raw_mk KX G ["text"] ?a ?l ?c ?k (fun _ _ _ _ _ _ us hl => match us, hl with | [_], _ => rfl)
      (case a => k_is)
      (case l => k_is)
      (case c => k_is)
      (case k => k_is)
    case f_parts_of =>
      refine' L2.raw_mk KX G ["shape"] ?a ?l ?c ?k (fun _ _ _ _ _ _ us hl => match us, hl with | [_], _ => rfl)
      (case a => k_is)
      (case l => k_is)
      (case c => k_is)
      (case k => k_is)
    case f_shapes_within =>
      refine' L2.raw_mk KX G ["shape"] ?a ?l ?c ?k (fun _ _ _ _ _ _ us hl => match us, hl with | [_], _ => rfl)
      (case a => k_is)
      (case l => k_is)
      (case c => k_is)
      (case k => k_is)
    case f_refuse_no_range =>
      refine' L2.raw_mk KX G ["draft"] ?a ?l ?c ?k (fun _ _ _ _ _ _ us hl => match us, hl with | [_], _ => rfl)
      (case a => k_is)
      (case l => k_is)
      (case c => k_is)
      (case k => k_is)
    case f_refuse_twice =>
      refine' L2.raw_mk KX G ["draft"] ?a ?l ?c ?k (fun _ _ _ _ _ _ us hl => match us, hl with | [_], _ => rfl)
      (case a => k_is)
      (case l => k_is)
      (case c => k_is)
      (case k => k_is)
    case f_read_shape =>
      refine' L2.raw_mk KX G ["text"] ?a ?l ?c ?k (fun _ _ _ _ _ _ us hl => match us, hl with | [_], _ => rfl)
      (case a => k_is)
      (case l => k_is)
      (case c => k_is)
      (case k => k_is)
    case f_shown_within =>
      refine' L2.raw_mk KX G ["shape"] ?a ?l ?c ?k (fun _ _ _ _ _ _ us hl => match us, hl with | [_], _ => rfl)
      (case a => k_is)
      (case l => k_is)
      (case c => k_is)
      (case k => k_is)
    case f_show_shape =>
      refine' L2.raw_mk KX G ["shape"] ?a ?l ?c ?k (fun _ _ _ _ _ _ us hl => match us, hl with | [_], _ => rfl)
      (case a => k_is)
      (case l => k_is)
      (case c => k_is)
      (case k => k_is)
    case f_law_number =>
      refine' L2.raw_mk KX G ["_law_text"] ?a ?l ?c ?k (fun _ _ _ _ _ _ us hl => match us, hl with | [_], _ => rfl)
      (case a => k_is)
      (case l => k_is)
      (case c => k_is)
      (case k => k_is)
    case f_law_signs =>
      refine' L2.raw_mk KX G ["_law_cell", "_law_size"] ?a ?l ?c ?k (fun _ _ _ _ _ _ us hl => match us, hl with | [_, _], _ => rfl)
      (case a => k_is)
      (case l => k_is)
      (case c => k_is)
      (case k => k_is)
    case f_law_two =>
      refine' L2.raw_mk KX G ["_law_script"] ?a ?l ?c ?k (fun _ _ _ _ _ _ us hl => match us, hl with | [_], _ => rfl)
      (case a => k_is)
      (case l => k_is)
      (case c => k_is)
      (case k => k_is)
    case f_law_spoiled =>
      refine' L2.raw_mk KX G ["_law_text", "_law_cell"] ?a ?l ?c ?k (fun _ _ _ _ _ _ us hl => match us, hl with | [_, _], _ => rfl)
      (case a => k_is)
      (case l => k_is)
      (case c => k_is)
      (case k => k_is)
    case f_law_error =>
      refine' L2.raw_mk KX G ["_law_text"] ?a ?l ?c ?k (fun _ _ _ _ _ _ us hl => match us, hl with | [_], _ => rfl)
      (case a => k_is)
      (case l => k_is)
      (case c => k_is)
      (case k => k_is)
    case f_law_taken =>
      refine' L2.raw_mk KX G ["_law_text", "_law_shape"] ?a ?l ?c ?k (fun _ _ _ _ _ _ us hl => match us, hl with | [_, _], _ => rfl)
      (case a => k_is)
      (case l => k_is)
      (case c => k_is)
      (case k => k_is)
    case f_law_of_numbers =>
      refine' L2.raw_mk KX G ["_law_script"] ?a ?l ?c ?k (fun _ _ _ _ _ _ us hl => match us, hl with | [_], _ => rfl)
      (case a => k_is)
      (case l => k_is)
      (case c => k_is)
      (case k => k_is)
    case cl_NoteReader =>
      refine' ⟨?a, ?b, ?c, ?d⟩
      (case a => k_is)
      (case b => k_is)
      (case c => k_is)
      (case d => k_is)
    case n_NoteReader_text =>
      refine' L2.noattr_mk ?a
      (case a => k_is)
    case n_NoteReader_place =>
      refine' L2.noattr_mk ?a
      (case a => k_is)
    case c_LONGEST_LABEL =>
      refine' L2.conI_mk KX G ?a
      (case a => k_is)
    case c_LONGEST_WORD =>
      refine' L2.conI_mk KX G ?a
      (case a => k_is)
    case c_MOST_BRACKETS =>
      refine' L2.conI_mk KX G ?a
      (case a => k_is)
    case c_MOST_FIGURES =>
      refine' L2.conI_mk KX G ?a
      (case a => k_is)
    case c_MOST_SIGNS =>
      refine' L2.conI_mk KX G ?a
      (case a => k_is)
    case c_OF_ONE_PART =>
      refine' L2.conT_mk KX G ?a ?l ?z ?r
      (case a => k_is)
      (case l => k_is)
      (case z => decide)
      (case r => exact (.cons ⟨_, rfl⟩ (.cons ⟨_, rfl⟩ (.cons ⟨_, rfl⟩ .nil))))
    case b_ValueError =>
      refine' PySem.W.mg_none_of KX G ?a
      (case a => k_is)
    case b_all =>
      refine' PySem.W.mg_none_of KX G ?a
      (case a => k_is)
    case b_bool =>
      refine' PySem.W.mg_none_of KX G ?a
      (case a => k_is)
    case b_int =>
      refine' PySem.W.mg_none_of KX G ?a
      (case a => k_is)
    case b_isinstance =>
      refine' PySem.W.mg_none_of KX G ?a
      (case a => k_is)
    case b_len =>
      refine' PySem.W.mg_none_of KX G ?a
      (case a => k_is)
    case b_list =>
      refine' PySem.W.mg_none_of KX G ?a
      (case a => k_is)
    case b_range =>
      refine' PySem.W.mg_none_of KX G ?a
      (case a => k_is)
    case b_set =>
      refine' PySem.W.mg_none_of KX G ?a
      (case a => k_is)
    case b_str =>
      refine' PySem.W.mg_none_of KX G ?a
      (case a => k_is)
    case b_tuple =>
      refine' PySem.W.mg_none_of KX G ?a
      (case a => k_is)
    case x_CountError =>
      refine' PySem.W.mg_of KX G ?a
      (case a => k_is)
    case x_NoNote =>
      refine' PySem.W.mg_of KX G ?a
      (case a => k_is)
    case x_Crowded =>
      refine' PySem.W.mg_of KX G ?a
      (case a => k_is)
    case x_Twice =>
      refine' PySem.W.mg_of KX G ?a
      (case a => k_is)
    case x_NoRange =>
      refine' PySem.W.mg_of KX G ?a
      (case a => k_is)
    case r_Crowded => k_exc
    case r_NoNote => k_exc
    case r_NoRange => k_exc
    case r_Twice => k_exc
    case t_NoNote =>
      refine' ⟨?a, ?b, ?c, ?d, ?e, ?f⟩
      (case a => k_is)
      (case b => k_is)
      (case c => k_is)
      (case d => k_is)
      (case e => k_is)
      (case f => k_is)
    case t_NoRange =>
      refine' ⟨?a, ?b, ?c, ?d, ?e, ?f⟩
      (case a => k_is)
      (case b => k_is)
      (case c => k_is)
      (case d => k_is)
      (case e => k_is)
      (case f => k_is)
    case t_Twice =>
      refine' ⟨?a, ?b, ?c, ?d, ?e, ?f⟩
      (case a => k_is)
      (case b => k_is)
      (case c => k_is)
      (case d => k_is)
      (case e => k_is)
      (case f => k_is)
    case i_NoNote_NoNote => kit_is
    case i_NoNote_NoRange => kit_is
    case i_NoNote_Twice => kit_is
    case i_NoNote_ValueError => kit_is
    case i_NoRange_NoNote => kit_is
    case i_NoRange_NoRange => kit_is
    case i_NoRange_Twice => kit_is
    case i_NoRange_ValueError => kit_is
    case i_Twice_NoNote => kit_is
    case i_Twice_NoRange => kit_is
    case i_Twice_Twice => kit_is
    case i_Twice_ValueError => kit_is
    case m_NoNote_CountError => kts_exm
    case m_Twice_CountError => kts_exm
    case m_NoRange_CountError => kts_exm
