import PyProof.Rows.All
import Wide.All
import OpenK.AllK
import Wide.FinOn
import Lean
import PyProof.EqAt
import PyProof.EqKinds
import PyProof.TupleCall
import PyProof.NeData
import KE.KTryMore
import PyProof.ExcBaseAll.ValueError
import PyProof.ExcArgsOwn
import KE.KIntText
import PyProof.Rows.SetFrom
import PyProof.SetRoads
import PyProof.StrWalks
import PyProof.ListStr
import PyProof.Rows.StrSplitCount
import PyProof.MeetsStr
import PyProof.MeetsStr2
import PyProof.StrOps2
import PySem.Challenge.RW_countgen_k62_drawn_values
set_option Elab.async false
set_option linter.all false
set_option maxRecDepth 100000
/-! THE HAND LAYER, for ints, bools, texts, own classes, LISTS and tuples (index, slices, in, append, pop ..), calls, loops. Paste it whole ahead of your own text; what your proof does not reach may be deleted. -/
namespace L2
open PySem PySem.Spec PyProof.Rows

/-- a key: an int or a str -/
abbrev Key := Sum Int Str
def keyIs : Key → Value → Bool
  | .inl k, v => Value.isInt k v
  | .inr x, v => Value.isStrOf x v
def keyH (w : World) : Key → Int
  | .inl k => hashInt k
  | .inr x => hashStr w x
theorem keyIs_shape : ∀ {k : Key} {v : Value}, keyIs k v = true → (∃ i t, k = Sum.inl i ∧ v = Value.int i t) ∨ (∃ x t, k = Sum.inr x ∧ v = Value.str x t)
  | .inl i, v, h => by
    obtain ⟨t, e⟩ := Value.isInt_shape (k := i) (v := v) h
    exact .inl ⟨i, t, rfl, e⟩
  | .inr x, v, h => by
    obtain ⟨t, e⟩ := Value.isStrOf_shape (x := x) (v := v) h
    exact .inr ⟨x, t, rfl, e⟩
theorem keyIs_int (i : Int) (t : Tok) : keyIs (.inl i) (.int i t) = true := by simp [keyIs, Value.isInt]
theorem keyIs_str (x : Str) (t : Tok) : keyIs (.inr x) (.str x t) = true := by simp [keyIs, Value.isStrOf]
theorem key_ll (a b : Int) : decide ((Sum.inl a : Key) = Sum.inl b) = (a == b) := by
  by_cases e : a = b
  · subst e; simp
  · have h : ¬ (Sum.inl a : Key) = Sum.inl b := fun q => e (Sum.inl.inj q)
    rw [decide_eq_false h]
    exact (beq_eq_false_iff_ne.mpr e).symm
theorem key_rr (a b : Str) : decide ((Sum.inr a : Key) = Sum.inr b) = decide (a = b) := by
  by_cases e : a = b
  · subst e; simp
  · have h : ¬ (Sum.inr a : Key) = Sum.inr b := fun q => e (Sum.inr.inj q)
    rw [decide_eq_false h, decide_eq_false e]
theorem key_lr (a : Int) (b : Str) : decide ((Sum.inl a : Key) = Sum.inr b) = false := decide_eq_false (fun q => nomatch q)
theorem key_rl (a : Str) (b : Int) : decide ((Sum.inr a : Key) = Sum.inl b) = false := decide_eq_false (fun q => nomatch q)

def mixKind (prog : Program) (w : World) : PySem.KeyKind prog w Key where
  is := keyIs
  hash := keyH w
  inj := fun v a b ha hb => by
    rcases keyIs_shape ha with ⟨i, t, rfl, rfl⟩ | ⟨x, t, rfl, rfl⟩
    · rcases keyIs_shape hb with ⟨j, u, rfl, e⟩ | ⟨y, u, rfl, e⟩
      · injection e with e1 _; rw [e1]
      · exact nomatch e
    · rcases keyIs_shape hb with ⟨j, u, rfl, e⟩ | ⟨y, u, rfl, e⟩
      · exact nomatch e
      · injection e with e1 _; rw [e1]
  byValue := fun k v h => by
    rcases keyIs_shape h with ⟨i, t, rfl, rfl⟩ | ⟨x, t, rfl, rfl⟩ <;> rfl
  pyHash := fun hv h => by
    rcases keyIs_shape hv with ⟨i, t, rfl, rfl⟩ | ⟨x, t, rfl, rfl⟩
    · exact wpAny_pyHash_int h
    · exact wpAny_pyHash_str h
  eqBool := fun hu hv h => by
    rcases keyIs_shape hu with ⟨i, t, rfl, rfl⟩ | ⟨x, t, rfl, rfl⟩
    · rcases keyIs_shape hv with ⟨j, u, rfl, rfl⟩ | ⟨y, u, rfl, rfl⟩
      · rw [key_ll] at h; exact wpAny_eqBool_int h
      · rw [key_lr] at h; exact SeqAt.EqAt.int_str i t y u _ _ _ _ h
    · rcases keyIs_shape hv with ⟨j, u, rfl, rfl⟩ | ⟨y, u, rfl, rfl⟩
      · rw [key_rl] at h; exact SeqAt.EqAt.str_int x t j u _ _ _ _ h
      · rw [key_rr] at h; exact wpAny_eqBool_str h
  «strs» := fun k x t v h => by
    rcases keyIs_shape h with ⟨i, u, rfl, e⟩ | ⟨y, u, rfl, e⟩
    · exact nomatch e
    · injection e with e1 _
      subst e1
      cases v <;> rfl

theorem mixKind_int (prog : Program) (w : World) (i : Int) (t : Tok) : (mixKind prog w).is (.inl i) (.int i t) = true := keyIs_int i t
theorem mixKind_str (prog : Program) (w : World) (x : Str) (t : Tok) : (mixKind prog w).is (.inr x) (.str x t) = true := keyIs_str x t
end L2

namespace L2
open PySem PySem.Spec PyProof.Rows

/-- a value, without the heap -/
inductive V where
  | non | bl (b : Bool) | int (i : Int) | str (x : Str) | byt (b : Array UInt8) | flt (b : UInt64) | ref (a : Addr) | ty (n : String)
  deriving DecidableEq

def RelV : V → Value → Prop
  | .non, u => u = Value.none
  | .bl b, u => u = Value.bool b
  | .int i, u => ∃ t, u = Value.int i t
  | .str x, u => ∃ t, u = Value.str x t
  | .byt b, u => ∃ t, u = Value.bytes b t
  | .flt b, u => ∃ t, u = Value.float b t
  | .ref a, u => u = Value.ref a
  | .ty n, u => u = Value.type n

abbrev Vals : List V → List Value → Prop := Paired RelV
theorem Vals.length {xs : List V} {us : List Value} (r : Vals xs us) : xs.length = us.length := Paired.length r
theorem Vals.get : ∀ {xs : List V} {us : List Value} {i : Nat} {x : V}, Vals xs us → xs[i]? = some x → ∃ u, us[i]? = some u ∧ RelV x u
  | _, _, _, _, .nil, e => by simp at e
  | _, _, 0, _, .cons r _, e => by simp at e; subst e; exact ⟨_, rfl, r⟩
  | _, _, i + 1, x, .cons _ t, e => by
    obtain ⟨u, h1, h2⟩ := Vals.get (i := i) (x := x) t (by simpa using e)
    exact ⟨u, by simpa using h1, h2⟩
theorem Vals.append : ∀ {xs ys : List V} {us ws : List Value}, Vals xs us → Vals ys ws → Vals (xs ++ ys) (us ++ ws)
  | _, _, _, _, .nil, s => s
  | _, _, _, _, .cons r t, s => .cons r (Vals.append t s)
theorem Vals.take : ∀ {xs : List V} {us : List Value} (n : Nat), Vals xs us → Vals (xs.take n) (us.take n)
  | _, _, 0, _ => .nil
  | _, _, _ + 1, .nil => .nil
  | _, _, n + 1, .cons r t => .cons r (Vals.take n t)
theorem Vals.drop : ∀ {xs : List V} {us : List Value} (n : Nat), Vals xs us → Vals (xs.drop n) (us.drop n)
  | _, _, 0, r => r
  | _, _, _ + 1, .nil => .nil
  | _, _, n + 1, .cons _ t => Vals.drop n t
def RelO : Option V → Option Value → Prop
  | some v, some u => RelV v u
  | none, none => True
  | _, _ => False
def KV {κ : Type} : List (κ × V) → List (κ × Value) → Prop := Paired fun (p : κ × V) (q : κ × Value) => p.1 = q.1 ∧ RelV p.2 q.2

/-- a key of a dict (00_mix): an int or a text -/
def kV : Key → V
  | .inl i => .int i
  | .inr x => .str x

/-- what stands at a tracked address -/
inductive HO where
  /-- a list -/
  | lst (xs : List V)
  /-- a tuple (never changes) -/
  | tup (xs : List V)
  /-- a dict whose keys are ints and texts; one whose keys are tuples of ints and texts (the empty one is both) -/
  | dK (kvs : List (Key × V)) | dT (kvs : List (List Key × V))
  /-- a set of ints: its members, its size -/
  | set (S : Int → Bool) (n : Nat)
  /-- an instance of the class at C, its dict at dx, its attributes -/
  | ins (C dx : Addr) (fs : List (Str × V))
  /-- the dict of the instance at x -/
  | own (x : Addr)
  /-- the dict of an exception -/
  | xd (fs : List (Str × V))
  /-- a bound method, f of x -/
  | met (f x : Addr)
  /-- a range object lo, lo + 1, .. below hi -/
  | rng (lo hi : Int)
  /-- a thing that is known to the object (the script; a dict while a loop walks it): read, never written while it is so -/
  | frz (o : Obj) (u : HO)
  /-- a code object's table -/
  | tbl (ps : Array Value)
  /-- any other thing, by what is true of its one object (a def of one's own: SetO a S n := HO.ext fun h => ..) -/
  | ext (φ : Heap → Prop)

abbrev Hp := Addr → Option HO
def upd (H : Hp) (a : Addr) (o : HO) : Hp := fun b => if b = a then some o else H b
theorem upd_same {H : Hp} {a : Addr} {o : HO} : upd H a o a = some o := by unfold upd; rw [if_pos rfl]
theorem upd_ne {H : Hp} {a b : Addr} {o : HO} (h : b ≠ a) : upd H a o b = H b := by unfold upd; rw [if_neg h]
/-- two objects of different content stand apart -/
theorem ne_of {H : Hp} {a b : Addr} {o u : HO} (h : H a = some o) (h' : H b = some u) (d : o ≠ u) : a ≠ b := by
  intro e; subst e; rw [h] at h'; exact d (Option.some.inj h')
theorem ne_of_none {H : Hp} {a b : Addr} {o : HO} (h : H a = some o) (h' : H b = none) : a ≠ b := by
  intro e; subst e; rw [h] at h'; cases h'

section
variable (P : Program) (w : World)
def ObjOk (H : Hp) (h : Heap) (a : Addr) : HO → Prop
  | .lst xs => xs.length ≤ sizeLine ∧ ∃ (its : List Value) (n : Nat), Vals xs its ∧ h.get? a = some { cls := .type "list", data := .seq its.toArray n }
  | .tup xs => xs.length ≤ sizeLine ∧ ∃ its : List Value, Vals xs its ∧ IsTup h a its.toArray
  | .dK kvs => kvs.length ≤ sizeLine ∧ (a == sysModules) = false ∧ ∃ vs, KV kvs vs ∧ h.DictOf (mixKind P w) a vs
  | .dT kvs => kvs.length ≤ sizeLine ∧ (a == sysModules) = false ∧ ∃ xs : List (List Key × Addr × Value),
      Paired (fun (p : List Key × V) (q : List Key × Addr × Value) => p.1 = q.1 ∧ H q.2.1 = some (.tup (p.1.map kV)) ∧ RelV p.2 q.2.2) kvs xs ∧
      ∃ o es ep, h.get? a = some o ∧ o.ExactDict ∧ o.data = .dict es ep ∧ es.toList = xs.map (entryOfKey (tupleKind (mixKind P w))) ∧ (xs.map (·.1)).Nodup
  | .set S n => h.SetOf (intKind P w) a S n
  | .ins C dx fs => H dx = some (.own a) ∧ fs.length ≤ 1000 ∧ dx ≠ a ∧ h.get? a = some (PySem.W.instObj C dx) ∧
      ∃ mA, h.Ns1 dx mA ∧ (∀ f, RelO (fs.lookup f) (mA f)) ∧ PySem.Within mA (fs.map (·.1))
  | .own _ => ∃ o, h.get? a = some o
  | .xd fs => ∃ mA, h.Ns1 a mA ∧ ∀ f, RelO (fs.lookup f) (mA f)
  | .rng lo hi => ∃ t u v, h.get? a = some { cls := .type "range", data := .fields #[.int lo t, .int hi u, .int 1 v] }
  | .frz o u => h.get? a = some o ∧ ObjOk H h a u
  | .tbl ps => h.get? a = some { cls := .none, data := .fields ps }
  | .met f x => h.get? a = some (PySem.W.methodObj (.ref f) (.ref x))
  | .ext φ => φ h ∧ (∃ o, h.get? a = some o) ∧ ∀ h1 h2 : Heap, φ h1 → (∀ o, h1.get? a = some o → h2.get? a = some o) → φ h2
/-- the abstract heap is held -/
def HOk (H : Hp) (h : Heap) : Prop := ∀ a o, H a = some o → ObjOk P w H h a o
end

section
variable {P : Program} {w : World} {H H' : Hp} {h h' : Heap} {a : Addr} {o : HO}
theorem ObjOk.lt (x : ObjOk P w H h a o) : a < h.objs.size := by
  cases o with
  | lst xs => obtain ⟨_, _, _, _, e⟩ := x; exact Heap.lt_size e
  | tup xs => obtain ⟨_, _, _, p⟩ := x; exact p.lt
  | dK kvs => obtain ⟨_, _, _, _, o, _, _, e, _⟩ := x; exact Heap.lt_size e
  | dT kvs => obtain ⟨_, _, _, _, o, _, _, e, _⟩ := x; exact Heap.lt_size e
  | set S n => obtain ⟨o, _, _, _, e, _⟩ := x; exact Heap.lt_size e
  | ins C dx fs => obtain ⟨_, _, _, e, _⟩ := x; exact Heap.lt_size e
  | own y => obtain ⟨_, e⟩ := x; exact Heap.lt_size e
  | xd fs => obtain ⟨_, ⟨_, _, _, e, _⟩, _⟩ := x; exact Heap.lt_size e
  | rng lo hi => obtain ⟨_, _, _, e⟩ := x; exact Heap.lt_size e
  | frz ob u => obtain ⟨e, _⟩ := x; exact Heap.lt_size e
  | tbl ps => exact Heap.lt_size (show h.get? a = some _ from x)
  | met f y => exact Heap.lt_size (show h.get? a = some _ from x)
  | ext φ => obtain ⟨_, ⟨_, e⟩, _⟩ := x; exact Heap.lt_size e
theorem Paired.mapP {α β : Type} {F G : α → β → Prop} : ∀ {l₁ : List α} {l₂ : List β}, Paired F l₁ l₂ → (∀ a b, F a b → G a b) → Paired G l₁ l₂
  | _, _, .nil, _ => .nil
  | _, _, .cons r t, f => .cons (f _ _ r) (Paired.mapP t f)
/-- what an object's description leans on: its own object, its own dict, the tuples -/
theorem ObjOk.stay (x : ObjOk P w H h a o) (k : ∀ b u, (b = a ∨ H b = some (.own a)) → h.get? b = some u → h'.get? b = some u)
    (ho : ∀ b, H b = some (.own a) → H' b = some (.own a)) (ht : ∀ b xs, H b = some (.tup xs) → H' b = some (.tup xs)) : ObjOk P w H' h' a o := by
  induction o with
  | lst xs => obtain ⟨z, its, n, r, e⟩ := x; exact ⟨z, its, n, r, k _ _ (.inl rfl) e⟩
  | tup xs => obtain ⟨z, its, r, ob, e, c⟩ := x; exact ⟨z, its, r, ob, k _ _ (.inl rfl) e, c⟩
  | dK kvs => obtain ⟨z, y, vs, r, ob, es, ep, e, c⟩ := x; exact ⟨z, y, vs, r, ob, es, ep, k _ _ (.inl rfl) e, c⟩
  | dT kvs =>
    obtain ⟨z, y, xs, r, ob, es, ep, e, c⟩ := x
    exact ⟨z, y, xs, Paired.mapP r fun p q z => ⟨z.1, ht _ _ z.2.1, z.2.2⟩, ob, es, ep, k _ _ (.inl rfl) e, c⟩
  | set S n => obtain ⟨ob, es, ep, t, e, c⟩ := x; exact ⟨ob, es, ep, t, k _ _ (.inl rfl) e, c⟩
  | ins C dx fs =>
    obtain ⟨d, z, ne, e, mA, ⟨od, es, ep, e2, c⟩, r⟩ := x
    exact ⟨ho _ d, z, ne, k _ _ (.inl rfl) e, mA, ⟨od, es, ep, k _ _ (.inr d) e2, c⟩, r⟩
  | own y => obtain ⟨ob, e⟩ := x; exact ⟨ob, k _ _ (.inl rfl) e⟩
  | xd fs => obtain ⟨mA, ⟨od, es, ep, e, c⟩, r⟩ := x; exact ⟨mA, ⟨od, es, ep, k _ _ (.inl rfl) e, c⟩, r⟩
  | rng lo hi => obtain ⟨t, u, v, e⟩ := x; exact ⟨t, u, v, k _ _ (.inl rfl) e⟩
  | frz ob u ih => obtain ⟨e, q⟩ := x; exact ⟨k _ _ (.inl rfl) e, ih q⟩
  | tbl ps =>
    have e : h.get? a = some { cls := .none, data := .fields ps } := x
    show h'.get? a = some { cls := .none, data := .fields ps }
    exact k a _ (.inl rfl) e
  | met f y =>
    have e : h.get? a = some (PySem.W.methodObj (.ref f) (.ref y)) := x
    show h'.get? a = some (PySem.W.methodObj (.ref f) (.ref y))
    exact k a _ (.inl rfl) e
  | ext φ => obtain ⟨p, ⟨o, e⟩, st⟩ := x; exact ⟨st _ _ p fun o q => k _ _ (.inl rfl) q, ⟨o, k _ _ (.inl rfl) e⟩, st⟩
theorem HOk.lt (x : HOk P w H h) (e : H a = some o) : a < h.objs.size := (x a o e).lt
theorem HOk.fresh (x : HOk P w H h) (e : h.objs.size ≤ a) : H a = none := by
  cases q : H a with
  | none => rfl
  | some u => exact absurd (Nat.lt_of_lt_of_le (x.lt q) e) (Nat.lt_irrefl _)
/-- every object of the heap is kept -/
theorem HOk.kept (x : HOk P w H h) (k : ∀ b u, h.get? b = some u → h'.get? b = some u) : HOk P w H h' := fun a o e =>
  (x a o e).stay (fun b u _ q => k b u q) (fun _ q => q) fun _ _ q => q
/-- a new object is laid and tracked -/
theorem HOk.laid (x : HOk P w H h) (k : ∀ b u, h.get? b = some u → h'.get? b = some u) (hp : h.objs.size ≤ a) (new : ObjOk P w (upd H a o) h' a o) : HOk P w (upd H a o) h' := fun b u e => by
  have hn := x.fresh hp
  by_cases hb : b = a
  · subst hb; rw [upd_same] at e; cases e; exact new
  · rw [upd_ne hb] at e
    exact (x b u e).stay (fun c v _ q => k c v q) (fun c q => by rw [upd_ne (ne_of_none q hn)]; exact q) fun c xs q => by rw [upd_ne (ne_of_none q hn)]; exact q
end

/-- what may be read as u: it is u, or a known u -/
def Rd (H : Hp) (a : Addr) (u : HO) : Prop := H a = some u ∨ ∃ o, H a = some (.frz o u)
theorem Rd.ok {P : Program} {w : World} {H : Hp} {h : Heap} {a : Addr} {u : HO} (r : Rd H a u) (x : HOk P w H h) : ObjOk P w H h a u := by
  rcases r with r | ⟨o, r⟩
  · exact x a u r
  · obtain ⟨_, q⟩ := x a _ r
    exact q
/-- what may be written -/
def Mut : Option HO → Prop
  | some (.lst _) => True
  | some (.dK _) => True
  | some (.dT _) => True
  | some (.set _ _) => True
  | some (.ins _ _ _) => True
  | some (.ext _) => True
  | _ => False
section
variable {P : Program} {w : World} {H : Hp} {h h' : Heap} {x e : Addr} {o' : HO}
/-- the object at e is changed: x itself, or the dict of the instance x -/
theorem HOk.write (ok : HOk P w H h) (mu : Mut (H x)) (he : e = x ∨ H e = some (.own x)) (k : ∀ b u, b ≠ e → h.get? b = some u → h'.get? b = some u) (heo : ∃ u, h'.get? e = some u)
    (new : ObjOk P w (upd H x o') h' x o') : HOk P w (upd H x o') h' := fun b u q => by
  have nown : ∀ c y, H c = some (.own y) → c ≠ x := fun c y r z => by subst z; rw [r] at mu; exact mu
  have ntup : ∀ c xs, H c = some (.tup xs) → c ≠ x := fun c xs r z => by subst z; rw [r] at mu; exact mu
  by_cases hb : b = x
  · subst hb; rw [upd_same] at q; cases q; exact new
  · rw [upd_ne hb] at q
    by_cases hbe : b = e
    · have q' : H b = some (.own x) := by
        rcases he with z | z
        · exact absurd (hbe.trans z) hb
        · rw [hbe]; exact z
      rw [q] at q'; cases q'
      obtain ⟨v, hv⟩ := heo
      exact ⟨v, by rw [hbe]; exact hv⟩
    · refine (ok b u q).stay (fun c v hc r => k c v ?_ r) (fun c r => by rw [upd_ne (nown c b r)]; exact r) fun c xs r => by rw [upd_ne (ntup c xs r)]; exact r
      rcases hc with rfl | hc
      · exact hbe
      · rintro rfl
        rcases he with z | z
        · exact nown c b hc z
        · rw [hc] at z; cases z; exact hb rfl
end

/-! ### kept unless tracked; of the frames at fs (the callers') the slots may change (an exception that passes writes there); of the records at ex (iterators) nothing is said -/
structure Un (fs ex : List Addr) (H H' : Hp) (h h' : Heap) : Prop where
  keep : ∀ b o, h.get? b = some o → H b = none → b ∉ fs → b ∉ ex → h'.get? b = some o
  slot : ∀ b o, h.get? b = some o → H b = none → b ∈ fs → b ∉ ex → ∃ sl, h'.get? b = some { o with slots := sl }
  free : ∀ b o, h.get? b = some o → H b = none → b ∉ ex → H' b = none
  there : ∀ b o, h.get? b = some o → b ∉ ex → ∃ o', h'.get? b = some o'
  tups : ∀ b xs, H b = some (.tup xs) → H' b = some (.tup xs)
  frzs : ∀ b o u, H b = some (.frz o u) → H' b = some (.frz o u)
  tbls : ∀ b ps, H b = some (.tbl ps) → ∃ more, H' b = some (.tbl (ps ++ more))
section
variable {fs fs' ex ex' : List Addr} {H H1 H2 : Hp} {h h1 h2 h' : Heap} {a x e : Addr} {o : HO}
theorem Un.any (u : Un fs ex H H1 h h1) {b : Addr} {ob : Obj} (q : h.get? b = some ob) (n : H b = none) (hx : b ∉ ex) : ∃ sl, h1.get? b = some { ob with slots := sl } := by
  by_cases hb : b ∈ fs
  · exact u.slot b ob q n hb hx
  · exact ⟨ob.slots, u.keep b ob q n hb hx⟩
theorem Un.kept (k : ∀ b u, h.get? b = some u → h'.get? b = some u) : Un fs ex H H h h' :=
  ⟨fun b ob q _ _ _ => k b ob q, fun b ob q _ _ _ => ⟨ob.slots, k b ob q⟩, fun _ _ _ n _ => n, fun b ob q _ => ⟨ob, k b ob q⟩, fun _ _ q => q, fun _ _ _ q => q, fun _ ps q => ⟨#[], by rw [q]; simp⟩⟩
theorem Un.refl : Un fs ex H H h h := Un.kept fun _ _ q => q
theorem Un.laid (k : ∀ b u, h.get? b = some u → h'.get? b = some u) (hp : h.objs.size ≤ a) (hn : H a = none) : Un fs ex H (upd H a o) h h' where
  keep := fun b u q _ _ _ => k b u q
  slot := fun b u q _ _ _ => ⟨u.slots, k b u q⟩
  free := fun b u q n _ => by rw [upd_ne (Nat.ne_of_lt (Nat.lt_of_lt_of_le (Heap.lt_size q) hp))]; exact n
  there := fun b u q _ => ⟨u, k b u q⟩
  tups := fun b xs q => by rw [upd_ne (ne_of_none q hn)]; exact q
  frzs := fun b u xs q => by rw [upd_ne (ne_of_none q hn)]; exact q
  tbls := fun b ps q => ⟨#[], by rw [upd_ne (ne_of_none q hn), q]; simp⟩
theorem Un.write (mu : Mut (H x)) (he : e = x ∨ H e = some (.own x)) (k : ∀ b u, b ≠ e → h.get? b = some u → h'.get? b = some u) (heo : ∃ u, h'.get? e = some u) : Un fs ex H (upd H x o) h h' := by
  have hx : ∀ b, H b = none → b ≠ x := fun b n z => by subst z; rw [n] at mu; exact mu
  have hb : ∀ b, H b = none → b ≠ e := fun b n z => by
    subst z
    rcases he with r | r
    · exact hx b n r
    · rw [n] at r; cases r
  have hm : ∀ b u, H b = some u → ¬ Mut (some u) → b ≠ x := fun b u q nm z => by subst z; rw [q] at mu; exact nm mu
  refine ⟨fun b u q n _ _ => k b u (hb b n) q, fun b u q n _ _ => ⟨u.slots, k b u (hb b n) q⟩, fun b u q n _ => by rw [upd_ne (hx b n)]; exact n, fun b u q _ => ?_,
    fun b xs q => by rw [upd_ne (hm b _ q fun z => z)]; exact q, fun b u xs q => by rw [upd_ne (hm b _ q fun z => z)]; exact q, fun b ps q => ⟨#[], by rw [upd_ne (hm b _ q fun z => z), q]; simp⟩⟩
  by_cases hbe : b = e
  · subst hbe; exact heo
  · exact ⟨u, k b u hbe q⟩
end

/-! ### the heap without what is tracked -/
def trk (h : Heap) (H : Hp) : List Addr := (List.range h.objs.size).filter fun a => (H a).isSome
def hidT (h : Heap) (H : Hp) : Heap := PySem.W.hideAll h (trk h H)
theorem hidT_size (h : Heap) (H : Hp) : (hidT h H).objs.size = h.objs.size := PySem.W.hideAll_size _ _
theorem hidT_get {h : Heap} {H : Hp} {b : Addr} {o : Obj} (e : h.get? b = some o) (n : H b = none) : (hidT h H).get? b = some o :=
  PySem.W.hideAll_get _ e fun hm => by
    have q : (H b).isSome = true := (List.mem_filter.mp hm).2
    rw [n] at q; simp at q
theorem of_hidT {h : Heap} {H : Hp} {b : Addr} {o : Obj} (e : (hidT h H).get? b = some o) : h.get? b = some o ∧ H b = none := by
  have e' : h.get? b = some o := PySem.W.of_hideAll (trk h H) e
  refine ⟨e', ?_⟩
  cases q : H b with
  | none => rfl
  | some x =>
    have hm : b ∈ trk h H := List.mem_filter.mpr ⟨List.mem_range.mpr (Heap.lt_size e'), by simp [q]⟩
    have z : (hidT h H).get? b = none := PySem.W.hideAll_none (trk h H) hm
    rw [z] at e; cases e

/-! ### OpenK's ledger, filled with every new object but one -/
def allNews (g h : Heap) (L : Addr) : List (Addr × Obj) := (List.range h.objs.size).filterMap fun a => if a = L ∨ (g.get? a).isSome = true then none else (h.get? a).map fun o => (a, o)
def rest (g h : Heap) (L d : Addr) : List (Addr × Obj) := (allNews g h L).filter fun p => decide (p.1 ≠ d)
end L2

namespace L2
open PySem PySem.Spec PyProof.Rows

/-- the module's facts, over the base: the heap at the law's entry without what is tracked there -/
structure Mod (K : PySem.W.Frag) (mg : Str → Option Value) (base : Heap) : Prop where
  kin : K.In base
  glob : base.Ns mainGlobals mg
  blt : ∃ mb, base.Ns builtinsNs mb ∧ ∀ x : Str, x ≠ "__name__" → mb x = bootBuiltins x
  nolimit : base.NoLimit

/-- the context: a def's body (or a comprehension's block) running. base: fixed through the whole law; s₀, H₀: the entry; outer: the frames whose slots others may change (a def's callers); stack: all frames that run;
   ex: iterators that were made ahead of the entry and are walked here (a comprehension's); fn: the names whose cells were made at the entry (a def: all; a comprehension's block: its own); calm: not within an except suite; pn: pins that every state bears; xe: what is wanted of an exception that leaves the code -/
structure Cx where
  prog : Program
  w : World
  K : PySem.W.Frag
  mg : Str → Option Value
  base : Heap
  A : Around
  N : List Str
  s₀ : Shared
  H₀ : Hp
  env : Env
  outer : List Env
  stack : List Env
  ex : List Addr
  fn : Str → Bool
  calm : Bool
  pn : List (Addr × Obj)
  xe : Value → Shared → Prop
/-- the callers' frames -/
def frs (l : List Env) : List Addr := l.filterMap (·.frame)
abbrev Cx.fs (X : Cx) : List Addr := frs X.outer

def Vis (sc : Scope) (x : Str) : Prop := sc.names.lookup x = some .local ∨ sc.names.lookup x = some .cell ∨ sc.names.lookup x = some .free
def Loc (sc : Scope) (x : Str) : Prop := sc.names.lookup x = some .local ∨ sc.names.lookup x = some .cell
def Look (env : Env) (h : Heap) (m : Str → Option Value) (x : Str) (u : Value) : Prop :=
  (env.kindOf x = some .local ∧ m x = some u) ∨ ((env.kindOf x = some .cell ∨ env.kindOf x = some .free) ∧ ∃ c, env.cells.lookup x = some c ∧ h.IsCell c (some u))

structure Cx.Ok (X : Cx) : Prop where
  mod : Mod X.K X.mg X.base
  kind : X.env.scope.kind = .function
  glob : X.env.globals = mainGlobals
  blt : X.env.builtins = builtinsNs
  above : X.s₀.heap.objs.size ≤ X.env.locals
  inj : ∀ x y c, X.env.cells.lookup x = some c → X.env.cells.lookup y = some c → x = y
  has : ∀ x, (X.env.kindOf x = some .cell ∨ X.env.kindOf x = some .free) → ∃ c, X.env.cells.lookup x = some c
  cab : ∀ x c, X.fn x = true → X.env.cells.lookup x = some c → X.s₀.heap.objs.size ≤ c
  hd : X.calm = true → X.A.handled = none
  frames : X.A.frames = some X.stack
  stk : X.stack = X.outer ∨ (X.stack = X.env :: X.outer ∧ X.env.frame = some X.env.locals)
  exf : ∀ b ∈ X.ex, b ≠ X.env.locals ∧ ∀ x c, X.env.cells.lookup x = some c → c ≠ b
  bs : ∀ b o, X.base.get? b = some o → X.s₀.heap.get? b = some o ∧ X.H₀ b = none
  bsz : X.base.objs.size ≤ X.s₀.heap.objs.size
  noex : ∀ b o, X.base.get? b = some o → b ∉ X.ex
  exfs : ∀ b ∈ X.ex, b ∉ X.fs
  funs : X.s₀.heap.FunFrames X.base X.outer
  frf : ∀ b ∈ X.fs, X.H₀ b = none

structure Inv (X : Cx) (pins : List (Addr × Obj)) (σ : List (Option V)) (H : Hp) (s : Shared) : Prop where
  ok : X.Ok
  os : s.os = X.s₀.os
  bare : AllBare s.gens
  base : Un X.fs X.ex X.H₀ H X.s₀.heap s.heap
  loc : ∃ m, s.heap.Ns X.env.locals m ∧ ∀ (i : Nat) (x : Str) (v : V), X.N[i]? = some x → σ[i]? = some (some v) → Vis X.env.scope x → ∃ u, RelV v u ∧ Look X.env s.heap m x u
  cell : ∀ x c, X.env.cells.lookup x = some c → ∃ v, s.heap.IsCell c v
  free : H X.env.locals = none
  freeC : ∀ x c, X.env.cells.lookup x = some c → H c = none
  pin : ∀ p ∈ X.pn ++ pins, s.heap.get? p.1 = some p.2 ∧ H p.1 = none ∧ p.1 ≠ X.env.locals ∧ p.1 ∉ X.fs ∧ ∀ v, p.2.data ≠ .cell v
  hok : HOk X.prog X.w H s.heap
  len : σ.length = X.N.length

section
variable {X : Cx} {pins : List (Addr × Obj)} {σ : List (Option V)} {H H' : Hp} {s : Shared} {h' : Heap}

theorem Cx.Ok.nofr (ok : X.Ok) {b : Addr} {o : Obj} (e : X.base.get? b = some o) : b ∉ X.fs := fun hb => by
  have := (ok.funs.mem hb).1
  rw [e] at this; cases this
theorem Inv.bs (I : Inv X pins σ H s) : ∀ b o, X.base.get? b = some o → s.heap.get? b = some o ∧ H b = none := fun b o e =>
  ⟨I.base.keep b o (I.ok.bs b o e).1 (I.ok.bs b o e).2 (I.ok.nofr e) (I.ok.noex b o e), I.base.free b o (I.ok.bs b o e).1 (I.ok.bs b o e).2 (I.ok.noex b o e)⟩
theorem Inv.bk (I : Inv X pins σ H s) : ∀ b o, X.base.get? b = some o → s.heap.get? b = some o := fun b o e => (I.bs b o e).1
theorem Inv.mod (I : Inv X pins σ H s) : Mod X.K X.mg X.base := I.ok.mod
theorem Inv.kIn (I : Inv X pins σ H s) : X.K.In s.heap := I.ok.mod.kin.keeps I.bk
theorem Inv.lt (I : Inv X pins σ H s) : X.env.locals < s.heap.objs.size := let ⟨_, hn, _⟩ := I.loc; hn.lt
theorem Inv.sz (I : Inv X pins σ H s) : X.s₀.heap.objs.size ≤ s.heap.objs.size := Nat.le_trans I.ok.above (Nat.le_of_lt I.lt)
theorem Inv.nofs (I : Inv X pins σ H s) {a : Addr} (h : s.heap.objs.size ≤ a) : a ∉ X.fs := fun hb => by
  obtain ⟨_, o, ho, _⟩ := I.ok.funs.mem hb
  exact absurd (Nat.lt_of_lt_of_le (Heap.lt_size ho) (Nat.le_trans I.sz h)) (Nat.lt_irrefl _)
theorem Inv.cne (I : Inv X pins σ H s) : ∀ x c, X.env.cells.lookup x = some c → c ≠ X.env.locals := fun x c e z => by
  obtain ⟨v, o, ho, hd⟩ := I.cell x c e
  obtain ⟨m, ⟨o', es, ep, ho', hd', _⟩, _⟩ := I.loc
  rw [z, ho'] at ho; cases ho; rw [hd'] at hd; cases hd
theorem Inv.funs (I : Inv X pins σ H s) : s.heap.FunFrames X.base X.outer := by
  have all : ∀ (l : List Env), (∀ b ∈ frs l, b ∈ X.fs) → X.s₀.heap.FunFrames X.base l → s.heap.FunFrames X.base l := by
    intro l
    induction l with
    | nil => intro _ _; trivial
    | cons env r ih =>
      intro hs hl
      obtain ⟨hk, ⟨L, o, hf, hn, ho, hd⟩, hr⟩ := hl
      have hL : L ∈ X.fs := hs L (by unfold frs; rw [List.filterMap_cons, hf]; exact List.mem_cons_self)
      obtain ⟨sl, e⟩ := I.base.slot L o ho (I.ok.frf L hL) hL fun z => I.ok.exfs L z hL
      exact ⟨hk, ⟨L, _, hf, hn, e, hd⟩, ih (fun b hb => hs b (by unfold frs; rw [List.filterMap_cons, hf]; exact List.mem_cons_of_mem _ hb)) hr⟩
  exact all X.outer (fun _ hb => hb) I.ok.funs

/-- the frames that run, for a call -/
theorem Inv.stack (I : Inv X pins σ H s) : s.heap.FunFrames X.base X.stack := by
  rcases I.ok.stk with e | ⟨e, hf⟩
  · rw [e]; exact I.funs
  · rw [e]
    obtain ⟨m, hn, _⟩ := I.loc
    refine .cons (by rw [I.ok.kind]; decide) hf hn ?_ I.funs
    exact Heap.get?_none_of_le (Nat.le_trans I.ok.bsz I.ok.above)
theorem Inv.stkSub (I : Inv X pins σ H s) : ∀ b ∈ frs X.stack, b ∈ X.env.locals :: X.fs := fun b hb => by
  rcases I.ok.stk with e | ⟨e, hf⟩
  · rw [e] at hb; exact List.mem_cons_of_mem _ hb
  · rw [e] at hb
    unfold frs at hb
    rw [List.filterMap_cons, hf] at hb
    exact hb
theorem Inv.stkFree (I : Inv X pins σ H s) : ∀ b ∈ frs X.stack, H b = none := fun b hb => by
  rcases List.mem_cons.mp (I.stkSub b hb) with e | hb
  · rw [e]; exact I.free
  · obtain ⟨_, o, ho, _⟩ := I.ok.funs.mem hb
    exact I.base.free b o ho (I.ok.frf b hb) fun z => I.ok.exfs b z hb

/-- THE STEP: the untracked objects but the frame and the records at ch are kept (the callers' frames up to slots), the frame's map is kept, the new abstract heap is held -/
theorem Inv.step {g' : Array GenState} {t' : Nat} {d' : Drawn} {ch : List Addr} (I : Inv X pins σ H s)
    (hch : ∀ b ∈ ch, (b ∈ X.ex ∨ X.s₀.heap.objs.size ≤ b) ∧ b ≠ X.env.locals ∧ (∀ x c, X.env.cells.lookup x = some c → c ≠ b) ∧ ∀ p ∈ X.pn ++ pins, p.1 ≠ b)
    (keep : ∀ b o, b ≠ X.env.locals → b ∉ X.fs → b ∉ ch → s.heap.get? b = some o → H b = none → h'.get? b = some o)
    (slot : ∀ b o, b ≠ X.env.locals → b ∈ X.fs → b ∉ ch → s.heap.get? b = some o → H b = none → ∃ sl, h'.get? b = some { o with slots := sl }) (free : ∀ b o, b ∉ ch → s.heap.get? b = some o → H b = none → H' b = none)
    (there : ∀ b o, b ∉ ch → s.heap.get? b = some o → ∃ o', h'.get? b = some o')
    (tups : ∀ b xs, H b = some (.tup xs) → H' b = some (.tup xs)) (frzs : ∀ b o u, H b = some (.frz o u) → H' b = some (.frz o u)) (tbls : ∀ b ps, H b = some (.tbl ps) → ∃ more, H' b = some (.tbl (ps ++ more)))
    (ns : ∀ m, s.heap.Ns X.env.locals m → h'.Ns X.env.locals m) (hok : HOk X.prog X.w H' h') (hg : AllBare g') :
    Inv X pins σ H' { s with heap := h', gens := g', drawn := d', toks := t' } := by
  have neL : ∀ b o, X.s₀.heap.get? b = some o → b ≠ X.env.locals := fun b o e => Nat.ne_of_lt (Nat.lt_of_lt_of_le (Heap.lt_size e) I.ok.above)
  have neC : ∀ b o, X.s₀.heap.get? b = some o → b ∉ X.ex → b ∉ ch := fun b o e hx hb => by
    rcases (hch b hb).1 with z | z
    · exact hx z
    · exact absurd (Nat.lt_of_lt_of_le (Heap.lt_size e) z) (Nat.lt_irrefl _)
  have cellK : ∀ x c, X.env.cells.lookup x = some c → ∀ v, s.heap.IsCell c v → h'.IsCell c v := fun x c e v ⟨o, ho, hd⟩ => by
    have nch : c ∉ ch := fun z => (hch c z).2.2.1 x c e rfl
    by_cases hc : c ∈ X.fs
    · obtain ⟨sl, q⟩ := slot c o (I.cne x c e) hc nch ho (I.freeC x c e)
      exact ⟨_, q, hd⟩
    · exact ⟨o, keep c o (I.cne x c e) hc nch ho (I.freeC x c e), hd⟩
  refine ⟨I.ok, I.os, hg, ⟨fun b o e n hb hx => ?_, fun b o e n hb hx => ?_, fun b o e n hx => ?_, fun b o e hx => ?_, fun b xs e => tups b xs (I.base.tups b xs e), fun b o xs e => frzs b o xs (I.base.frzs b o xs e), fun b ps e => ?_⟩, ?_, fun x c e => ?_, ?_, fun x c e => ?_, fun p hp => ?_, hok, I.len⟩
  · exact keep b o (neL b o e) hb (neC b o e hx) (I.base.keep b o e n hb hx) (I.base.free b o e n hx)
  · obtain ⟨sl, e1⟩ := I.base.slot b o e n hb hx
    obtain ⟨sl', e2⟩ := slot b _ (neL b o e) hb (neC b o e hx) e1 (I.base.free b o e n hx)
    exact ⟨sl', e2⟩
  · obtain ⟨o', e1⟩ := I.base.there b o e hx
    exact free b o' (neC b o e hx) e1 (I.base.free b o e n hx)
  · obtain ⟨o', e1⟩ := I.base.there b o e hx
    exact there b o' (neC b o e hx) e1
  · obtain ⟨m1, e1⟩ := I.base.tbls b ps e
    obtain ⟨m2, e2⟩ := tbls b _ e1
    exact ⟨m1 ++ m2, by rw [e2, Array.append_assoc]⟩
  · obtain ⟨m, hn, hl⟩ := I.loc
    refine ⟨m, ns m hn, fun i x v e1 e2 e3 => ?_⟩
    obtain ⟨u, r, l⟩ := hl i x v e1 e2 e3
    refine ⟨u, r, ?_⟩
    rcases l with l | ⟨k, c, e, z⟩
    · exact .inl l
    · exact .inr ⟨k, c, e, cellK x c e _ z⟩
  · obtain ⟨v, z⟩ := I.cell x c e
    exact ⟨v, cellK x c e v z⟩
  · obtain ⟨m, ⟨o, _, _, ho, _⟩, _⟩ := I.loc
    exact free _ o (fun z => (hch _ z).2.1 rfl) ho I.free
  · obtain ⟨v, o, ho, hd⟩ := I.cell x c e
    exact free c o (fun z => (hch c z).2.2.1 x c e rfl) ho (I.freeC x c e)
  · obtain ⟨e, n, ne, nf, d⟩ := I.pin p hp
    have nch : p.1 ∉ ch := fun z => (hch p.1 z).2.2.2 p hp rfl
    exact ⟨keep p.1 p.2 ne nf nch e n, free p.1 p.2 nch e n, ne, nf, d⟩
/-- .. where the frame's own object is kept too -/
theorem Inv.un {t' : Nat} (I : Inv X pins σ H s) (u : Un X.fs [] H H' s.heap h') (hok : HOk X.prog X.w H' h') : Inv X pins σ H' { s with heap := h', toks := t' } := by
  obtain ⟨m, ⟨o, es, ep, ho, r⟩, _⟩ := id I.loc
  obtain ⟨sl, hL⟩ := u.any ho I.free (by simp)
  exact I.step (g' := s.gens) (d' := s.drawn) (ch := []) (fun _ z => nomatch z) (fun b o _ hb _ e n => u.keep b o e n hb (by simp)) (fun b o _ hb _ e n => u.slot b o e n hb (by simp)) (fun b o _ e n => u.free b o e n (by simp)) (fun b o _ e => u.there b o e (by simp)) u.tups u.frzs u.tbls (fun m' hm => by
    obtain ⟨o', es', ep', ho', r'⟩ := hm
    rw [ho] at ho'; cases ho'
    exact ⟨_, es', ep', hL, r'⟩) hok I.bare
/-- behind a call (or a comprehension's block): the slots of this frame may have changed too, the records at ch may have turned -/
theorem Inv.call {g' : Array GenState} {t' : Nat} {d' : Drawn} {ch : List Addr} (I : Inv X pins σ H s) (u : Un (frs X.stack) ch H H' s.heap h') (hok : HOk X.prog X.w H' h') (hg : AllBare g')
    (hch : ∀ b ∈ ch, (b ∈ X.ex ∨ X.s₀.heap.objs.size ≤ b) ∧ b ≠ X.env.locals ∧ (∀ x c, X.env.cells.lookup x = some c → c ≠ b) ∧ ∀ p ∈ X.pn ++ pins, p.1 ≠ b) :
    Inv X pins σ H' { s with heap := h', gens := g', drawn := d', toks := t' } := by
  obtain ⟨m, ⟨o, es, ep, ho, r⟩, _⟩ := id I.loc
  obtain ⟨sl, hL⟩ := u.any ho I.free fun z => (hch _ z).2.1 rfl
  exact I.step (ch := ch) hch (fun b o hL hb hc e n => u.keep b o e n (fun z => (List.mem_cons.mp (I.stkSub b z)).elim hL hb) hc) (fun b o _ _ hc e n => u.any e n hc) (fun b o hc e n => u.free b o e n hc) (fun b o hc e => u.there b o e hc) u.tups u.frzs u.tbls (fun m' hm => by
    obtain ⟨o', es', ep', ho', r'⟩ := hm
    rw [ho] at ho'; cases ho'
    exact ⟨_, es', ep', hL, r'⟩) hok hg
/-- an untracked record of ours (an iterator) has turned -/
theorem Inv.turned {t' : Nat} {it : Addr} (I : Inv X pins σ H s) (k : ∀ b o, b ≠ it → s.heap.get? b = some o → h'.get? b = some o) (hn : H it = none) (hL : it ≠ X.env.locals)
    (h1 : it ∈ X.ex ∨ X.s₀.heap.objs.size ≤ it) (h2 : ∀ x c, X.env.cells.lookup x = some c → c ≠ it) (h3 : ∀ p ∈ X.pn ++ pins, p.1 ≠ it) : Inv X pins σ H { s with heap := h', toks := t' } := by
  have nit : ∀ b u, H b = some u → b ≠ it := fun b u e z => by rw [z, hn] at e; cases e
  refine I.step (g' := s.gens) (d' := s.drawn) (ch := [it]) (fun b hb => ?_) (fun b o _ _ hc e _ => k b o (fun z => hc (by simp [z])) e) (fun b o _ _ hc e _ => ⟨o.slots, k b o (fun z => hc (by simp [z])) e⟩) (fun _ _ _ _ n => n)
    (fun b o hc e => ⟨o, k b o (fun z => hc (by simp [z])) e⟩) (fun _ _ e => e) (fun _ _ _ e => e) (fun b ps e => ⟨#[], by rw [e]; simp⟩) (fun m hm => ?_) (fun b u e => ?_) I.bare
  · have e : b = it := by simpa using hb
    subst e
    exact ⟨h1, hL, h2, h3⟩
  · obtain ⟨o, es, ep, ho, r⟩ := hm
    exact ⟨o, es, ep, k _ o (Ne.symm hL) ho, r⟩
  · refine (I.hok b u e).stay (fun c v hc q => k c v ?_ q) (fun _ q => q) fun _ _ q => q
    rcases hc with z | z
    · rw [z]; exact nit b u e
    · exact nit c _ z
theorem Inv.tok (I : Inv X pins σ H s) (t : Nat) : Inv X pins σ H { s with toks := t } := I.un (h' := s.heap) (t' := t) Un.refl I.hok
/-- all objects kept -/
theorem Inv.kept {t' : Nat} (I : Inv X pins σ H s) (k : ∀ b u, s.heap.get? b = some u → h'.get? b = some u) : Inv X pins σ H { s with heap := h', toks := t' } := I.un (Un.kept k) (I.hok.kept k)
/-- a new object laid and tracked -/
theorem Inv.laid {a : Addr} {o : HO} {t' : Nat} (I : Inv X pins σ H s) (k : ∀ b u, s.heap.get? b = some u → h'.get? b = some u) (hp : s.heap.objs.size ≤ a) (new : ObjOk X.prog X.w (upd H a o) h' a o) :
    Inv X pins σ (upd H a o) { s with heap := h', toks := t' } := I.un (Un.laid k hp (I.hok.fresh hp)) (I.hok.laid k hp new)
/-- an object written -/
theorem Inv.write {x e : Addr} {o : HO} {t' : Nat} (I : Inv X pins σ H s) (mu : Mut (H x)) (he : e = x ∨ H e = some (.own x)) (k : ∀ b u, b ≠ e → s.heap.get? b = some u → h'.get? b = some u) (heo : ∃ u, h'.get? e = some u)
    (new : ObjOk X.prog X.w (upd H x o) h' x o) : Inv X pins σ (upd H x o) { s with heap := h', toks := t' } := I.un (Un.write mu he k heo) (I.hok.write mu he k heo new)
theorem Inv.pins_of {pins' : List (Addr × Obj)} (I : Inv X pins σ H s) (h : ∀ p ∈ pins', s.heap.get? p.1 = some p.2 ∧ H p.1 = none ∧ p.1 ≠ X.env.locals ∧ p.1 ∉ X.fs ∧ ∀ v, p.2.data ≠ .cell v) : Inv X pins' σ H s :=
  ⟨I.ok, I.os, I.bare, I.base, I.loc, I.cell, I.free, I.freeC, fun p hp => (List.mem_append.mp hp).elim (fun z => I.pin p (List.mem_append_left _ z)) (h p), I.hok, I.len⟩

theorem nodup_ix {N : List Str} (hN : N.Nodup) {i j : Nat} {x : Str} (a : N[i]? = some x) (b : N[j]? = some x) : i = j := by
  obtain ⟨h1, e1⟩ := List.getElem?_eq_some_iff.mp a
  obtain ⟨h2, e2⟩ := List.getElem?_eq_some_iff.mp b
  exact (List.getElem_inj hN).mp (e1.trans e2.symm)

/-- a name is stored; what changed -/
theorem store_ok2 {M : Model} {A : Around} {E : Value → Shared → Prop} {i : Nat} {x : Str} {v : V} {u : Value} {Q : Unit → Shared → Prop} (I : Inv X pins σ H s) (hN : X.N.Nodup) (hi : X.N[i]? = some x) (hx : Loc X.env.scope x) (r : RelV v u)
    (h : ∀ s', Inv X pins (σ.set i (some v)) H s' → (∃ a, Heap.SameBut a s.heap s'.heap ∧ (a = X.env.locals ∨ X.env.cells.lookup x = some a)) → Q () s') (hf : X.fn x = true ∨ X.env.scope.names.lookup x = some .local := by first | exact .inl rfl | exact .inr rfl | assumption) : wpAny M A (storeName X.env x u) Q E s := by
  obtain ⟨m, hn, hl⟩ := id I.loc
  have hcls : (X.env.scope.kind == .class || (X.env.scope.kind == .module && X.env.locals != X.env.globals)) = false := by rw [I.ok.kind]; rfl
  have hiσ : i < σ.length := by rw [I.len]; exact (List.getElem?_eq_some_iff.mp hi).1
  have cne := I.cne
  have tracked : ∀ {a : Addr} {h' : Heap}, (∃ o, s.heap.get? a = some o ∧ H a = none) → Heap.SameBut a s.heap h' → HOk X.prog X.w H h' := fun {a h'} ha hs b ob e => by
    obtain ⟨_, _, hfree⟩ := ha
    refine (I.hok b ob e).stay (fun c w' hc q => (hs.2 c ?_).trans q) (fun _ q => q) fun _ _ q => q
    rintro rfl
    rcases hc with rfl | hc
    · rw [hfree] at e; cases e
    · rw [hfree] at hc; cases hc
  rcases hx with hk | hk
  · refine wpAny_storeName_local hk hn (fun h' hn' hs => ?_) hcls
    obtain ⟨oL, _, _, hoL, _⟩ := id hn
    refine h _ ⟨I.ok, I.os, I.bare, ⟨fun b o e n hb hx => ?_, fun b o e n hb hx => ?_, I.base.free, fun b o e hx => ?_, I.base.tups, I.base.frzs, I.base.tbls⟩, ⟨_, hn', fun j y v' e1 e2 e3 => ?_⟩, fun y c e => ?_, I.free, I.freeC, fun p hp => ?_, tracked ⟨oL, hoL, I.free⟩ hs, by simpa using I.len⟩ ⟨_, hs, .inl rfl⟩
    · exact (hs.2 b (Nat.ne_of_lt (Nat.lt_of_lt_of_le (Heap.lt_size e) I.ok.above))).trans (I.base.keep b o e n hb hx)
    · obtain ⟨sl, e1⟩ := I.base.slot b o e n hb hx
      exact ⟨sl, (hs.2 b (Nat.ne_of_lt (Nat.lt_of_lt_of_le (Heap.lt_size e) I.ok.above))).trans e1⟩
    · obtain ⟨o', e1⟩ := I.base.there b o e hx
      exact ⟨o', (hs.2 b (Nat.ne_of_lt (Nat.lt_of_lt_of_le (Heap.lt_size e) I.ok.above))).trans e1⟩
    · by_cases hj : j = i
      · subst hj
        rw [hi] at e1; cases e1
        rw [List.getElem?_set_self hiσ] at e2
        cases e2
        exact ⟨u, r, .inl ⟨hk, by simp⟩⟩
      · rw [List.getElem?_set_ne (Ne.symm hj)] at e2
        obtain ⟨u', r', q⟩ := hl j y v' e1 e2 e3
        refine ⟨u', r', ?_⟩
        rcases q with ⟨k, e⟩ | ⟨k, c, e, z⟩
        · refine .inl ⟨k, ?_⟩
          have : y ≠ x := fun e => hj (nodup_ix hN e1 (e ▸ hi))
          simp [this, e]
        · exact .inr ⟨k, c, e, z.sameBut hs (cne y c e)⟩
    · obtain ⟨w', z⟩ := I.cell y c e
      exact ⟨w', z.sameBut hs (cne y c e)⟩
    · obtain ⟨e, n, ne, nf, d⟩ := I.pin p hp
      exact ⟨(hs.2 p.1 ne).trans e, n, ne, nf, d⟩
  · have hfn : X.fn x = true := by
      rcases hf with z | z
      · exact z
      · rw [z] at hk; cases hk
    obtain ⟨c, hc⟩ := I.ok.has x (.inl hk)
    obtain ⟨w', z⟩ := I.cell x c hc
    refine wpAny_storeName_cell I.ok.kind hk hc z (fun h' hc' hs => ?_)
    obtain ⟨oc, hoc, hocd⟩ := id z
    refine h { s with heap := h' } ⟨I.ok, I.os, I.bare, ⟨fun b o e n hb hx => ?_, fun b o e n hb hx => ?_, I.base.free, fun b o e hx => ?_, I.base.tups, I.base.frzs, I.base.tbls⟩, ⟨m, hn.sameBut hs (Ne.symm (cne x c hc)), fun j y v' e1 e2 e3 => ?_⟩, fun y c' e => ?_, I.free, I.freeC, fun p hp => ?_, tracked ⟨oc, hoc, I.freeC x c hc⟩ hs, by simpa using I.len⟩ ⟨c, hs, .inr hc⟩
    · exact (hs.2 b (Nat.ne_of_lt (Nat.lt_of_lt_of_le (Heap.lt_size e) (I.ok.cab x c hfn hc)))).trans (I.base.keep b o e n hb hx)
    · obtain ⟨sl, e1⟩ := I.base.slot b o e n hb hx
      exact ⟨sl, (hs.2 b (Nat.ne_of_lt (Nat.lt_of_lt_of_le (Heap.lt_size e) (I.ok.cab x c hfn hc)))).trans e1⟩
    · obtain ⟨o', e1⟩ := I.base.there b o e hx
      exact ⟨o', (hs.2 b (Nat.ne_of_lt (Nat.lt_of_lt_of_le (Heap.lt_size e) (I.ok.cab x c hfn hc)))).trans e1⟩
    · by_cases hj : j = i
      · subst hj
        rw [hi] at e1; cases e1
        rw [List.getElem?_set_self hiσ] at e2
        cases e2
        exact ⟨u, r, .inr ⟨.inl hk, c, hc, hc'⟩⟩
      · rw [List.getElem?_set_ne (Ne.symm hj)] at e2
        obtain ⟨u', r', q⟩ := hl j y v' e1 e2 e3
        refine ⟨u', r', ?_⟩
        rcases q with q | ⟨k, c', e, z'⟩
        · exact .inl q
        · refine .inr ⟨k, c', e, z'.sameBut hs ?_⟩
          rintro rfl
          exact hj (nodup_ix hN e1 (I.ok.inj _ _ _ e hc ▸ hi))
    · by_cases hcc : c' = c
      · subst hcc; exact ⟨_, hc'⟩
      · obtain ⟨w2, z2⟩ := I.cell y c' e
        exact ⟨w2, z2.sameBut hs hcc⟩
    · obtain ⟨e, n, ne, nf, d⟩ := I.pin p hp
      refine ⟨(hs.2 p.1 ?_).trans e, n, ne, nf, d⟩
      intro q
      rw [q, hoc] at e
      have q' : oc = p.2 := Option.some.inj e
      exact d w' (by rw [← q']; exact hocd)
theorem store_ok {M : Model} {A : Around} {E : Value → Shared → Prop} {i : Nat} {x : Str} {v : V} {u : Value} {Q : Unit → Shared → Prop} (I : Inv X pins σ H s) (hN : X.N.Nodup) (hi : X.N[i]? = some x) (hx : Loc X.env.scope x) (r : RelV v u)
    (h : ∀ s', Inv X pins (σ.set i (some v)) H s' → Q () s') (hf : X.fn x = true ∨ X.env.scope.names.lookup x = some .local := by first | exact .inl rfl | exact .inr rfl | assumption) : wpAny M A (storeName X.env x u) Q E s :=
  store_ok2 I hN hi hx r (fun s' I' _ => h s' I') hf
/-- behind a call or a block, the state as it is -/
theorem Inv.call' {s' : Shared} {ch : List Addr} (I : Inv X pins σ H s) (ho : s'.os = s.os) (u : Un (frs X.stack) ch H H' s.heap s'.heap) (hok : HOk X.prog X.w H' s'.heap) (hg : AllBare s'.gens)
    (hch : ∀ b ∈ ch, (b ∈ X.ex ∨ X.s₀.heap.objs.size ≤ b) ∧ b ≠ X.env.locals ∧ (∀ x c, X.env.cells.lookup x = some c → c ≠ b) ∧ ∀ p ∈ X.pn ++ pins, p.1 ≠ b) : Inv X pins σ H' s' := by
  obtain ⟨h', g', d', t', o'⟩ := s'
  have e : o' = s.os := ho
  subst e
  exact I.call (g' := g') (t' := t') (d' := d') u hok hg hch
end

/-! ### the judgements -/
/-- an exception: its class, its own dict's address (where it has one), the abstract heap behind it -/
abbrev XK := Value → Option Addr → Hp → Prop
abbrev St := List (Option V)
abbrev VK := V → Hp → Prop
/-- an expression's reading; a test's; an argument list's -/
abbrev TE := St → Hp → VK → Prop
abbrev TT := St → Hp → (Bool → Hp → Prop) → Prop
abbrev TA := St → Hp → (List V → Hp → Prop) → Prop
/-- what is wanted behind a statement -/
structure Ends where
  nx : St → Hp → Prop
  rt : VK
  bk : St → Hp → Prop := fun _ _ => False
  ct : St → Hp → Prop := fun _ _ => False
abbrev TS := Ends → St → Hp → Prop

def EP (X : Cx) (pins : List (Addr × Obj)) (σ : St) (Q : VK) (u : Value) (s' : Shared) : Prop := ∃ v H', Inv X pins σ H' s' ∧ RelV v u ∧ Q v H'
def TP (X : Cx) (pins : List (Addr × Obj)) (σ : St) (Q : Bool → Hp → Prop) (b : Bool) (s' : Shared) : Prop := ∃ H', Inv X pins σ H' s' ∧ Q b H'
def AP (X : Cx) (pins : List (Addr × Obj)) (σ : St) (Q : List V → Hp → Prop) (us : List Value) (s' : Shared) : Prop := ∃ vs H', Inv X pins σ H' s' ∧ Vals vs us ∧ Q vs H'
def SP (X : Cx) (pins : List (Addr × Obj)) (D : Ends) (f : Flow) (s' : Shared) : Prop :=
  match f with
  | .next => ∃ σ' H', Inv X pins σ' H' s' ∧ D.nx σ' H'
  | .brk => ∃ σ' H', Inv X pins σ' H' s' ∧ D.bk σ' H'
  | .cont => ∃ σ' H', Inv X pins σ' H' s' ∧ D.ct σ' H'
  | .ret u => ∃ v σ' H', Inv X pins σ' H' s' ∧ RelV v u ∧ D.rt v H'

def PE (X : Cx) (e : Expr) (t : TE) : Prop :=
  ∀ (pins : List (Addr × Obj)) (s : Shared) (σ : St) (H : Hp) (Q : VK), Inv X pins σ H s → t σ H Q → wpAny (model X.prog X.w) X.A (eval e X.env) (EP X pins σ Q) X.xe s
def PT (X : Cx) (e : Expr) (t : TT) : Prop :=
  ∀ (pins : List (Addr × Obj)) (s : Shared) (σ : St) (H : Hp) (Q : Bool → Hp → Prop), Inv X pins σ H s → t σ H Q → wpAny (model X.prog X.w) X.A (isTrue e X.env (eval e X.env)) (TP X pins σ Q) X.xe s
/-- a test whatever its 'whole' is (and, or) -/
def PW (X : Cx) (e : Expr) (t : TT) : Prop :=
  ∀ (whole : Sem Value) (pins : List (Addr × Obj)) (s : Shared) (σ : St) (H : Hp) (Q : Bool → Hp → Prop), Inv X pins σ H s → t σ H Q → wpAny (model X.prog X.w) X.A (isTrue e X.env whole) (TP X pins σ Q) X.xe s
theorem PW.pt {X : Cx} {e : Expr} {t : TT} (h : PW X e t) : PT X e t := h _
/-- an argument list (no star), from the left -/
def PA (X : Cx) (es : List Expr) (t : TA) : Prop :=
  ∀ (pos : Pos) (pins : List (Addr × Obj)) (s : Shared) (σ : St) (H : Hp) (Q : List V → Hp → Prop), Inv X pins σ H s → t σ H Q → wpAny (model X.prog X.w) X.A (spliced (backTo pos (starEach es X.env))) (AP X pins σ Q) X.xe s
def PS (X : Cx) (st : Stmt) (t : TS) : Prop :=
  ∀ (pins : List (Addr × Obj)) (s : Shared) (σ : St) (H : Hp) (D : Ends), Inv X pins σ H s → t D σ H → wpAny (model X.prog X.w) X.A (exec st X.env) (SP X pins D) X.xe s
def PSs (X : Cx) (st : List Stmt) (t : TS) : Prop :=
  ∀ (pins : List (Addr × Obj)) (s : Shared) (σ : St) (H : Hp) (D : Ends), Inv X pins σ H s → t D σ H → wpAny (model X.prog X.w) X.A (execs st X.env) (SP X pins D) X.xe s
/-- weaken the end -/
theorem thn {α : Type} {t : Sem α} {Q Q' : α → Shared → Prop} {M : Model} {A : Around} {E : Value → Shared → Prop} {s : Shared} (h : wpAny M A t Q E s) (hQ : ∀ a s, Q a s → Q' a s) : wpAny M A t Q' E s := wpAny_mono h hQ fun _ _ x => x
end L2

namespace L2
open PySem PySem.Spec PyProof.Rows
section
variable {X : Cx}

/-! ### names and constants -/
def tVar (i : Nat) : TE := fun σ H Q => ∃ v, σ[i]? = some (some v) ∧ Q v H
def tC (v : V) : TE := fun _ H Q => Q v H
theorem pe_var {i : Nat} {x : Str} {pos : Pos} (hN : X.N[i]? = some x) (hv : Vis X.env.scope x) (hd : (x == ("__debug__" : Str)) = false := by decide) (hcd : (x == ("__classdict__" : Str)) = false := by decide) : PE X (.Name x pos) (tVar i) := by
  intro pins s σ H Q I h
  obtain ⟨v, e, h⟩ := h
  obtain ⟨m, hn, hl⟩ := I.loc
  obtain ⟨u, r, l⟩ := hl i x v hN e hv
  have fin : EP X pins σ Q u s := ⟨v, H, I, r, h⟩
  rcases l with ⟨hk, hm⟩ | ⟨hk, c, hc, hcell⟩
  · exact wpAny_Name (wpAny_loadName_local I.ok.kind hk hn hm fin) hd
  · rcases hk with hk | hk
    · exact wpAny_Name (wpAny_loadName_cell I.ok.kind hk hc hcell fin) hd
    · exact wpAny_Name (wpAny_loadName_free I.ok.kind hk hc hcell fin hcd) hd
theorem pe_int {i j pos} : PE X (.Constant (.int i) j pos) (tC (.int i)) := fun _ _ _ H _ I h => wpAny_Constant_int ⟨.int i, H, I.tok _, ⟨_, rfl⟩, h⟩
theorem pe_bl {b j pos} : PE X (.Constant (.bool b) j pos) (tC (.bl b)) := fun _ _ _ H _ I h => Constant_bool ⟨.bl b, H, I, rfl, h⟩
theorem pe_non {j pos} : PE X (.Constant .none j pos) (tC .non) := fun _ _ _ H _ I h => Constant_none ⟨.non, H, I, rfl, h⟩
theorem pe_str {x j pos} : PE X (.Constant (.str x) j pos) (tC (.str x)) := fun _ _ _ H _ I h => Calls.Constant_str ⟨.str x, H, I.tok _, ⟨_, rfl⟩, h⟩

/-- a global name of the def -/
def Gl (X : Cx) (x : Str) : Prop := X.env.kindOf x = some .globalImplicit
theorem ld_glob {E : Value → Shared → Prop} {pins : List (Addr × Obj)} {s : Shared} {σ : St} {H : Hp} {x : Str} {u : Value} {pos : Pos} {Q : Value → Shared → Prop} (I : Inv X pins σ H s) (hg : Gl X x) (hm : X.mg x = some u) (h : Q u s)
    (hd : (x == ("__debug__" : Str)) = false := by decide) : wpAny (model X.prog X.w) X.A (eval (.Name x pos) X.env) Q E s :=
  Calls.Name_function_global I.ok.kind hg (Calls.loadGlobal_global (by rw [I.ok.glob]; exact I.mod.glob.keeps I.bk) hm h) hd
theorem ld_blt {E : Value → Shared → Prop} {pins : List (Addr × Obj)} {s : Shared} {σ : St} {H : Hp} {x : Str} {u : Value} {pos : Pos} {Q : Value → Shared → Prop} (I : Inv X pins σ H s) (hg : Gl X x) (hm : X.mg x = none) (hv : bootBuiltins x = some u) (h : Q u s)
    (hn : x ≠ "__name__" := by decide) (hd : (x == ("__debug__" : Str)) = false := by decide) : wpAny (model X.prog X.w) X.A (eval (.Name x pos) X.env) Q E s := by
  obtain ⟨mb, h1, h2⟩ := I.mod.blt
  exact Calls.Name_function_global I.ok.kind hg (Calls.loadGlobal_builtin (by rw [I.ok.glob]; exact I.mod.glob.keeps I.bk) hm (by rw [I.ok.blt]; exact h1.keeps I.bk) ((h2 x hn).trans hv) h) hd
/-- a module's constant, a class, a function, as a value -/
theorem pe_glob {x : Str} {v : V} {u : Value} {pos : Pos} (hg : Gl X x) (hm : X.mg x = some u) (r : RelV v u) (hd : (x == ("__debug__" : Str)) = false := by decide) : PE X (.Name x pos) (tC v) :=
  fun _ _ _ H _ I h => ld_glob I hg hm ⟨v, H, I, r, h⟩ hd
theorem pe_bltn {x : Str} {v : V} {u : Value} {pos : Pos} (hg : Gl X x) (hm : X.mg x = none) (hv : bootBuiltins x = some u) (r : RelV v u) (hn : x ≠ "__name__" := by decide) (hd : (x == ("__debug__" : Str)) = false := by decide) : PE X (.Name x pos) (tC v) :=
  fun _ _ _ H _ I h => ld_blt I hg hm hv ⟨v, H, I, r, h⟩ hn hd

/-! ### arithmetic -/
/-- two ints -/
def t2I (ta tb : TE) (k : Int → Int → Hp → Prop) : St → Hp → Prop := fun σ H => ta σ H fun x H1 => tb σ H1 fun y H2 => ∃ i j, x = .int i ∧ y = .int j ∧ k i j H2
def tAdd (ta tb : TE) : TE := fun σ H Q => t2I ta tb (fun i j H2 => Q (.int (i + j)) H2) σ H
def tSub (ta tb : TE) : TE := fun σ H Q => t2I ta tb (fun i j H2 => Q (.int (i - j)) H2) σ H
/-- the left factor below 2^64 -/
def tMul (ta tb : TE) : TE := fun σ H Q => t2I ta tb (fun i j H2 => (-(2 ^ 64) < i ∧ i < 2 ^ 64) ∧ Q (.int (i * j)) H2) σ H
variable {a b : Expr} {ta tb : TE} {pos : Pos}
/-! ### comparisons -/
def PC (X : Cx) (op : CmpOp) (a b : Expr) (t : TE) : Prop :=
  ∀ (pins : List (Addr × Obj)) (s : Shared) (σ : St) (H : Hp) (Q : VK), Inv X pins σ H s → t σ H Q →
    wpAny (model X.prog X.w) X.A (eval a X.env) (fun v s₁ => wpAny (model X.prog X.w) X.A (eval b X.env) (fun u s₂ => wpAny (model X.prog X.w) X.A (compareOp op v u) (EP X pins σ Q) X.xe s₂) X.xe s₁) X.xe s
def tCmp (p : Int → Int → Bool) (ta tb : TE) : TE := fun σ H Q => t2I ta tb (fun i j H2 => Q (.bl (p i j)) H2) σ H
abbrev tLt : TE → TE → TE := tCmp fun i j => decide (i < j)
abbrev tLe : TE → TE → TE := tCmp fun i j => decide (i ≤ j)
abbrev tGt : TE → TE → TE := tCmp fun i j => decide (j < i)
abbrev tGe : TE → TE → TE := tCmp fun i j => decide (j ≤ i)
abbrev tEqI : TE → TE → TE := tCmp fun i j => decide (i = j)
abbrev tNeI : TE → TE → TE := tCmp fun i j => !decide (i = j)
/-- is None -/
def tIsN (ta : TE) : TE := fun σ H Q => ta σ H fun x H1 => Q (.bl (decide (x = .non))) H1
def tNotN (ta : TE) : TE := fun σ H Q => ta σ H fun x H1 => Q (.bl (!decide (x = .non))) H1
/-- a comparison as a value, as a test -/
def tB (t : TE) : TT := fun σ H Q => t σ H fun x H1 => ∃ c, x = .bl c ∧ Q c H1
/-- an expression whose value is a bool, as a test -/
theorem pt_val {e : Expr} {t : TE} (h : PE X e t) (he : ∀ whole, isTrue e X.env whole = (do let v ← whole; standAt e.pos; holding [v] (truthy v)) := by intro _; rfl) : PT X e (tB t) := by
  intro pins s σ H Q I hw
  refine isTrue_plain (thn (h pins s σ H _ I hw) fun v s1 ⟨x, H1, I1, r1, q1⟩ => ?_) (he _)
  obtain ⟨d, rfl, q⟩ := q1
  cases r1
  exact wpAny_truthy_bool ⟨H1, I1, q⟩

/-! ### and, or, not -/
variable {tA tB' : TT} {rest : List Expr}
def tAnd (t u : TT) : TT := fun σ H Q => t σ H fun c H1 => if c = true then u σ H1 Q else Q false H1
def tOr (t u : TT) : TT := fun σ H Q => t σ H fun c H1 => if c = true then Q true H1 else u σ H1 Q
def tNot (t : TT) : TT := fun σ H Q => t σ H fun c H1 => Q (!c) H1
theorem pw_or1 (ha : PT X a tA) : PW X (.BoolOp .Or [a] pos) tA := by
  intro wh pins s σ H Q I h
  refine isTrue_or (thn (ha pins s σ H Q I h) fun c s1 e => ?_)
  cases c with
  | false => exact isTrue_or_nil e
  | true => exact e
theorem pw_or (ha : PT X a tA) (hb : PW X (.BoolOp .Or (b :: rest) pos) tB') : PW X (.BoolOp .Or (a :: b :: rest) pos) (tOr tA tB') := by
  intro wh pins s σ H Q I h
  refine isTrue_or (thn (ha pins s σ H _ I h) fun c s1 ⟨H1, I1, q1⟩ => ?_)
  cases c with
  | true => exact ⟨H1, I1, q1⟩
  | false => exact hb wh pins s1 σ H1 Q I1 q1
theorem pt_not (ha : PT X a tA) : PT X (.UnaryOp .Not a pos) (tNot tA) := by
  intro pins s σ H Q I h
  exact isTrue_not (ha pins s σ H (fun c H1 => Q (!c) H1) I h)
/-- .. as values (bools) -/
def tAndV (ta tb : TE) : TE := fun σ H Q => ta σ H fun x H1 => ∃ c, x = .bl c ∧ if c = true then tb σ H1 Q else Q (.bl false) H1
def tOrV (ta tb : TE) : TE := fun σ H Q => ta σ H fun x H1 => ∃ c, x = .bl c ∧ if c = true then Q (.bl true) H1 else tb σ H1 Q
def tNotV (ta : TE) : TE := fun σ H Q => ta σ H fun x H1 => ∃ c, x = .bl c ∧ Q (.bl (!c)) H1
theorem pe_one {op} {t : TE} (h : PE X a t) : PE X (.BoolOp op [a] pos) t := fun pins s σ H Q I hw => BoolOp_one (h pins s σ H Q I hw)
theorem pe_and (ha : PE X a ta) (hb : PE X (.BoolOp .And (b :: rest) pos) tb) : PE X (.BoolOp .And (a :: b :: rest) pos) (tAndV ta tb) := by
  intro pins s σ H Q I h
  refine BoolOp_and (thn (ha pins s σ H _ I h) fun v s1 ⟨x, H1, I1, r1, q1⟩ => ?_)
  obtain ⟨c, rfl, q1⟩ := q1
  cases r1
  refine wpAny_truthy_bool ?_
  cases c with
  | true => exact hb pins s1 σ H1 Q I1 q1
  | false => exact ⟨.bl false, H1, I1, rfl, q1⟩
/-- a if t else b -/
def tIf (t : TT) (ta tb : TE) : TE := fun σ H Q => t σ H fun c H1 => if c = true then ta σ H1 Q else tb σ H1 Q
theorem pe_ifExp {c : Expr} (hc : PT X c tA) (ha : PE X a ta) (hb : PE X b tb) : PE X (.IfExp c a b pos) (tIf tA ta tb) := by
  intro pins s σ H Q I h
  refine wpAny_IfExp (thn (hc pins s σ H _ I h) fun d s1 ⟨H1, I1, q1⟩ => ?_)
  cases d with
  | true => exact ha pins s1 σ H1 Q I1 q1
  | false => exact hb pins s1 σ H1 Q I1 q1
end
end L2

namespace L2
open PySem PySem.Spec PyProof.Rows

/-! ### a list, a tuple that is read: tracked, frozen, or an object of the module -/
def SqL (K : PySem.W.Frag) (H : Hp) (a : Addr) (xs : List V) : Prop :=
  Rd H a (.lst xs) ∨
    ∃ (o : Obj) (its : Array Value) (n : Nat), K.lookup a = some o ∧ o.cls = .type "list" ∧ o.dict = none ∧ o.data = .seq its n ∧ its.size ≤ sizeLine ∧ Vals xs its.toList
def SqT (K : PySem.W.Frag) (H : Hp) (a : Addr) (xs : List V) : Prop :=
  Rd H a (.tup xs) ∨
    ∃ (o : Obj) (its : Array Value) (n : Nat), K.lookup a = some o ∧ o.cls = .type "tuple" ∧ o.data = .seq its n ∧ its.size ≤ sizeLine ∧ Vals xs its.toList
def absV : Value → Option V
  | .none => some .non
  | .bool b => some (.bl b)
  | .int i _ => some (.int i)
  | .str x _ => some (.str x)
  | .bytes b _ => some (.byt b)
  | .float b _ => some (.flt b)
  | .ref a => some (.ref a)
  | .type n => some (.ty n)
  | _ => none
theorem RelV.abs {x : V} {u : Value} (r : RelV x u) : absV u = some x := by
  cases x with
  | non => cases r; rfl
  | bl _ => cases r; rfl
  | int _ => obtain ⟨t, rfl⟩ := r; rfl
  | str _ => obtain ⟨t, rfl⟩ := r; rfl
  | byt _ => obtain ⟨t, rfl⟩ := r; rfl
  | flt _ => obtain ⟨t, rfl⟩ := r; rfl
  | ref _ => cases r; rfl
  | ty _ => cases r; rfl
theorem RelV.inj {x y : V} {u : Value} (r : RelV x u) (q : RelV y u) : x = y := Option.some.inj (r.abs.symm.trans q.abs)
theorem Vals.inj : ∀ {xs ys : List V} {us : List Value}, Vals xs us → Vals ys us → xs = ys
  | _, _, _, .nil, .nil => rfl
  | _, _, _, .cons r t, .cons r' t' => by rw [r.inj r', Vals.inj t t']
section
variable {X : Cx} {pins : List (Addr × Obj)} {σ : St} {H : Hp} {s : Shared} {a : Addr} {xs ys : List V}
theorem SqL.of {K : PySem.W.Frag} (h : H a = some (.lst xs)) : SqL K H a xs := .inl (.inl h)
theorem SqT.of {K : PySem.W.Frag} (h : H a = some (.tup xs)) : SqT K H a xs := .inl (.inl h)
theorem Inv.list (I : Inv X pins σ H s) (h : SqL X.K H a xs) : ∃ its : List Value, Vals xs its ∧ PlainL s.heap a its.toArray ∧ xs.length ≤ sizeLine := by
  rcases h with h | ⟨o, its, n, hk, hc, hd, hs, hz, r⟩
  · obtain ⟨z, its, n, r, e⟩ := h.ok I.hok
    exact ⟨its, r, ⟨_, n, e, rfl, rfl, rfl⟩, z⟩
  · refine ⟨its.toList, r, ⟨o, n, I.kIn a o hk, hc, hd, by simpa using hs⟩, ?_⟩
    have e := r.length
    simp only [Array.length_toList] at e
    omega
theorem Inv.tuple (I : Inv X pins σ H s) (h : SqT X.K H a xs) : ∃ its : List Value, Vals xs its ∧ IsTup s.heap a its.toArray ∧ xs.length ≤ sizeLine := by
  rcases h with h | ⟨o, its, n, hk, hc, hs, hz, r⟩
  · obtain ⟨z, its, r, p⟩ := h.ok I.hok
    exact ⟨its, r, p, z⟩
  · refine ⟨its.toList, r, ⟨o, I.kIn a o hk, hc, n, by simpa using hs⟩, ?_⟩
    have e := r.length
    simp only [Array.length_toList] at e
    omega
theorem Inv.list_inj (I : Inv X pins σ H s) (h : SqL X.K H a xs) (h' : SqL X.K H a ys) : xs = ys := by
  obtain ⟨its, r, ⟨o, n, e, _, _, d⟩, _⟩ := I.list h
  obtain ⟨its', r', ⟨o', n', e', _, _, d'⟩, _⟩ := I.list h'
  rw [e] at e'; cases e'
  rw [d] at d'
  injection d' with d1 _
  have : its = its' := by simpa using congrArg Array.toList d1
  subst this
  exact r.inj r'
end

/-! ### another wish about exceptions -/
abbrev Cx.wish (X : Cx) (E : Value → Shared → Prop) : Cx := { X with xe := E }
/-- no exception leaves -/
abbrev Cx.nox (X : Cx) : Cx := X.wish fun _ _ => False
theorem Cx.Ok.wish {X : Cx} (ok : X.Ok) (E : Value → Shared → Prop) : (X.wish E).Ok :=
  ⟨ok.mod, ok.kind, ok.glob, ok.blt, ok.above, ok.inj, ok.has, ok.cab, ok.hd, ok.frames, ok.stk, ok.exf, ok.bs, ok.bsz, ok.noex, ok.exfs, ok.funs, ok.frf⟩
theorem Cx.Ok.unwish {X : Cx} {E : Value → Shared → Prop} (ok : (X.wish E).Ok) : X.Ok :=
  ⟨ok.mod, ok.kind, ok.glob, ok.blt, ok.above, ok.inj, ok.has, ok.cab, ok.hd, ok.frames, ok.stk, ok.exf, ok.bs, ok.bsz, ok.noex, ok.exfs, ok.funs, ok.frf⟩
section
variable {X : Cx} {pins : List (Addr × Obj)} {σ : St} {H : Hp} {s : Shared} {E : Value → Shared → Prop}
theorem Inv.wish (I : Inv X pins σ H s) (E : Value → Shared → Prop) : Inv (X.wish E) pins σ H s := ⟨I.ok.wish E, I.os, I.bare, I.base, I.loc, I.cell, I.free, I.freeC, I.pin, I.hok, I.len⟩
theorem Inv.unwish (I : Inv (X.wish E) pins σ H s) : Inv X pins σ H s := ⟨I.ok.unwish, I.os, I.bare, I.base, I.loc, I.cell, I.free, I.freeC, I.pin, I.hok, I.len⟩
theorem SP.unwish {D : Ends} {f : Flow} {s' : Shared} (h : SP (X.wish E) pins D f s') : SP X pins D f s' := by
  cases f with
  | next => obtain ⟨σ', H', I, q⟩ := h; exact ⟨σ', H', I.unwish, q⟩
  | brk => obtain ⟨σ', H', I, q⟩ := h; exact ⟨σ', H', I.unwish, q⟩
  | cont => obtain ⟨σ', H', I, q⟩ := h; exact ⟨σ', H', I.unwish, q⟩
  | ret u => obtain ⟨v, σ', H', I, r, q⟩ := h; exact ⟨v, σ', H', I.unwish, r, q⟩
theorem PSs.nox {st : List Stmt} {t : TS} (h : PSs X.nox st t) : PSs X st t := fun pins s σ H D I hw =>
  wpAny_mono (h pins s σ H D (I.wish _) hw) (fun _ _ q => q.unwish) fun _ _ z => False.elim z
end

/-! ### blocks and small statements -/
section
variable {X : Cx} {st : Stmt} {rest : List Stmt} {t u : TS} {e : Expr} {te : TE} {pos : Pos}
def tNext : TS := fun D σ H => D.nx σ H
def tSeq (t u : TS) : TS := fun D σ H => t { D with nx := u D } σ H
theorem pss_nil : PSs X [] tNext := fun _ _ σ H _ I h => wpAny_execs_nil ⟨σ, H, I, h⟩
theorem pss_cons (h1 : PS X st t) (h2 : PSs X rest u) : PSs X (st :: rest) (tSeq t u) := by
  intro pins s σ H D I h
  refine wpAny_execs_cons (thn (h1 pins s σ H { D with nx := u D } I h) fun f s1 q => ?_)
  cases f with
  | next =>
    obtain ⟨σ', H', I', q⟩ := q
    exact h2 pins s1 σ' H' D I' q
  | ret v => exact q
  | brk => exact q
  | cont => exact q
theorem pss_one (h1 : PS X st t) : PSs X [st] t := by
  intro pins s σ H D I h
  refine wpAny_execs_cons (thn (h1 pins s σ H D I h) fun f s1 q => ?_)
  cases f with
  | next => exact wpAny_execs_nil q
  | ret v => exact q
  | brk => exact q
  | cont => exact q
def tBreak : TS := fun D σ H => D.bk σ H
def tCont : TS := fun D σ H => D.ct σ H
/-- in a def's body nothing is shown -/
theorem Inv.quiet {pins : List (Addr × Obj)} {σ : St} {H : Hp} {s : Shared} (I : Inv X pins σ H s) : interactive X.env = false := by simp [interactive, I.ok.kind]
/-- an expression whose value is dropped -/
def tDrop (te : TE) : TS := fun D σ H => te σ H fun _ H1 => D.nx σ H1
theorem ps_expr (he : PE X e te) (hs : swapsWith e none pos.line X.env = pure false := by rfl) : PS X (.Expr e pos) (tDrop te) := by
  intro pins s σ H D I h
  exact wpAny_Expr_any (thn (he pins s σ H _ I h) fun v s1 ⟨x, H1, I1, r1, q1⟩ => ⟨σ, H1, I1, q1⟩) I.quiet hs
def tRet (te : TE) : TS := fun D σ H => te σ H D.rt
theorem ps_ret (he : PE X e te) : PS X (.Return (some e) pos) (tRet te) := by
  intro pins s σ H D I h
  exact wpAny_Return_some (thn (he pins s σ H _ I h) fun v s1 ⟨x, H1, I1, r1, q1⟩ => ⟨x, σ, H1, I1, r1, q1⟩)
def tRetN : TS := fun D _ H => D.rt .non H
def tIfS (c : TT) (t u : TS) : TS := fun D σ H => c σ H fun b H1 => if b = true then t D σ H1 else u D σ H1
theorem ps_if {c : Expr} {a b : List Stmt} {tc : TT} (hc : PT X c tc) (ha : PSs X a t) (hb : PSs X b u) : PS X (.If c a b pos) (tIfS tc t u) := by
  intro pins s σ H D I h
  refine wpAny_If (thn (hc pins s σ H _ I h) fun d s1 ⟨H1, I1, q1⟩ => ?_)
  cases d with
  | true => exact ha pins s1 σ H1 D I1 q1
  | false => exact hb pins s1 σ H1 D I1 q1
/-- code that the proof never comes to -/
def tNever : TS := fun _ _ _ => False
theorem ps_never : PS X st tNever := fun _ _ _ _ _ _ h => h.elim
end

/-! ### targets -/
abbrev TG := V → St → Hp → (St → Hp → Prop) → Prop
abbrev TGs := List V → St → Hp → (St → Hp → Prop) → Prop
def PG (X : Cx) (target : Expr) (t : TG) : Prop :=
  ∀ (pins : List (Addr × Obj)) (s : Shared) (σ : St) (H : Hp) (v : V) (u : Value) (Q : St → Hp → Prop), Inv X pins σ H s → RelV v u → t v σ H Q →
    wpAny (model X.prog X.w) X.A (assign target X.env u) (fun _ s' => ∃ σ' H', Inv X pins σ' H' s' ∧ Q σ' H') X.xe s
/-- several targets, one after another -/
def PGs (X : Cx) (ts : List Expr) (t : TGs) : Prop :=
  ∀ (pins : List (Addr × Obj)) (s : Shared) (σ : St) (H : Hp) (vs : List V) (us : List Value) (Q : St → Hp → Prop), Inv X pins σ H s → Vals vs us → t vs σ H Q →
    wpAny (model X.prog X.w) X.A (assignInOrder ((assignEach ts X.env).map (·.2)) us) (fun _ s' => ∃ σ' H', Inv X pins σ' H' s' ∧ Q σ' H') X.xe s
/-- o[i] = v, by values -/
abbrev TSet := V → V → V → Hp → (Hp → Prop) → Prop
def PSet (X : Cx) (t : TSet) : Prop :=
  ∀ (pins : List (Addr × Obj)) (s : Shared) (σ : St) (H : Hp) (o i v : V) (ov iv u : Value) (Q : Hp → Prop), Inv X pins σ H s → RelV o ov → RelV i iv → RelV v u → t o i v H Q →
    wpAny (model X.prog X.w) X.A (setItem ov iv u) (fun _ s' => ∃ H', Inv X pins σ H' s' ∧ Q H') X.xe s
/-- a op= b, by values -/
abbrev TIp := V → V → Hp → VK → Prop
def PIp (X : Cx) (op : Operator) (t : TIp) : Prop :=
  ∀ (pins : List (Addr × Obj)) (s : Shared) (σ : St) (H : Hp) (x y : V) (v u : Value) (Q : VK), Inv X pins σ H s → RelV x v → RelV y u → t x y H Q →
    wpAny (model X.prog X.w) X.A (inplaceOp op v u) (EP X pins σ Q) X.xe s
section
variable {X : Cx} {pos : Pos}
def gName (i : Nat) : TG := fun v σ H Q => Q (σ.set i (some v)) H
theorem pg_name {i : Nat} {x : Str} (hN : X.N.Nodup) (hi : X.N[i]? = some x) (hx : Loc X.env.scope x) (hf : X.fn x = true ∨ X.env.scope.names.lookup x = some .local := by first | exact .inl rfl | exact .inr rfl | assumption) : PG X (.Name x pos) (gName i) := by
  intro pins s σ H v u Q I r h
  exact wpAny_assign_Name (store_ok I hN hi hx r (fun s' I' => ⟨_, H, I', h⟩) hf)
def gNil : TGs := fun vs σ H Q => vs = [] ∧ Q σ H
def gCons (t : TG) (u : TGs) : TGs := fun vs σ H Q => ∃ v r, vs = v :: r ∧ t v σ H fun σ' H' => u r σ' H' Q
theorem pgs_nil : PGs X [] gNil := by
  intro pins s σ H vs us Q I r h
  obtain ⟨e, h⟩ := h
  subst e
  cases r
  exact assignInOrder_nil ⟨σ, H, I, h⟩
theorem pgs_cons {e : Expr} {es : List Expr} {t : TG} {u : TGs} (h1 : PG X e t) (h2 : PGs X es u)
    (hs : (assignEach (e :: es) X.env).map (·.2) = assign e X.env :: (assignEach es X.env).map (·.2) := by rfl) : PGs X (e :: es) (gCons t u) := by
  intro pins s σ H vs us Q I r h
  obtain ⟨v, vr, e1, h⟩ := h
  subst e1
  cases r with
  | cons r rr =>
    rw [hs]
    refine assignInOrder_cons (thn (h1 pins s σ H _ _ _ I r h) fun _ s1 ⟨σ1, H1, I1, q1⟩ => ?_)
    exact h2 pins s1 σ1 H1 _ _ Q I1 rr q1
/-- (a, b, ..) = a tuple of that length -/
def gTup (K : PySem.W.Frag) (n : Nat) (t : TGs) : TG := fun v σ H Q => ∃ a xs, v = .ref a ∧ SqT K H a xs ∧ xs.length = n ∧ t xs σ H Q
theorem pg_tup {es : List Expr} {k : Nat} {t : TGs} {n : Nat} (hc : X.calm = true) (h : PGs X es t)
    (hn : (assignEach es X.env).length = n := by rfl) (hst : (assignEach es X.env).findIdx? (·.1) = none := by rfl) : PG X (.Tuple es k pos) (gTup X.K n t) := by
  intro pins s σ H v u Q I r hw
  obtain ⟨a, xs, e1, hq, hl, hw⟩ := hw
  subst e1
  cases r
  obtain ⟨its, rv, ht, hz⟩ := I.tuple hq
  refine assign_Tuple_tuple (I.ok.hd hc) ht (by simp [hn, ← hl, rv.length]) hst fun h' hx => ?_
  have I1 : Inv X pins σ H { s with heap := h' } := I.kept (t' := s.toks) fun b o e => hx b o (Nat.ne_of_lt (Heap.lt_size e)) e
  exact h pins _ σ H xs _ Q I1 (by simpa using rv) hw
/-- o[i] = .. -/
def gSub (to ti : TE) (t : TSet) : TG := fun v σ H Q => to σ H fun o H1 => ti σ H1 fun i H2 => t o i v H2 fun H3 => Q σ H3
/-- target = value -/
def tAsg (te : TE) (g : TG) : TS := fun D σ H => te σ H fun x H1 => g x σ H1 D.nx
theorem ps_asg {tg e : Expr} {te : TE} {g : TG} (he : PE X e te) (hg : PG X tg g) (hs : swapsWithSole [tg] e pos.line X.env = pure false := by rfl) (hw : swappedStores [tg] e X.env = pure none := by rfl)
    (h1 : (assignEach [tg] X.env).map (·.2) = [assign tg X.env] := by rfl) : PS X (.Assign [tg] e pos) (tAsg te g) := by
  intro pins s σ H D I h
  refine wpAny_Assign_stores (thn (he pins s σ H _ I h) fun v s1 ⟨x, H1, I1, r1, q1⟩ => ?_) hs hw
  rw [h1]
  exact thn (hg pins s1 σ H1 x v _ I1 r1 q1) fun _ s2 q => q
/-- name = value -/
theorem ps_set {i : Nat} {x : Str} {e : Expr} {te : TE} {pos' : Pos} (hN : X.N.Nodup) (hi : X.N[i]? = some x) (hx : Loc X.env.scope x) (he : PE X e te) (hs : swapsWith e (some (.Name x pos')) pos.line X.env = pure false := by rfl) (hf : X.fn x = true ∨ X.env.scope.names.lookup x = some .local := by first | exact .inl rfl | exact .inr rfl | assumption) :
    PS X (.Assign [.Name x pos'] e pos) (tAsg te (gName i)) := by
  intro pins s σ H D I h
  refine wpAny_Assign_Name (thn (he pins s σ H _ I h) fun v s1 ⟨y, H1, I1, r1, q1⟩ => ?_) hs
  exact store_ok I1 hN hi hx r1 (fun s2 I2 => ⟨_, H1, I2, q1⟩) hf
/-- a, b = x, y with plain local names: stored from the right; the pair itself is not tracked (the opening rows as in PyProof/Rows/TupAssign.lean:23) -/
def tPar (i j : Nat) (ta : TA) : TS := fun D σ H => ta σ H fun vs H1 => ∃ v w, vs = [v, w] ∧ D.nx ((σ.set i (some v)).set j (some w)) H1
/-- name op= e -/
def tAug (i : Nat) (te : TE) (ti : TIp) : TS := fun D σ H => ∃ x, σ[i]? = some (some x) ∧ te σ H fun y H1 => ti x y H1 fun z H2 => D.nx (σ.set i (some z)) H2
/-- o[i] op= e -/
def tAugS (to ti te : TE) (tget : V → V → Hp → VK → Prop) (tip : TIp) (tset : TSet) : TS := fun D σ H => to σ H fun o H1 => ti σ H1 fun i H2 => tget o i H2 fun x H3 => te σ H3 fun y H4 => tip x y H4 fun z H5 => tset o i z H5 fun H6 => D.nx σ H6
/-- o[i], by values -/
def PGet (X : Cx) (t : V → V → Hp → VK → Prop) : Prop :=
  ∀ (pins : List (Addr × Obj)) (s : Shared) (σ : St) (H : Hp) (o i : V) (ov iv : Value) (Q : VK), Inv X pins σ H s → RelV o ov → RelV i iv → t o i H Q →
    wpAny (model X.prog X.w) X.A (getItem ov iv) (EP X pins σ Q) X.xe s
/-- ints -/
def ipI (f : Int → Int → Int) : TIp := fun x y H Q => ∃ i j, x = .int i ∧ y = .int j ∧ Q (.int (f i j)) H
end

/-! ### while -/
section
variable {X : Cx} {pos : Pos}
/-- the invariant W with its measure -/
def tWhile (c : TT) (tb : TS) : TS := fun D σ H => ∃ W : Nat → St → Hp → Prop, (∃ m, W m σ H) ∧ ∀ m σ H, W m σ H →
  c σ H fun b H1 => if b = true then ∃ N : St → Hp → Prop, (∀ σ' H', N σ' H' → ∃ m', m' < m ∧ W m' σ' H') ∧ tb { D with nx := N, ct := N, bk := D.nx } σ H1 else D.nx σ H1
theorem ps_while {c : Expr} {body : List Stmt} {tc : TT} {tb : TS} (hp : PassesOwn (model X.prog X.w) X.A X.env X.xe) (hc : PT X c tc) (hb : PSs X body tb) : PS X (.While c body [] pos) (tWhile tc tb) := by
  intro pins s σ H D I h
  obtain ⟨W, ⟨m0, w0⟩, turn⟩ := h
  refine wpAny_While (codeAny_whileLoop (fun n s' => ∃ σ' H', Inv X pins σ' H' s' ∧ W n σ' H') ?_ m0 ⟨σ, H, I, w0⟩)
  rintro n s1 ⟨σ1, H1, I1, w1⟩
  refine wpAny_passesOwn hp (thn (hc pins s1 σ1 H1 _ I1 (turn n σ1 H1 w1)) fun b s2 ⟨H2, I2, q2⟩ => ?_)
  cases b with
  | true =>
    obtain ⟨N, hN, q2⟩ := q2
    rw [if_pos rfl]
    refine wpAny_passesOwn hp (thn (hb pins s2 σ1 H2 _ I2 q2) fun f s3 q3 => ?_)
    cases f with
    | next =>
      obtain ⟨σ3, H3, I3, n3⟩ := q3
      obtain ⟨m', hm, w3⟩ := hN σ3 H3 n3
      exact ⟨m', hm, σ3, H3, I3, w3⟩
    | cont =>
      obtain ⟨σ3, H3, I3, n3⟩ := q3
      obtain ⟨m', hm, w3⟩ := hN σ3 H3 n3
      exact ⟨m', hm, σ3, H3, I3, w3⟩
    | brk => exact q3
    | ret v => exact q3
  | false =>
    rw [if_neg Bool.false_ne_true]
    exact wpAny_execs_nil ⟨σ1, H2, I2, q2⟩
end

/-! ### what a loop or a comprehension walks -/
/-- at turn i: it yields x (the heap may grow), or it stops -/
structure It where
  go : Nat → Hp → Prop
  yld : Nat → Hp → V → Hp → Prop
  stop : Nat → Hp → Prop
/-- the iterator's own objects may turn: they are not the frame's, not pinned, younger than the entry (or a comprehension's own) -/
def FpOk (X : Cx) (pins : List (Addr × Obj)) (H : Hp) (b : Addr) : Prop :=
  H b = none ∧ b ≠ X.env.locals ∧ b ∉ X.fs ∧ (b ∈ X.ex ∨ X.s₀.heap.objs.size ≤ b) ∧ (∀ x c, X.env.cells.lookup x = some c → c ≠ b) ∧ ∀ p ∈ X.pn ++ pins, p.1 ≠ b
theorem Inv.fpOk {X : Cx} {pins : List (Addr × Obj)} {σ : St} {H H' : Hp} {s : Shared} {b : Addr} (I : Inv X pins σ H s) (hb : s.heap.objs.size ≤ b) (hn : H' b = none) : FpOk X pins H' b := by
  refine ⟨hn, Nat.ne_of_gt (Nat.lt_of_lt_of_le I.lt hb), I.nofs hb, .inr (Nat.le_trans I.sz hb), fun x c e z => ?_, fun p hp z => ?_⟩
  · obtain ⟨v, q⟩ := I.cell x c e
    exact absurd (Nat.lt_of_lt_of_le q.lt (by rw [z]; exact hb)) (Nat.lt_irrefl _)
  · exact absurd (Nat.lt_of_lt_of_le (Heap.lt_size (I.pin p hp).1) (by rw [z]; exact hb)) (Nat.lt_irrefl _)
structure Turn (P : Program) (w : World) (K : PySem.W.Frag) (tg : Expr) (J : It) (fp : List Addr) (it : Addr) (tn : Nat → Heap → Prop) : Prop where
  mem : it ∈ fp
  obj : ∀ i h, tn i h → ∀ b ∈ fp, ∃ o, h.get? b = some o ∧ ∀ v, o.data ≠ .cell v
  keep : ∀ i h h', tn i h → (∀ b ∈ fp, ∀ o, h.get? b = some o → h'.get? b = some o) → tn i h'
  item : ∀ (X : Cx), X.prog = P → X.w = w → X.K = K → X.calm = true → ∀ (i : Nat) (pins : List (Addr × Obj)) (s : Shared) (σ : St) (H : Hp) (E : Value → Shared → Prop), Inv X pins σ H s → (∀ b ∈ fp, FpOk X pins H b) → tn i s.heap → J.go i H →
    wpAny (model P w) X.A (pyNext (.ref it)) (fun r s1 => ∃ u, r = some u ∧
      wpAny (model P w) X.A (letOwnedTupleGo tg (.ref it) u) (fun _ s2 => ∃ x H', Inv X pins σ H' s2 ∧ RelV x u ∧ J.yld i H x H' ∧ tn (i + 1) s2.heap ∧ ∀ b ∈ fp, H' b = none) E s1) E s
  done : ∀ (X : Cx), X.prog = P → X.w = w → X.K = K → X.calm = true → ∀ (i : Nat) (pins : List (Addr × Obj)) (s : Shared) (σ : St) (H : Hp) (E : Value → Shared → Prop), Inv X pins σ H s → (∀ b ∈ fp, FpOk X pins H b) → tn i s.heap → J.stop i H →
    wpAny (model P w) X.A (pyNext (.ref it)) (fun r s1 => r = none ∧ Inv X pins σ H s1) E s
  self : ∀ (A : Around) (i : Nat) (s : Shared) (Q : Value → Shared → Prop) (E : Value → Shared → Prop), tn i s.heap → Q (.ref it) s → wpAny (model P w) A (pyIter (.ref it)) Q E s
abbrev TI := St → Hp → (It → Hp → Prop) → Prop
/-- an iterator has come -/
def PIE (X : Cx) (pins : List (Addr × Obj)) (σ : St) (tg : Expr) (R : It → Hp → Prop) (itv : Value) (s2 : Shared) : Prop :=
  ∃ (it : Addr) (fp : List Addr) (tn : Nat → Heap → Prop) (J : It) (H' : Hp), itv = .ref it ∧ Inv X pins σ H' s2 ∧ Turn X.prog X.w X.K tg J fp it tn ∧ tn 0 s2.heap ∧ (∀ b ∈ fp, FpOk X pins H' b) ∧ R J H'
def PI (X : Cx) (tg iter : Expr) (wi : TI) : Prop :=
  ∀ (pins : List (Addr × Obj)) (s : Shared) (σ : St) (H : Hp) (R : It → Hp → Prop), Inv X pins σ H s → wi σ H R →
    wpAny (model X.prog X.w) X.A (eval iter X.env) (fun v s1 => wpAny (model X.prog X.w) X.A (pyIter v) (PIE X pins σ tg R) X.xe s1) X.xe s

/-- the step ahead of the store is nothing for an iterator that keeps no tuple -/
theorem go_of {M : Model} {A : Around} {E : Value → Shared → Prop} {s : Shared} {tg : Expr} {it : Addr} {u : Value} {o : Obj} {n : String} {vs : Array Value} {Q : Unit → Shared → Prop} (ho : s.heap.get? it = some o) (hc : o.cls = .type n) (hd : o.data = .fields vs)
    (hn : ["enumerate", "zip", "dict_itemiterator", "dict_reverseitemiterator", "odict_iterator", "itertools.zip_longest", "itertools.pairwise"].contains n = false) (hQ : Q () s) : wpAny M A (letOwnedTupleGo tg (.ref it) u) Q E s := by
  unfold letOwnedTupleGo
  cases tg <;> first
    | exact wpAny_pure hQ
    | (cases u <;> first
        | exact wpAny_pure hQ
        | (refine wpAny_bind (wpAny_load ho ?_)
           rw [hc, hd]
           show wpAny M A (if (["enumerate", "zip", "dict_itemiterator", "dict_reverseitemiterator", "odict_iterator", "itertools.zip_longest", "itertools.pairwise"].contains n && vs[0]? == some (rawInt _)) = true then _ else _) Q E s
           rw [if_neg (by intro h; rw [hn, Bool.false_and] at h; cases h)]
           exact wpAny_pure hQ))

/-- the list at a, as it stands at each turn (a loop may append to it) -/
def Itl (K : PySem.W.Frag) (a : Addr) : It :=
  ⟨fun i H => ∃ xs x, SqL K H a xs ∧ xs[i]? = some x, fun i H x H' => H' = H ∧ ∀ xs, SqL K H a xs → xs[i]? = some x, fun i H => ∃ xs, SqL K H a xs ∧ xs.length ≤ i⟩
def Itt (K : PySem.W.Frag) (a : Addr) : It :=
  ⟨fun i H => ∃ xs x, SqT K H a xs ∧ xs[i]? = some x, fun i H x H' => H' = H ∧ ∀ xs, SqT K H a xs → xs[i]? = some x, fun i H => ∃ xs, SqT K H a xs ∧ xs.length ≤ i⟩
/-- lo, lo + 1, .. (n of them) -/
def Itr (lo : Int) (n : Nat) : It := ⟨fun i _ => i < n, fun i H x H' => H' = H ∧ x = .int (lo + i), fun i _ => n ≤ i⟩
theorem turn_list {P : Program} {w : World} {K : PySem.W.Frag} {tg : Expr} (a it : Addr) : Turn P w K tg (Itl K a) [it] it (fun i h => h.IsListIter it a i) where
  mem := by simp
  obj := fun i h st b hb => by
    have e : b = it := by simpa using hb
    subst e
    obtain ⟨o, e, c, d⟩ := st
    exact ⟨o, e, fun v z => by rw [d] at z; cases z⟩
  keep := fun i h h' st k => st.at fun o e => k it (by simp) o e
  item := by
    intro X hP hw hK hc i pins s σ H E I hf st hg
    subst hP hw hK
    obtain ⟨xs, x, hq, hx⟩ := hg
    obtain ⟨its, rv, p, hz⟩ := I.list hq
    obtain ⟨u, hu, ru⟩ := rv.get hx
    obtain ⟨f0, f1, f2, f3, f4, f5⟩ := hf it (by simp)
    refine wpAny_pyNext_list_item st p.isList (x := u) (by simpa using hu) fun h' st' sb => ?_
    have I1 : Inv X pins σ H { s with heap := h' } := I.turned (t' := s.toks) (fun b o hb e => (sb.2 b hb).trans e) f0 f1 f3 f4 f5
    obtain ⟨o, e, c, d⟩ := id st'
    exact ⟨u, rfl, go_of (s := { s with heap := h' }) e c d (by decide) ⟨x, H, I1, ru, ⟨rfl, fun ys hy => by rw [I.list_inj hy hq]; exact hx⟩, st', fun b hb => (hf b hb).1⟩⟩
  done := by
    intro X hP hw hK hc i pins s σ H E I hf st hg
    subst hP hw hK
    obtain ⟨xs, hq, hx⟩ := hg
    obtain ⟨its, rv, p, hz⟩ := I.list hq
    obtain ⟨f0, f1, f2, f3, f4, f5⟩ := hf it (by simp)
    have hl := rv.length
    exact wpAny_pyNext_list_end (I.ok.hd hc) st p.isList (by simp; omega) fun h' eb => ⟨rfl, I.turned (t' := s.toks) (fun b o hb e => eb b o hb e) f0 f1 f3 f4 f5⟩
  self := fun _ _ _ _ _ st h => wpAny_pyIter_listiter st h
theorem turn_range {P : Program} {w : World} {K : PySem.W.Frag} {tg : Expr} (it : Addr) (lo : Int) (n : Nat) : Turn P w K tg (Itr lo n) [it] it (fun i h => IsRangeIter h it (lo + (i : Nat) * 1) ((n : Int) - (i : Nat)) 1) where
  mem := by simp
  obj := fun i h st b hb => by
    have e : b = it := by simpa using hb
    subst e
    exact ⟨_, st, fun v z => by
      have z' : Data.fields _ = Data.cell v := z
      cases z'⟩
  keep := fun i h h' st k => k it (by simp) _ st
  item := by
    intro X hP hw hK hc i pins s σ H E I hf st hg
    subst hP hw hK
    obtain ⟨f0, f1, f2, f3, f4, f5⟩ := hf it (by simp)
    have W := Walks.range (prog := X.prog) (w := X.w) (I.ok.hd hc) it lo 1 n
    refine W.item i s _ _ hg st fun v h' tk hv st' kk => ?_
    obtain ⟨t, rfl⟩ := hv
    have I1 : Inv X pins σ H { s with heap := h', toks := tk } := I.turned (fun b o hb e => kk b o (by simpa using hb) e) f0 f1 f3 f4 f5
    refine ⟨_, rfl, go_of (s := { s with heap := h', toks := tk }) (n := "range_iterator") st' rfl rfl (by decide) ⟨.int (lo + i), H, I1, ⟨t, ?_⟩, ⟨rfl, rfl⟩, st', fun b hb => (hf b hb).1⟩⟩
    rw [Int.mul_one]
  done := by
    intro X hP hw hK hc i pins s σ H E I hf st hg
    subst hP hw hK
    obtain ⟨f0, f1, f2, f3, f4, f5⟩ := hf it (by simp)
    exact wpAny_pyNext_range_end (I.ok.hd hc) st (by have : n ≤ i := hg; omega) fun h' eb => ⟨rfl, I.turned (t' := s.toks) (fun b o hb e => eb b o hb e) f0 f1 f3 f4 f5⟩
  self := fun _ _ _ _ _ st h => wpAny_pyIter_rangeiter st h
end L2

namespace L2
open PySem PySem.Spec PyProof.Rows
section
variable {X : Cx} {tg : Expr}
def iList (K : PySem.W.Frag) (tl : TE) : TI := fun σ H R => tl σ H fun x H1 => ∃ a, x = .ref a ∧ (∃ xs, SqL K H1 a xs) ∧ R (Itl K a) H1
def iTup (K : PySem.W.Frag) (tl : TE) : TI := fun σ H R => tl σ H fun x H1 => ∃ a, x = .ref a ∧ (∃ xs, SqT K H1 a xs) ∧ R (Itt K a) H1
theorem pi_list {l : Expr} {tl : TE} (hl : PE X l tl) : PI X tg l (iList X.K tl) := by
  intro pins s σ H R I h
  refine thn (hl pins s σ H _ I h) fun v s1 ⟨x, H1, I1, r1, q1⟩ => ?_
  obtain ⟨a, e, ⟨xs, hq⟩, q⟩ := q1
  subst e
  cases r1
  obtain ⟨its, rv, p, hz⟩ := I1.list hq
  refine wpAny_pyIter_list p.isList ?_
  refine ⟨s1.heap.objs.size, [s1.heap.objs.size], _, _, H1, rfl, I1.kept (t' := s1.toks) fun b o e => Heap.get?_push_of_some _ e, turn_list a _, ⟨_, Heap.get?_push_size _ rfl, rfl, rfl⟩, fun b hb => ?_, q⟩
  have e : b = s1.heap.objs.size := by simpa using hb
  subst e
  exact I1.fpOk (Nat.le_refl _) (I1.hok.fresh (Nat.le_refl _))
/-- a range object just made, walked -/
theorem range_it {pins : List (Addr × Obj)} {σ : St} {H : Hp} {s : Shared} {R : It → Hp → Prop} {E : Value → Shared → Prop} {lo hi : Int} {t u v : Tok} {tk : Nat} (I : Inv X pins σ H s) (h1 : -(2 ^ 62) ≤ lo) (h2 : lo < 2 ^ 62) (h3 : -(2 ^ 62) ≤ hi) (h4 : hi < 2 ^ 62)
    (q : R (Itr lo (hi - lo).toNat) H) : wpAny (model X.prog X.w) X.A (pyIter (.ref s.heap.objs.size)) (PIE X pins σ tg R) E { s with heap := s.heap.push { cls := .type "range", data := .fields #[.int lo t, .int hi u, .int 1 v] }, toks := tk } := by
  refine wpAny_pyIter_range (IsRange.new ..) (small_one h1 h2 h3 h4) ?_
  have I1 : Inv X pins σ H { s with heap := s.heap.push { cls := .type "range", data := .fields #[.int lo t, .int hi u, .int 1 v] }, toks := tk } := I.kept fun b o e => Heap.get?_push_of_some _ e
  refine ⟨(s.heap.push { cls := .type "range", data := .fields #[.int lo t, .int hi u, .int 1 v] }).objs.size, [(s.heap.push { cls := .type "range", data := .fields #[.int lo t, .int hi u, .int 1 v] }).objs.size], _, _, H, rfl,
    I1.kept (t' := tk) fun b o e => Heap.get?_push_of_some _ e, turn_range _ lo (hi - lo).toNat, ?_, fun b hb => ?_, q⟩
  · have e1 : lo + ((0 : Nat) : Int) * 1 = lo := by simp
    have e2 : (((hi - lo).toNat : Nat) : Int) - ((0 : Nat) : Int) = Builtin.Range.rangeSize lo hi 1 := by rw [rangeSize_one]; split <;> omega
    show IsRangeIter _ _ (lo + ((0 : Nat) : Int) * 1) ((((hi - lo).toNat : Nat) : Int) - ((0 : Nat) : Int)) 1
    rw [e1, e2]
    exact Heap.get?_push_size _ rfl
  · have e : b = (s.heap.push { cls := .type "range", data := .fields #[.int lo t, .int hi u, .int 1 v] }).objs.size := by simpa using hb
    subst e
    exact I1.fpOk (Nat.le_refl _) (I1.hok.fresh (Nat.le_refl _))
def iRng1 (ta : TA) : TI := fun σ H R => ta σ H fun vs H1 => ∃ j : Int, vs = [.int j] ∧ -(2 ^ 62) ≤ j ∧ j < 2 ^ 62 ∧ R (Itr 0 j.toNat) H1
def iRng2 (ta : TA) : TI := fun σ H R => ta σ H fun vs H1 => ∃ i j : Int, vs = [.int i, .int j] ∧ (-(2 ^ 62) ≤ i ∧ i < 2 ^ 62 ∧ -(2 ^ 62) ≤ j ∧ j < 2 ^ 62) ∧ R (Itr i (j - i).toNat) H1
theorem pi_range1 {a : Expr} {ta : TA} {p pos : Pos} (hg : Gl X "range") (hm : X.mg "range" = none) (ha : PA X [a] ta) (hs : starEach [a] X.env = [(false, eval a X.env)] := by rfl) : PI X tg (.Call (.Name "range" p) [a] [] pos) (iRng1 ta) := by
  intro pins s σ H R I h
  refine Call_ (ld_blt I hg hm boot_range (PyProof.Rows.callWith_type1 (thn (ha pos pins s σ H _ I h) fun us s1 ⟨vs, H1, I1, r1, q1⟩ => ?_) hs rfl))
  obtain ⟨j, e, q1, q2, q⟩ := q1
  subst e
  cases r1 with
  | cons r rr =>
    cases rr
    obtain ⟨t, rfl⟩ := r
    exact call_range_1 (range_it I1 (by omega) (by omega) q1 q2 (by simpa using q))
/-! ### for -/
/-- W: the invariant by the turn and a measure; N: what the body is to reach -/
def tFor (wi : TI) (g : TG) (tb : TS) : TS := fun D σ H => wi σ H fun J H1 => ∃ W : Nat → Nat → St → Hp → Prop, (∃ m, W 0 m σ H1) ∧ ∀ i m σ H, W i m σ H →
  (J.stop i H ∧ D.nx σ H) ∨ (J.go i H ∧ ∃ N : St → Hp → Prop, (∀ σ' H', N σ' H' → ∃ m', m' < m ∧ W (i + 1) m' σ' H') ∧ ∀ x H', J.yld i H x H' → g x σ H' fun σ2 H2 => tb { D with nx := N, ct := N, bk := D.nx } σ2 H2)
/-- the records at fp as they stand -/
def pinsAt (fp : List Addr) (h : Heap) : List (Addr × Obj) := fp.filterMap fun b => (h.get? b).map fun o => (b, o)
theorem mem_pinsAt {fp : List Addr} {h : Heap} {b : Addr} {o : Obj} (hb : b ∈ fp) (e : h.get? b = some o) : (b, o) ∈ pinsAt fp h := List.mem_filterMap.mpr ⟨b, hb, by rw [e]; rfl⟩
theorem of_pinsAt {fp : List Addr} {h : Heap} {p : Addr × Obj} (hp : p ∈ pinsAt fp h) : p.1 ∈ fp ∧ h.get? p.1 = some p.2 := by
  obtain ⟨b, hb, e⟩ := List.mem_filterMap.mp hp
  cases q : h.get? b with
  | none => rw [q] at e; cases e
  | some o =>
    rw [q] at e
    have e' : (b, o) = p := Option.some.inj e
    subst e'
    exact ⟨hb, q⟩
theorem Inv.pinned {pins : List (Addr × Obj)} {σ : St} {H : Hp} {s : Shared} {fp : List Addr} (I : Inv X pins σ H s) (hf : ∀ b ∈ fp, FpOk X pins H b) (ho : ∀ b ∈ fp, ∃ o, s.heap.get? b = some o ∧ ∀ v, o.data ≠ .cell v) : Inv X (pins ++ pinsAt fp s.heap) σ H s :=
  I.pins_of fun p hp => (List.mem_append.mp hp).elim (fun z => I.pin p (List.mem_append_right _ z)) fun z => by
    obtain ⟨hb, e⟩ := of_pinsAt z
    obtain ⟨f0, f1, f2, _⟩ := hf p.1 hb
    obtain ⟨o, e', d⟩ := ho p.1 hb
    rw [e] at e'; cases e'
    exact ⟨e, f0, f1, f2, d⟩
theorem Inv.unpinned {pins pl : List (Addr × Obj)} {σ : St} {H : Hp} {s : Shared} (I : Inv X (pins ++ pl) σ H s) : Inv X pins σ H s := I.pins_of fun p hp => I.pin p (List.mem_append_right _ (List.mem_append_left _ hp))
theorem ps_for {iter : Expr} {body : List Stmt} {wi : TI} {g : TG} {tb : TS} {pos : Pos} (hp : PassesOwn (model X.prog X.w) X.A X.env X.xe) (hc : X.calm = true) (hi : PI X tg iter wi) (hg : PG X tg g) (hb : PSs X body tb)
    (hs : ∀ x, foldedSetIterable iter X.env x = pure x := by intro _; rfl) : PS X (.For tg iter body [] pos) (tFor wi g tb) := by
  intro pins s σ H D I h
  refine wpAny_For (thn (hi pins s σ H _ I h) fun v s1 h1 => thn h1 fun itv s2 h2 => ?_) hs
  obtain ⟨it, fp, tn, J, H2, e, I2, T, st2, f2, W, ⟨m0, w0⟩, turn⟩ := h2
  subst e
  -- what stays true of the iterator's objects through the loop
  have stat : ∀ {H' : Hp}, (∀ b ∈ fp, H' b = none) → ∀ b ∈ fp, FpOk X pins H' b := fun hn b hb => ⟨hn b hb, (f2 b hb).2⟩
  refine codeAny_forLoop_any (fun n s' => ∃ i σ' H', Inv X pins σ' H' s' ∧ tn i s'.heap ∧ (∀ b ∈ fp, H' b = none) ∧ W i n σ' H') ?_ m0 ⟨0, σ, H2, I2, st2, fun b hb => (f2 b hb).1, w0⟩
  rintro n s3 ⟨i, σ3, H3, I3, st3, fr3, w3⟩
  rcases turn i n σ3 H3 w3 with ⟨stop, qn⟩ | ⟨go, N, hN, step⟩
  · refine wpAny_passesOwn hp (thn (T.done X rfl rfl rfl hc i pins s3 σ3 H3 X.xe I3 (stat fr3) st3 stop) fun r s4 ⟨hr, I4⟩ => ?_)
    subst hr
    exact wpAny_execs_nil ⟨σ3, H3, I4, qn⟩
  · refine wpAny_passesOwn hp (thn (T.item X rfl rfl rfl hc i pins s3 σ3 H3 X.xe I3 (stat fr3) st3 go) fun r s4 ⟨u, hr, h4⟩ => ?_)
    subst hr
    refine wpAny_passesOwn hp (thn h4 fun _ s5 ⟨x, H5, I5, r5, y5, st5, fr5⟩ => ?_)
    have I5' := I5.pinned (stat fr5) (T.obj _ _ st5)
    refine wpAny_passesOwn hp (thn (hg _ s5 σ3 H5 x u _ I5' r5 (step x H5 y5)) fun _ s6 ⟨σ6, H6, I6, q6⟩ => ?_)
    refine wpAny_passesOwn hp (thn (hb _ s6 σ6 H6 _ I6 q6) fun f s7 q7 => ?_)
    have again : ∀ {σ7 : St} {H7 : Hp}, Inv X (pins ++ pinsAt fp s5.heap) σ7 H7 s7 → N σ7 H7 → ∃ m, m < n ∧ ∃ i σ' H', Inv X pins σ' H' s7 ∧ tn i s7.heap ∧ (∀ b ∈ fp, H' b = none) ∧ W i m σ' H' := fun {σ7 H7} I7 n7 => by
      obtain ⟨m', hm, w7⟩ := hN σ7 H7 n7
      refine ⟨m', hm, i + 1, σ7, H7, I7.unpinned, T.keep _ _ _ st5 fun b hb o e => (I7.pin (b, o) (List.mem_append_right _ (List.mem_append_right _ (mem_pinsAt hb e)))).1, fun b hb => ?_, w7⟩
      obtain ⟨o, e, d⟩ := T.obj _ _ st5 b hb
      exact (I7.pin (b, o) (List.mem_append_right _ (List.mem_append_right _ (mem_pinsAt hb e)))).2.1
    cases f with
    | next => obtain ⟨σ7, H7, I7, n7⟩ := q7; exact again I7 n7
    | cont => obtain ⟨σ7, H7, I7, n7⟩ := q7; exact again I7 n7
    | brk => obtain ⟨σ7, H7, I7, q7⟩ := q7; exact ⟨σ7, H7, I7.unpinned, q7⟩
    | ret v => obtain ⟨x7, σ7, H7, I7, r7, q7⟩ := q7; exact ⟨x7, σ7, H7, I7.unpinned, r7, q7⟩
end

/-! ### the forms one uses -/
/-- over a list that the body leaves as it is -/
theorem for_list {K : PySem.W.Frag} {a : Addr} {xs : List V} {g : TG} {tb : TS} {D : Ends} {σ : St} {H : Hp} (Pv : Nat → St → Hp → Prop) (h0 : Pv 0 σ H) (hl : ∀ i σ H, i ≤ xs.length → Pv i σ H → SqL K H a xs)
    (hs : ∀ i x σ H, xs[i]? = some x → Pv i σ H → g x σ H fun σ2 H2 => tb { D with nx := Pv (i + 1), ct := Pv (i + 1), bk := D.nx } σ2 H2) (hd : ∀ σ H, Pv xs.length σ H → D.nx σ H) :
    ∃ W : Nat → Nat → St → Hp → Prop, (∃ m, W 0 m σ H) ∧ ∀ i m σ H, W i m σ H →
      ((Itl K a).stop i H ∧ D.nx σ H) ∨ ((Itl K a).go i H ∧ ∃ N : St → Hp → Prop, (∀ σ' H', N σ' H' → ∃ m', m' < m ∧ W (i + 1) m' σ' H') ∧ ∀ x H', (Itl K a).yld i H x H' → g x σ H' fun σ2 H2 => tb { D with nx := N, ct := N, bk := D.nx } σ2 H2) := by
  refine ⟨fun i m σ H => m = xs.length - i ∧ i ≤ xs.length ∧ Pv i σ H, ⟨xs.length, by simp, Nat.zero_le _, h0⟩, ?_⟩
  rintro i m σ H ⟨rfl, hi, p⟩
  have q := hl i σ H hi p
  by_cases hlt : i < xs.length
  · refine .inr ⟨⟨xs, xs[i], q, by simp [hlt]⟩, Pv (i + 1), fun σ' H' p' => ⟨xs.length - (i + 1), by omega, rfl, hlt, p'⟩, fun x H' y => ?_⟩
    obtain ⟨e, y⟩ := y
    subst e
    exact hs i x σ _ (y xs q) p
  · have e : i = xs.length := by omega
    subst e
    exact .inl ⟨⟨xs, q, Nat.le_refl _⟩, hd σ H p⟩
theorem for_range {lo : Int} {n : Nat} {g : TG} {tb : TS} {D : Ends} {σ : St} {H : Hp} (Pv : Nat → St → Hp → Prop) (h0 : Pv 0 σ H)
    (hs : ∀ i σ H, i < n → Pv i σ H → g (.int (lo + i)) σ H fun σ2 H2 => tb { D with nx := Pv (i + 1), ct := Pv (i + 1), bk := D.nx } σ2 H2) (hd : ∀ σ H, Pv n σ H → D.nx σ H) :
    ∃ W : Nat → Nat → St → Hp → Prop, (∃ m, W 0 m σ H) ∧ ∀ i m σ H, W i m σ H →
      ((Itr lo n).stop i H ∧ D.nx σ H) ∨ ((Itr lo n).go i H ∧ ∃ N : St → Hp → Prop, (∀ σ' H', N σ' H' → ∃ m', m' < m ∧ W (i + 1) m' σ' H') ∧ ∀ x H', (Itr lo n).yld i H x H' → g x σ H' fun σ2 H2 => tb { D with nx := N, ct := N, bk := D.nx } σ2 H2) := by
  refine ⟨fun i m σ H => m = n - i ∧ i ≤ n ∧ Pv i σ H, ⟨n, by simp, Nat.zero_le _, h0⟩, ?_⟩
  rintro i m σ H ⟨rfl, hi, p⟩
  by_cases hlt : i < n
  · refine .inr ⟨hlt, Pv (i + 1), fun σ' H' p' => ⟨n - (i + 1), by omega, rfl, hlt, p'⟩, fun x H' y => ?_⟩
    obtain ⟨e, y⟩ := y
    subst e y
    exact hs i σ _ hlt p
  · have e : i = n := by omega
    subst e
    exact .inl ⟨Nat.le_refl _, hd σ H p⟩
end L2

namespace L2
open PySem PySem.Spec PyProof.Rows

abbrev R2 := V → V → Hp → VK → Prop
/-- a two-place operation on values: f is binaryOp op, inplaceOp op or compareOp op -/
def OpR (X : Cx) (f : Value → Value → Sem Value) (r : R2) : Prop :=
  ∀ (pins : List (Addr × Obj)) (s : Shared) (σ : St) (H : Hp) (x y : V) (v u : Value) (Q : VK), Inv X pins σ H s → RelV x v → RelV y u → r x y H Q →
    wpAny (model X.prog X.w) X.A (f v u) (EP X pins σ Q) X.xe s
/-- a one-place operation -/
def UnR (X : Cx) (f : Value → Sem Value) (r : V → Hp → VK → Prop) : Prop :=
  ∀ (pins : List (Addr × Obj)) (s : Shared) (σ : St) (H : Hp) (x : V) (v : Value) (Q : VK), Inv X pins σ H s → RelV x v → r x H Q →
    wpAny (model X.prog X.w) X.A (f v) (EP X pins σ Q) X.xe s
/-- a call of a value that is known (a builtin, a type) with values -/
def CallR (X : Cx) (f : Value) (r : List V → Hp → VK → Prop) : Prop :=
  ∀ (pins : List (Addr × Obj)) (s : Shared) (σ : St) (H : Hp) (xs : List V) (us : List Value) (Q : VK), Inv X pins σ H s → Vals xs us → r xs H Q →
    wpAny (model X.prog X.w) X.A (call f us) (EP X pins σ Q) X.xe s
/-- a value's truth -/
def TruR (X : Cx) (r : V → Hp → (Bool → Hp → Prop) → Prop) : Prop :=
  ∀ (pins : List (Addr × Obj)) (s : Shared) (σ : St) (H : Hp) (x : V) (v : Value) (Q : Bool → Hp → Prop), Inv X pins σ H s → RelV x v → r x H Q →
    wpAny (model X.prog X.w) X.A (truthy v) (TP X pins σ Q) X.xe s

def tOp (r : R2) (ta tb : TE) : TE := fun σ H Q => ta σ H fun x H1 => tb σ H1 fun y H2 => r x y H2 Q
def tUn (r : V → Hp → VK → Prop) (ta : TE) : TE := fun σ H Q => ta σ H fun x H1 => r x H1 Q
/-- ints in, under C, and a value out -/
def rI (C : Int → Int → Prop) (g : Int → Int → V) : R2 := fun x y H Q => ∃ i j, x = .int i ∧ y = .int j ∧ C i j ∧ Q (g i j) H
def rI0 (g : Int → Int → V) : R2 := fun x y H Q => ∃ i j, x = .int i ∧ y = .int j ∧ Q (g i j) H
def rU (g : Int → V) : V → Hp → VK → Prop := fun x H Q => ∃ i, x = .int i ∧ Q (g i) H

section
variable {X : Cx} {a b c : Expr} {ta tb tc : TE} {pos : Pos}

theorem binT (ha : PE X a ta) (hb : PE X b tb) {pins : List (Addr × Obj)} {s : Shared} {σ : St} {H : Hp} {R : V → V → Hp → Prop} (I : Inv X pins σ H s)
    (h : ta σ H fun x H1 => tb σ H1 fun y H2 => R x y H2) {Q : Value → Shared → Prop} {f : Value → Value → Sem Value}
    (hf : ∀ v u s2 x y H2, Inv X pins σ H2 s2 → RelV x v → RelV y u → R x y H2 → wpAny (model X.prog X.w) X.A (f v u) Q X.xe s2) :
    wpAny (model X.prog X.w) X.A (eval a X.env) (fun v s₁ => wpAny (model X.prog X.w) X.A (eval b X.env) (fun u s₂ => wpAny (model X.prog X.w) X.A (f v u) Q X.xe s₂) X.xe s₁) X.xe s := by
  refine thn (ha pins s σ H _ I h) fun v s1 ⟨x, H1, I1, r1, q1⟩ => ?_
  refine thn (hb pins s1 σ H1 _ I1 q1) fun u s2 ⟨y, H2, I2, r2, q2⟩ => ?_
  exact hf v u s2 x y H2 I2 r1 r2 q2

theorem pe_op {op : Operator} {r : R2} (ho : OpR X (binaryOp op) r) (ha : PE X a ta) (hb : PE X b tb) : PE X (.BinOp a op b pos) (tOp r ta tb) := by
  intro pins s σ H Q I h
  exact wpAny_BinOp (binT ha hb I h fun v u s2 x y H2 I2 rx ry q => ho pins s2 σ H2 x y v u Q I2 rx ry q)
/-! ### ints -/
theorem opI {f : Value → Value → Sem Value} {C : Int → Int → Prop} {g : Int → Int → Int}
    (rule : ∀ (i j : Int) (t u : Tok) (s : Shared) (Q : Value → Shared → Prop) (E : Value → Shared → Prop), C i j → Q (.int (g i j) s.toks) { s with toks := s.toks + 1 } → wpAny (model X.prog X.w) X.A (f (.int i t) (.int j u)) Q E s) :
    OpR X f (rI C fun i j => .int (g i j)) := by
  intro pins s σ H x y v u Q I rx ry h
  obtain ⟨i, j, rfl, rfl, hc, q⟩ := h
  obtain ⟨t, rfl⟩ := rx
  obtain ⟨t', rfl⟩ := ry
  exact rule i j t t' s _ _ hc ⟨.int (g i j), H, I.tok _, ⟨_, rfl⟩, q⟩
theorem opI0 {f : Value → Value → Sem Value} {g : Int → Int → Int}
    (rule : ∀ (i j : Int) (t u : Tok) (s : Shared) (Q : Value → Shared → Prop) (E : Value → Shared → Prop), Q (.int (g i j) s.toks) { s with toks := s.toks + 1 } → wpAny (model X.prog X.w) X.A (f (.int i t) (.int j u)) Q E s) :
    OpR X f (rI0 fun i j => .int (g i j)) := by
  intro pins s σ H x y v u Q I rx ry h
  obtain ⟨i, j, rfl, rfl, q⟩ := h
  obtain ⟨t, rfl⟩ := rx
  obtain ⟨t', rfl⟩ := ry
  exact rule i j t t' s _ _ ⟨.int (g i j), H, I.tok _, ⟨_, rfl⟩, q⟩
theorem opB0 {f : Value → Value → Sem Value} {g : Int → Int → Bool}
    (rule : ∀ (i j : Int) (t u : Tok) (s : Shared) (Q : Value → Shared → Prop) (E : Value → Shared → Prop), Q (.bool (g i j)) s → wpAny (model X.prog X.w) X.A (f (.int i t) (.int j u)) Q E s) :
    OpR X f (rI0 fun i j => .bl (g i j)) := by
  intro pins s σ H x y v u Q I rx ry h
  obtain ⟨i, j, rfl, rfl, q⟩ := h
  obtain ⟨t, rfl⟩ := rx
  obtain ⟨t', rfl⟩ := ry
  exact rule i j t t' s _ _ ⟨.bl (g i j), H, I, rfl, q⟩

def CDiv (i j : Int) : Prop := 0 < j ∧ j < 1073741824
def CDivN (i j : Int) : Prop := j ≠ 0 ∧ j.natAbs < 1073741824
def CPow (i j : Int) : Prop := 0 ≤ j ∧ j ≤ 1000000 ∧ i.natAbs < 2 ^ 64
def CMul (i j : Int) : Prop := (-(2 ^ 64) < i ∧ i < 2 ^ 64) ∨ (-(2 ^ 64) < j ∧ j < 2 ^ 64)
theorem CMul.ok {i j : Int} (h : CMul i j) : IntMulOk i j := by
  rcases h with ⟨h1, h2⟩ | ⟨h1, h2⟩
  · exact .of_left (intBits_le_64 h1 h2)
  · exact .of_right (intBits_le_64 h1 h2)
theorem two_pow_nn (k : Nat) : (0 : Int) ≤ 2 ^ k := by
  rw [two_pow_cast]
  exact Int.natCast_nonneg _

theorem op_add : OpR X (binaryOp .Add) (rI0 fun i j => .int (i + j)) := opI0 fun _ _ _ _ _ _ _ q => add_int q
theorem op_sub : OpR X (binaryOp .Sub) (rI0 fun i j => .int (i - j)) := opI0 fun _ _ _ _ _ _ _ q => sub_int q
/-- % by a positive divisor of any size -/
theorem op_mod : OpR X (binaryOp .Mod) (rI (fun _ j => 0 < j) fun i j => .int (i % j)) := opI fun i j _ _ _ _ _ hc q => by
  have h1 : (0 : Int) < j := hc
  exact mod_int' (by omega) (by rw [Int.fmod_eq_emod_of_nonneg i (by omega)]; exact q)
theorem op_pow : OpR X (binaryOp .Pow) (rI CPow fun i j => .int (i ^ j.toNat)) := opI fun _ _ _ _ _ _ _ hc q => pow_int_small hc.1 hc.2.1 hc.2.2 q
theorem op_shl : OpR X (binaryOp .LShift) (rI CPow fun i j => .int (i * 2 ^ j.toNat)) := opI fun _ _ _ _ _ _ _ hc q => lshift_int_small hc.1 hc.2.1 hc.2.2 q
theorem op_shr : OpR X (binaryOp .RShift) (rI (fun _ j => 0 ≤ j) fun i j => .int (i / 2 ^ j.toNat)) := opI fun i j _ _ _ _ _ hc q =>
  rshift_int hc (by rw [Int.fdiv_eq_ediv_of_nonneg i (two_pow_nn _)]; exact q)
/-! ### bools among ints: n += (a < b) -/
end

/-! ### comparisons -/
/-- the scalars that == tells apart as data does -/
def scal : V → V → Bool
  | .non, .non => true | .non, .int _ => true | .int _, .non => true | .non, .bl _ => true | .bl _, .non => true | .non, .str _ => true | .str _, .non => true
  | .int _, .int _ => true | .bl _, .bl _ => true | .str _, .str _ => true | .byt _, .byt _ => true
  | .int _, .str _ => true | .str _, .int _ => true | .bl _, .str _ => true | .str _, .bl _ => true
  | _, _ => false
def rEq : R2 := fun x y H Q => scal x y = true ∧ Q (.bl (decide (x = y))) H
def rNe : R2 := fun x y H Q => scal x y = true ∧ Q (.bl (!decide (x = y))) H

theorem dec_int {i j : Int} : decide (V.int i = V.int j) = (i == j) := by
  rw [Bool.eq_iff_iff]
  simp
theorem dec_bl {i j : Bool} : decide (V.bl i = V.bl j) = (i == j) := by
  rw [Bool.eq_iff_iff]
  simp
theorem dec_str {i j : Str} : decide (V.str i = V.str j) = (i == j) := by
  rw [Bool.eq_iff_iff]
  simp
theorem dec_byt {i j : Array UInt8} : decide (V.byt i = V.byt j) = (i.toList == j.toList) := by
  rw [Bool.eq_iff_iff]
  cases i
  cases j
  simp

section
variable {X : Cx} {a b c : Expr} {ta tb tc : TE} {pos : Pos}
theorem fin_bl {pins : List (Addr × Obj)} {σ : St} {H : Hp} {s : Shared} {Q : VK} {k k' : Bool} (I : Inv X pins σ H s) (q : Q (.bl k) H) (e : k = k') : EP X pins σ Q (.bool k') s := by
  subst e
  exact ⟨.bl k, H, I, rfl, q⟩
theorem op_eq : OpR X (compareOp .Eq) rEq := by
  intro pins s σ H x y v u Q I rx ry h
  obtain ⟨hs, q⟩ := h
  cases x with
  | non =>
    cases rx
    cases y with
    | non => cases ry; exact PySem.EqNone.eq_none_none (fin_bl I q (by simp))
    | bl j => cases ry; exact PySem.EqNone.eq_none_bool (fin_bl I q (by simp))
    | int j => obtain ⟨t', rfl⟩ := ry; exact PySem.EqNone.eq_none_int (fin_bl I q (by simp))
    | str j => obtain ⟨t', rfl⟩ := ry; exact PySem.EqNone.eq_none_str (fin_bl I q (by simp))
    | _ => exact absurd (show false = true from hs) Bool.false_ne_true
  | bl i =>
    cases rx
    cases y with
    | non => cases ry; exact PySem.EqNone.eq_bool_none (fin_bl I q (by simp))
    | bl j => cases ry; exact eq_bool (fin_bl I q dec_bl)
    | str j => obtain ⟨t', rfl⟩ := ry; exact PySem.EqMixed.eq_bool_str (fin_bl I q (by simp))
    | _ => exact absurd (show false = true from hs) Bool.false_ne_true
  | int i =>
    obtain ⟨t, rfl⟩ := rx
    cases y with
    | non => cases ry; exact PySem.EqNone.eq_int_none (fin_bl I q (by simp))
    | int j => obtain ⟨t', rfl⟩ := ry; exact eq_int (fin_bl I q dec_int)
    | str j => obtain ⟨t', rfl⟩ := ry; exact PySem.EqMixed.eq_int_str (fin_bl I q (by simp))
    | _ => exact absurd (show false = true from hs) Bool.false_ne_true
  | str i =>
    obtain ⟨t, rfl⟩ := rx
    cases y with
    | non => cases ry; exact PySem.EqNone.eq_str_none (fin_bl I q (by simp))
    | bl j => cases ry; exact PySem.EqMixed.eq_str_bool (fin_bl I q (by simp))
    | int j => obtain ⟨t', rfl⟩ := ry; exact PySem.EqMixed.eq_str_int (fin_bl I q (by simp))
    | str j => obtain ⟨t', rfl⟩ := ry; exact eq_str (fin_bl I q dec_str)
    | _ => exact absurd (show false = true from hs) Bool.false_ne_true
  | byt i =>
    obtain ⟨t, rfl⟩ := rx
    cases y with
    | byt j => obtain ⟨t', rfl⟩ := ry; exact PySem.W.eq_bytes (fin_bl I q dec_byt)
    | _ => exact absurd (show false = true from hs) Bool.false_ne_true
  | _ => cases y <;> exact absurd (show false = true from hs) Bool.false_ne_true
theorem op_ne : OpR X (compareOp .NotEq) rNe := by
  intro pins s σ H x y v u Q I rx ry h
  obtain ⟨hs, q⟩ := h
  cases x with
  | non =>
    cases rx
    cases y with
    | non => cases ry; exact PySem.EqNone.ne_none_none (fin_bl I q (by simp))
    | bl j => cases ry; exact PySem.EqNone.ne_none_bool (fin_bl I q (by simp))
    | int j => obtain ⟨t', rfl⟩ := ry; exact PySem.EqNone.ne_none_int (fin_bl I q (by simp))
    | str j => obtain ⟨t', rfl⟩ := ry; exact PySem.EqNone.ne_none_str (fin_bl I q (by simp))
    | _ => exact absurd (show false = true from hs) Bool.false_ne_true
  | bl i =>
    cases rx
    cases y with
    | non => cases ry; exact PySem.EqNone.ne_bool_none (fin_bl I q (by simp))
    | bl j => cases ry; exact ne_bool (fin_bl I q (congrArg not dec_bl))
    | str j => obtain ⟨t', rfl⟩ := ry; exact PySem.EqMixed.ne_bool_str (fin_bl I q (by simp))
    | _ => exact absurd (show false = true from hs) Bool.false_ne_true
  | int i =>
    obtain ⟨t, rfl⟩ := rx
    cases y with
    | non => cases ry; exact PySem.EqNone.ne_int_none (fin_bl I q (by simp))
    | int j => obtain ⟨t', rfl⟩ := ry; exact ne_int (fin_bl I q (congrArg not dec_int))
    | str j => obtain ⟨t', rfl⟩ := ry; exact PySem.EqMixed.ne_int_str (fin_bl I q (by simp))
    | _ => exact absurd (show false = true from hs) Bool.false_ne_true
  | str i =>
    obtain ⟨t, rfl⟩ := rx
    cases y with
    | non => cases ry; exact PySem.EqNone.ne_str_none (fin_bl I q (by simp))
    | bl j => cases ry; exact PySem.EqMixed.ne_str_bool (fin_bl I q (by simp))
    | int j => obtain ⟨t', rfl⟩ := ry; exact PySem.EqMixed.ne_str_int (fin_bl I q (by simp))
    | str j => obtain ⟨t', rfl⟩ := ry; exact ne_str (fin_bl I q (congrArg not dec_str))
    | _ => exact absurd (show false = true from hs) Bool.false_ne_true
  | byt i =>
    obtain ⟨t, rfl⟩ := rx
    cases y with
    | byt j => obtain ⟨t', rfl⟩ := ry; exact PySem.W.ne_bytes (fin_bl I q (congrArg not dec_byt))
    | _ => exact absurd (show false = true from hs) Bool.false_ne_true
  | _ => cases y <;> exact absurd (show false = true from hs) Bool.false_ne_true

theorem op_lt : OpR X (compareOp .Lt) (rI0 fun i j => .bl (decide (i < j))) := opB0 fun _ _ _ _ _ _ _ q => lt_int q
theorem op_le : OpR X (compareOp .LtE) (rI0 fun i j => .bl (decide (i ≤ j))) := opB0 fun _ _ _ _ _ _ _ q => le_int q
/-- is None, is not None: the right side a value none -/
theorem op_isN : OpR X (compareOp .Is) (fun x y H Q => y = .non ∧ Q (.bl (decide (x = .non))) H) := by
  intro pins s σ H x y v u Q I rx ry h
  obtain ⟨rfl, q⟩ := h
  cases ry
  refine is_none_gen (fin_bl I q ?_)
  cases x <;> first
    | (cases rx; rfl)
    | (obtain ⟨t, rfl⟩ := rx; rfl)
/-- is, is not of two objects that are tracked lists or instances -/
def isObj : HO → Bool
  | .lst _ => true
  | .ins _ _ _ => true
  | _ => false
theorem nomark (b : Expr) {op : CmpOp} (h : op ≠ .In := by decide) (h2 : op ≠ .NotIn := by decide) : behindInMarks op b = false := by
  have e1 : (op == CmpOp.In) = false := by cases op <;> first | rfl | exact absurd rfl h
  have e2 : (op == CmpOp.NotIn) = false := by cases op <;> first | rfl | exact absurd rfl h2
  cases b <;> simp [behindInMarks, e1, e2]
/-- a reading of a value as a test -/
def tTest (t : TE) : TT := fun σ H Q => t σ H fun x H' => ∃ k, x = .bl k ∧ Q k H'
theorem pt_cmpR {op : CmpOp} {r : R2} (ho : OpR X (compareOp op) r) (ha : PE X a ta) (hb : PE X b tb) (hm : behindInMarks op b = false) : PT X (.Compare a [op] [b] pos) (tTest (tOp r ta tb)) := by
  intro pins s σ H Q I h
  refine wpAny_isTrue_Compare1 (thn (ha pins s σ H _ I h) fun v s1 ⟨x, H1, I1, r1, q1⟩ => thn (hb pins s1 σ H1 _ I1 q1) fun u s2 ⟨y, H2, I2, r2, q2⟩ =>
    thn (ho pins s2 σ H2 x y v u _ I2 r1 r2 q2) fun c s3 ⟨z, H3, I3, r3, k, e, q3⟩ => ?_) hm
  subst e
  cases r3
  exact wpAny_truthy_bool ⟨H3, I3, q3⟩
/-- a op1 b op2 c -/
def tChain (r r' : R2) (ta tb tc : TE) : TE := fun σ H Q => ta σ H fun x H1 => tb σ H1 fun y H2 => r x y H2 fun z H3 => ∃ k, z = .bl k ∧
  (if k = true then tc σ H3 fun w' H4 => r' y w' H4 Q else Q (.bl false) H3)
/-! ### truth -/
/-- a value's truth by the abstract heap -/
def TruV (K : PySem.W.Frag) (x : V) (H : Hp) (k : Bool) : Prop :=
  match x with
  | .non => k = false
  | .bl b => k = b
  | .int i => k = (i != 0)
  | .str y => y.length ≤ sizeLine ∧ k = ((y.length : Int) != 0)
  | .byt y => y.size ≤ sizeLine ∧ k = ((y.size : Int) != 0)
  | .ref p => (∃ xs, SqL K H p xs ∧ k = !xs.isEmpty) ∨ (∃ xs, SqT K H p xs ∧ k = !xs.isEmpty) ∨ ∃ kvs, H p = some (.dK kvs) ∧ k = !kvs.isEmpty
  | _ => False
theorem line63 : (sizeLine : Nat) < 2 ^ 63 := by rw [sizeLine_eq]; decide
/-! ### strs and bytes -/
theorem op_add_str : OpR X (binaryOp .Add) (fun x y H Q => ∃ i j, x = .str i ∧ y = .str j ∧ i.length + j.length ≤ sizeLine ∧ Q (.str (i ++ j)) H) := by
  intro pins s σ H x y v u Q I rx ry h
  obtain ⟨i, j, rfl, rfl, hz, q⟩ := h
  obtain ⟨t, rfl⟩ := rx
  obtain ⟨t', rfl⟩ := ry
  exact add_str (fun t' tk => ⟨.str (i ++ j), H, I.tok _, ⟨_, rfl⟩, q⟩) hz
def PlainIxT (b : Expr) : Prop := ∀ o i, subscripted b false o i = operate [o, i] (getItem o i)
/-! ### scalar builtins, by CallR -/
theorem vals1 {x : V} {us : List Value} (r : Vals [x] us) : ∃ u, us = [u] ∧ RelV x u := by
  cases r with
  | cons r1 r2 => cases r2; exact ⟨_, rfl, r1⟩
theorem vals2 {x y : V} {us : List Value} (r : Vals [x, y] us) : ∃ u w', us = [u, w'] ∧ RelV x u ∧ RelV y w' := by
  cases r with
  | cons r1 r2 =>
    cases r2 with
    | cons r3 r4 => cases r4; exact ⟨_, _, rfl, r1, r3⟩
theorem call_max2 (hc : X.calm = true) : CallR X (.builtin "max") (fun xs H Q => ∃ i j, xs = [.int i, .int j] ∧ Q (.int (if j > i then j else i)) H) := by
  intro pins s σ H xs us Q I r h
  obtain ⟨i, j, rfl, q⟩ := h
  obtain ⟨u, w', rfl, ⟨t, rfl⟩, ⟨t', rfl⟩⟩ := vals2 r
  refine max_two_ints (I.ok.hd hc) fun h' tk k => ⟨_, H, I.kept k, ?_, q⟩
  by_cases hj : j > i
  · rw [if_pos hj, if_pos hj]; exact ⟨_, rfl⟩
  · rw [if_neg hj, if_neg hj]; exact ⟨_, rfl⟩
theorem call_min2 (hc : X.calm = true) : CallR X (.builtin "min") (fun xs H Q => ∃ i j, xs = [.int i, .int j] ∧ Q (.int (if j < i then j else i)) H) := by
  intro pins s σ H xs us Q I r h
  obtain ⟨i, j, rfl, q⟩ := h
  obtain ⟨u, w', rfl, ⟨t, rfl⟩, ⟨t', rfl⟩⟩ := vals2 r
  refine min_two_ints (I.ok.hd hc) fun h' tk k => ⟨_, H, I.kept k, ?_, q⟩
  by_cases hj : j < i
  · rw [if_pos hj, if_pos hj]; exact ⟨_, rfl⟩
  · rw [if_neg hj, if_neg hj]; exact ⟨_, rfl⟩
/-- len of a str, a bytes, a list, a tuple -/
def LenV (K : PySem.W.Frag) (x : V) (H : Hp) (n : Nat) : Prop :=
  match x with
  | .str y => y.length ≤ sizeLine ∧ n = y.length
  | .byt y => y.size ≤ sizeLine ∧ n = y.size
  | .ref p => (∃ xs, SqL K H p xs ∧ n = xs.length) ∨ ∃ xs, SqT K H p xs ∧ n = xs.length
  | _ => False
/-- divmod: a new tuple -/
theorem call_divmod : CallR X (.builtin "divmod") (fun xs H Q => ∃ i j, xs = [.int i, .int j] ∧ CDiv i j ∧ ∀ p, H p = none → Q (.ref p) (upd H p (.tup [.int (i / j), .int (i % j)]))) := by
  intro pins s σ H xs us Q I r h
  obtain ⟨i, j, rfl, ⟨h1, h2⟩, q⟩ := h
  obtain ⟨u, w', rfl, ⟨t, rfl⟩, ⟨t', rfl⟩⟩ := vals2 r
  refine divmod_int (by omega) ?_ (.inl (PyProof.noPylong_small (by omega)))
  rw [Int.fdiv_eq_ediv_of_nonneg i (by omega), Int.fmod_eq_emod_of_nonneg i (by omega)]
  have hn : H s.heap.objs.size = none := I.hok.fresh (Nat.le_refl _)
  refine ⟨.ref s.heap.objs.size, _, ?_, rfl, q _ hn⟩
  refine I.laid (fun b o e => Heap.get?_push_of_some _ e) (Nat.le_refl _) ⟨by simp only [List.length_cons, List.length_nil]; rw [sizeLine_eq]; decide, [.int (i / j) s.toks, .int (i % j) (s.toks + 1)], .cons ⟨_, rfl⟩ (.cons ⟨_, rfl⟩ .nil), ?_⟩
  exact ⟨_, Heap.get?_push_size s.heap rfl, rfl, 0, rfl⟩
end
end L2

namespace L2
open PySem PySem.Spec PyProof.Rows

/-! ### an instance, its attributes a map -/
structure ObjM (h : Heap) (x dx C : Addr) (mA : Str → Option Value) : Prop where
  obj : h.get? x = some (PySem.W.instObj C dx)
  ns : h.Ns1 dx mA
  ne : dx ≠ x

theorem lookIn_ns {h : Heap} {dx : Addr} {mA : Str → Option Value} (n : h.Ns1 dx mA) : ∃ od, h.get? dx = some od ∧ ∀ name, PySem.W.lookIn name od = some (mA name) := by
  obtain ⟨o, es, ep, ho, hd, hk, _, hm⟩ := n
  refine ⟨o, ho, fun name => ?_⟩
  have e := hm name
  unfold nsFind findBy at e
  rw [← Array.find?_toList] at e
  unfold PySem.W.lookIn
  rw [hd]
  dsimp only
  split
  · rename_i y q
    rw [q] at e
    exact congrArg some e
  · rename_i q
    rw [q] at e
    have a : es.toList.any (·.refKey) = false := by
      rw [List.any_eq_false]
      intro y hy
      obtain ⟨z, t, hkey⟩ := hk y (Array.mem_toList_iff.mp hy)
      simp [DictEntry.refKey, hkey]
    have a' : ¬ es.toList.any (·.refKey) = true := by rw [a]; exact Bool.false_ne_true
    rw [if_neg a']
    exact congrArg some e

theorem ObjM.look {h : Heap} {x dx C : Addr} {mA : Str → Option Value} (I : ObjM h x dx C mA) : ∃ od, PySem.W.InstAt h x (PySem.W.instObj C dx) C (some od) ∧ ∀ name, PySem.W.lookIn name od = some (mA name) :=
  let ⟨od, ho, hl⟩ := lookIn_ns I.ns
  ⟨od, ⟨I.obj, rfl, rfl, ho⟩, hl⟩

section
variable {prog : Program} {w : World} {A : Around} {E : Value → Shared → Prop} {s : Shared} {K : PySem.W.Frag} {x dx C f : Addr} {mA : Str → Option Value} {name : Str} {v : Value}

theorem get_map {expr : Bool} {Q : Value → Shared → Prop} (X : K.In s.heap) (I : ObjM s.heap x dx C mA) (hg : PySem.W.plainGet K C name = true) (hh : PySem.W.hasDictIn K C = true)
    (ha : PySem.W.findIn K (.ref C) name = some none) (hv : mA name = some v) (hv' : PySem.W.handedIn v = true) (h : Q v { s with toks := s.toks + 1 }) :
    wpAny (model prog w) A (getAttr (.ref x) name expr) Q E s := by
  obtain ⟨od, J, hl⟩ := I.look
  exact PySem.W.get_value X J (PySem.W.plainGet_of hg).1 (PySem.W.findObj_own hh ha rfl (by rw [hl, hv])) hv' h

theorem get_meth {pl : Sem Bool} {Q : Value × List Value → Shared → Prop} (X : K.In s.heap) (I : ObjM s.heap x dx C mA) (hg : PySem.W.plainGet K C name = true)
    (hf : PySem.W.findIn K (.ref C) name = some (some (.ref f))) (ht : PySem.W.isFn K (.ref f) = true) (hv : mA name = none) (h : Q (.ref f, [.ref x]) s) :
    wpAny (model prog w) A (getMethod (.ref x) name pl) Q E s := by
  obtain ⟨od, J, hl⟩ := I.look
  exact PySem.W.method_fn X J (PySem.W.plainGet_of hg).1 (PySem.W.plainGet_of hg).2 hf (beq_iff_eq.mp ht) (by show (PySem.W.lookIn name od).map (·.isSome) = some false; rw [hl, hv]; rfl) h

theorem set_map {ns : List Str} {Q : Unit → Shared → Prop} (X : K.In s.heap) (I : ObjM s.heap x dx C mA)
    (hs : PySem.W.findIn K (.ref C) "__setattr__" = some (some (.builtin "object.__setattr__"))) (hp : PySem.W.plainOver K C = true) (ht : PySem.W.takerIn K C name = some none) (hh : PySem.W.hasDictIn K C = true)
    (hw : PySem.Within mA ns) (hsz : ns.length ≤ sizeLine)
    (h : ∀ h', ObjM h' x dx C (fun y => if y = name then some v else mA y) → Heap.SameBut dx s.heap h' → Q () { s with heap := h', toks := s.toks + 2 }) :
    wpAny (model prog w) A (setAttr (.ref x) name v) Q E s := by
  obtain ⟨od, J, hl⟩ := I.look
  refine PySem.W.set_plain X J hs (PySem.W.osa_open (s := { s with toks := s.toks + 1 }) (r := none) X J hp ht fun b => ?_)
  obtain ⟨cd, hc, hd'⟩ := PySem.W.any_some hh
  have hx : s.heap.get? x = some ⟨.ref C, some dx, .plain, #[]⟩ := I.obj
  refine wpAny_bind (wpAny_pure (wpAny_bind (wpAny_bind (wpAny_loadPart hx (wpAny_bind (PySem.W.Looks.here (s := { s with toks := s.toks + 1 }) (PySem.W.looks_clsIn X hc) ?_))))))
  rw [hd']
  refine wpAny_pure (a := some dx) (wpAny_bind (wpAny_pure (wpAny_bind ?_)))
  refine wpAny_nsSet1 (s := { s with toks := s.toks + 1 }) I.ns fun h' hn2 hs2 => ?_
  obtain ⟨oD, esD, epD, hoD, hdD, hcD⟩ := hn2.count (PySem.Within.cons name v hw)
  refine wpAny_bind (wpAny_lookBehind hoD (by rw [hdD]; exact pastItsLine_dict (Nat.le_trans hcD (by rw [List.length_cons]; omega))) ?_)
  exact wpAny_pure (h _ ⟨(hs2.2 _ (Ne.symm I.ne)).trans I.obj, hn2, I.ne⟩ hs2)

/-- C(..): the dict at the heap's end, the instance behind it; then its __init__ -/
theorem make_map {R : Result → Shared → Prop} {vs : List Value} {kw : List (Str × Value)} (X : K.In s.heap) (hm : PySem.W.makesIn K C = true)
    (hi : PySem.W.findIn K (.ref C) "__init__" = some (some (.ref f))) (hf : PySem.W.typeIn K (.ref f) = some (.type "function"))
    (h : codeAny (model prog w) (A.under (.builtin "type.__call__" ⟨.ref C :: vs, kw⟩)) (.call (.ref f) ⟨.ref (s.heap.objs.size + 1) :: vs, kw⟩) (PySem.W.InitBack (s.heap.objs.size + 1) R)
      { s with heap := (s.heap.push PySem.W.emptyDict).push (PySem.W.instObj C s.heap.objs.size) }) :
    codeAny (model prog w) A (.call (.ref C) ⟨vs, kw⟩) R s := by
  obtain ⟨hh, g, d, t, os⟩ := s
  exact PySem.W.make_core (PySem.W.makes_of X hm) (PySem.W.looks_findIn X hi) (fun self => PySem.W.bind_fn X self hf) (.inl rfl) h
end

/-! ### the attributes as a list of pairs -/
def putF (f : Str) (v : V) : List (Str × V) → List (Str × V)
  | [] => [(f, v)]
  | (g, x) :: r => if g = f then (g, v) :: r else (g, x) :: putF f v r
theorem lookup_putF (f g : Str) (v : V) : ∀ fs : List (Str × V), (putF f v fs).lookup g = if g = f then some v else fs.lookup g
  | [] => by
    show List.lookup g [(f, v)] = _
    by_cases h : g = f
    · have hb : (g == f) = true := beq_iff_eq.mpr h
      simp only [List.lookup, hb, if_pos h]
    · have hb : (g == f) = false := beq_eq_false_iff_ne.mpr h
      simp only [List.lookup, hb, if_neg h]
  | (k, x) :: r => by
    have ih := lookup_putF f g v r
    rw [show putF f v ((k, x) :: r) = (if k = f then (k, v) :: r else (k, x) :: putF f v r) from rfl]
    by_cases hk : k = f
    · rw [if_pos hk]
      by_cases h : g = k
      · have hb : (g == k) = true := beq_iff_eq.mpr h
        simp only [List.lookup, hb, if_pos (h.trans hk)]
      · have hb : (g == k) = false := beq_eq_false_iff_ne.mpr h
        simp only [List.lookup, hb, if_neg (fun e : g = f => h (e.trans hk.symm))]
    · rw [if_neg hk]
      by_cases h : g = k
      · have hb : (g == k) = true := beq_iff_eq.mpr h
        simp only [List.lookup, hb, if_neg (fun e : g = f => hk (h.symm.trans e))]
      · have hb : (g == k) = false := beq_eq_false_iff_ne.mpr h
        simp only [List.lookup, hb]
        exact ih
theorem keys_putF (f : Str) (v : V) : ∀ fs : List (Str × V), f ∈ (putF f v fs).map (·.1) ∧ ∀ g, g ∈ fs.map (·.1) → g ∈ (putF f v fs).map (·.1)
  | [] => ⟨by simp [putF], fun g h => by simp at h⟩
  | (k, x) :: r => by
    obtain ⟨i1, i2⟩ := keys_putF f v r
    rw [show putF f v ((k, x) :: r) = (if k = f then (k, v) :: r else (k, x) :: putF f v r) from rfl]
    by_cases hk : k = f
    · rw [if_pos hk]
      subst hk
      exact ⟨by simp, fun g h => by simpa using h⟩
    · rw [if_neg hk]
      refine ⟨?_, fun g h => ?_⟩
      · rw [List.map_cons]
        exact List.mem_cons_of_mem _ i1
      · rw [List.map_cons] at h ⊢
        rcases List.mem_cons.mp h with e | e
        · exact List.mem_cons.mpr (.inl e)
        · exact List.mem_cons_of_mem _ (i2 g e)
theorem length_putF (f : Str) (v : V) : ∀ fs : List (Str × V), (putF f v fs).length ≤ fs.length + 1
  | [] => by simp [putF]
  | (k, x) :: r => by
    have ih := length_putF f v r
    rw [show putF f v ((k, x) :: r) = (if k = f then (k, v) :: r else (k, x) :: putF f v r) from rfl]
    by_cases hk : k = f
    · rw [if_pos hk, List.length_cons, List.length_cons]; omega
    · rw [if_neg hk, List.length_cons, List.length_cons]; omega

theorem RelO.some_of {v : V} {o : Option Value} (r : RelO (some v) o) : ∃ u, o = some u ∧ RelV v u := by
  cases o with
  | none => exact (show False from r).elim
  | some u => exact ⟨u, rfl, r⟩
theorem RelO.none_of {o : Option Value} (r : RelO none o) : o = none := by
  cases o with
  | none => rfl
  | some u => exact (show False from r).elim
theorem handed_of {v : V} {u : Value} (r : RelV v u) : PySem.W.handedIn u = true := by
  cases v with
  | non => cases (show u = Value.none from r); rfl
  | bl b => cases (show u = Value.bool b from r); rfl
  | int i => obtain ⟨t, e⟩ := (show ∃ t, u = Value.int i t from r); cases e; rfl
  | str x => obtain ⟨t, e⟩ := (show ∃ t, u = Value.str x t from r); cases e; rfl
  | byt b => obtain ⟨t, e⟩ := (show ∃ t, u = Value.bytes b t from r); cases e; rfl
  | flt b => obtain ⟨t, e⟩ := (show ∃ t, u = Value.float b t from r); cases e; rfl
  | ref a => cases (show u = Value.ref a from r); rfl
  | ty n => cases (show u = Value.type n from r); rfl

section
variable {P : Program} {w : World} {H H' : Hp} {h h' : Heap} {a C dx : Addr} {fs fs' : List (Str × V)}
theorem ins_get (hok : HOk P w H h) (e : H a = some (.ins C dx fs)) : ∃ mA, ObjM h a dx C mA ∧ (∀ f, RelO (fs.lookup f) (mA f)) ∧ PySem.Within mA (fs.map (·.1)) ∧ fs.length ≤ 1000 ∧ H dx = some (.own a) := by
  obtain ⟨d, z, ne, ob, mA, n, r, q⟩ := (show ObjOk P w H h a (.ins C dx fs) from hok a _ e)
  exact ⟨mA, ⟨ob, n, ne⟩, r, q, z, d⟩
end

/-! ### what of the text a class must have -/
structure Cls (K : PySem.W.Frag) (C : Addr) : Prop where
  pg : PySem.W.plainGet K C Str.empty = true
  hd : PySem.W.hasDictIn K C = true
  po : PySem.W.plainOver K C = true
  sa : PySem.W.findIn K (.ref C) "__setattr__" = some (some (.builtin "object.__setattr__"))
theorem Cls.get {K : PySem.W.Frag} {C : Addr} (c : Cls K C) (f : Str) : PySem.W.plainGet K C f = true := c.pg
/-- no class of it has the name -/
def NoAttr (K : PySem.W.Frag) (C : Addr) (f : Str) : Prop := PySem.W.findIn K (.ref C) f = some none
theorem NoAttr.taker {K : PySem.W.Frag} {C : Addr} {f : Str} (n : NoAttr K C f) : PySem.W.takerIn K C f = some none := by
  unfold PySem.W.takerIn
  rw [show PySem.W.findIn K (.ref C) f = some none from n]
  rfl
/-- a constant of the class -/
structure Con (K : PySem.W.Frag) (C : Addr) (f : Str) (v : V) (u : Value) : Prop where
  at_ : PySem.W.findIn K (.ref C) f = some (some u)
  rel : RelV v u
  get : PySem.W.specialIn K u "__get__" = some none
  cp : PySem.W.copiedNames.contains f = false
/-- a method: a plain def of the class or of one above it -/
structure Meth (K : PySem.W.Frag) (C : Addr) (m : Str) (f : Addr) : Prop where
  at_ : PySem.W.findIn K (.ref C) m = some (some (.ref f))
  fn : PySem.W.isFn K (.ref f) = true
  kp : PySem.W.keepIn K (.ref f) = true

section
variable {X : Cx} {pins : List (Addr × Obj)} {σ : St} {H : Hp} {s : Shared} {a C dx : Addr} {fs : List (Str × V)} {f : Str} {v : V} {A : Around} {E : Value → Shared → Prop}

theorem getattr_ok {b : Bool} {Q : Value → Shared → Prop} (I : Inv X pins σ H s) (e : H a = some (.ins C dx fs)) (c : Cls X.K C) (n : NoAttr X.K C f) (l : fs.lookup f = some v)
    (h : ∀ u s', Inv X pins σ H s' → RelV v u → Q u s') : wpAny (model X.prog X.w) A (getAttr (.ref a) f b) Q E s := by
  obtain ⟨mA, O, r, _, _, _⟩ := ins_get I.hok e
  obtain ⟨u, hu, ru⟩ := RelO.some_of (v := v) (o := mA f) (by rw [← l]; exact r f)
  exact get_map I.kIn O (c.get f) c.hd n hu (handed_of ru) (h u _ (I.tok _) ru)

theorem getmeth_ok {m : Str} {g : Addr} {pl : Sem Bool} {Q : Value × List Value → Shared → Prop} (I : Inv X pins σ H s) (e : H a = some (.ins C dx fs)) (c : Cls X.K C) (k : Meth X.K C m g) (l : fs.lookup m = none)
    (h : Q (.ref g, [.ref a]) s) : wpAny (model X.prog X.w) A (getMethod (.ref a) m pl) Q E s := by
  obtain ⟨mA, O, r, _, _, _⟩ := ins_get I.hok e
  have hn : mA m = none := RelO.none_of (by rw [← l]; exact r m)
  exact get_meth I.kIn O (c.get m) k.at_ k.fn hn h

theorem setattr_ok {y : V} {u : Value} {Q : Unit → Shared → Prop} (I : Inv X pins σ H s) (e : H a = some (.ins C dx fs)) (c : Cls X.K C) (n : NoAttr X.K C f) (hl : fs.length < 1000) (ry : RelV y u)
    (h : ∀ s', Inv X pins σ (upd H a (.ins C dx (putF f y fs))) s' → Q () s') : wpAny (model X.prog X.w) A (setAttr (.ref a) f u) Q E s := by
  obtain ⟨mA, O, r, wi, _, ho⟩ := ins_get I.hok e
  have hz : (fs.map (·.1)).length ≤ sizeLine := by rw [List.length_map, sizeLine_eq]; omega
  refine set_map I.kIn O c.sa c.po n.taker c.hd wi hz fun h' O' sb => h _ ?_
  have hd : ∃ o, h'.get? dx = some o := let ⟨o, _, _, e', _⟩ := O'.ns; ⟨o, e'⟩
  refine I.write (x := a) (e := dx) (by rw [e]; exact True.intro) (.inr ho) (fun b q hb z => (sb.2 b hb).trans z) hd ?_
  refine ⟨by rw [upd_ne O.ne]; exact ho, ?_, O.ne, O'.obj, _, O'.ns, fun g => ?_, fun g hg => ?_⟩
  · have := length_putF f y fs; omega
  · show RelO ((putF f y fs).lookup g) (if g = f then some u else mA g)
    rw [lookup_putF]
    by_cases q : g = f
    · rw [if_pos q, if_pos q]; exact ry
    · rw [if_neg q, if_neg q]; exact r g
  · by_cases q : g = f
    · rw [q]; exact (keys_putF f y fs).1
    · refine (keys_putF f y fs).2 g (wi g fun z => hg ?_)
      show (if g = f then some u else mA g) = none
      rw [if_neg q]; exact z

/-- a new instance, tracked, without attributes -/
theorem Inv.made (I : Inv X pins σ H s) : Inv X pins σ (upd (upd H s.heap.objs.size (.own (s.heap.objs.size + 1))) (s.heap.objs.size + 1) (.ins C s.heap.objs.size []))
    { s with heap := (s.heap.push PySem.W.emptyDict).push (PySem.W.instObj C s.heap.objs.size) } := by
  have e1 : (s.heap.push PySem.W.emptyDict).get? s.heap.objs.size = some PySem.W.emptyDict := Heap.get?_push_size s.heap rfl
  have e2 : ((s.heap.push PySem.W.emptyDict).push (PySem.W.instObj C s.heap.objs.size)).get? (s.heap.objs.size + 1) = some (PySem.W.instObj C s.heap.objs.size) := by
    have := Heap.get?_push_size (s.heap.push PySem.W.emptyDict) (o := PySem.W.instObj C s.heap.objs.size) rfl
    rwa [Heap.size_push] at this
  have e3 : (s.heap.push PySem.W.emptyDict).Ns s.heap.objs.size (fun _ => none) := ⟨PySem.W.emptyDict, #[], _, e1, rfl, (fun e he => absurd he (by simp)), fun _ => rfl⟩
  have I1 := I.laid (a := s.heap.objs.size) (o := .own (s.heap.objs.size + 1)) (h' := s.heap.push PySem.W.emptyDict) (t' := s.toks) (fun b u q => Heap.get?_push_of_some _ q) (Nat.le_refl _) ⟨_, e1⟩
  refine I1.laid (a := s.heap.objs.size + 1) (o := .ins C s.heap.objs.size []) (t' := s.toks) (fun b u q => Heap.get?_push_of_some _ q) (Nat.le_of_eq (Heap.size_push _ _)) ?_
  have ne : s.heap.objs.size ≠ s.heap.objs.size + 1 := Nat.ne_of_lt (Nat.lt_succ_self _)
  refine ⟨by rw [upd_ne ne, upd_same], Nat.zero_le _, ne, e2, fun _ => none, (Heap.Ns1.of_empty e3).at fun o q => Heap.get?_push_of_some _ q, fun _ => True.intro, fun y hy => absurd rfl hy⟩

/-- e.f where nothing but the object is asked: through attributeBase (super) and the last hold -/
theorem attr_of {prog : Program} {w : World} {env : Env} {e : Expr} {f : Str} {pos : Pos} {s : Shared} {Q : Value → Shared → Prop} (hb : attributeBase e f env (eval e env) = eval e env)
    (h : wpAny (model prog w) A (eval e env) (fun o s₁ => wpAny (model prog w) A (getAttr o f true) Q E s₁) E s) : wpAny (model prog w) A (eval (.Attribute e f pos) env) Q E s :=
  Attribute_any_ h (by rw [arm_eval_Attribute, hb])
end

/-! ### readings and rules -/
/-- e.f, an attribute of the instance -/
def tFld (K : PySem.W.Frag) (ta : TE) (f : Str) : TE := fun σ H Q => ta σ H fun x H1 => ∃ a C dx fs v, x = .ref a ∧ H1 a = some (.ins C dx fs) ∧ Cls K C ∧ NoAttr K C f ∧ fs.lookup f = some v ∧ Q v H1
/-- e.f, a constant of the class -/
def tCon (K : PySem.W.Frag) (ta : TE) (f : Str) : TE := fun σ H Q => ta σ H fun x H1 => ∃ a C dx fs v u, x = .ref a ∧ H1 a = some (.ins C dx fs) ∧ Cls K C ∧ Con K C f v u ∧ fs.lookup f = none ∧ Q v H1
/-- e.f = value -/
def sFld (K : PySem.W.Frag) (ta tv : TE) (f : Str) : TS := fun D σ H => tv σ H fun y H1 => ta σ H1 fun x H2 => ∃ a C dx fs, x = .ref a ∧ H2 a = some (.ins C dx fs) ∧ Cls K C ∧ NoAttr K C f ∧ fs.length < 1000 ∧
  D.nx σ (upd H2 a (.ins C dx (putF f y fs)))
/-- an augmented operator on two values -/
def InOp (X : Cx) (op : Operator) (rd : V → V → Hp → VK → Prop) : Prop :=
  ∀ (pins : List (Addr × Obj)) (s : Shared) (σ : St) (H : Hp) (x y : V) (u v : Value) (Q : VK), Inv X pins σ H s → RelV x u → RelV y v → rd x y H Q → wpAny (model X.prog X.w) X.A (inplaceOp op u v) (EP X pins σ Q) X.xe s
/-- e.f op= value -/
def sFldAug (K : PySem.W.Frag) (ta tv : TE) (rd : V → V → Hp → VK → Prop) (f : Str) : TS := fun D σ H => ta σ H fun x H1 => ∃ a C dx fs v, x = .ref a ∧ H1 a = some (.ins C dx fs) ∧ Cls K C ∧ NoAttr K C f ∧ fs.lookup f = some v ∧
  tv σ H1 fun y H2 => rd v y H2 fun z H3 => ∃ dx' fs', H3 a = some (.ins C dx' fs') ∧ fs'.length < 1000 ∧ D.nx σ (upd H3 a (.ins C dx' (putF f z fs')))

section
variable {X : Cx} {o e value : Expr} {f : Str} {pos pos' tpos : Pos} {ta tv : TE}
theorem pe_fld (he : PE X e ta) (hb : attributeBase e f X.env (eval e X.env) = eval e X.env) : PE X (.Attribute e f pos) (tFld X.K ta f) := by
  intro pins s σ H Q I h
  refine attr_of hb (thn (he pins s σ H _ I h) fun u s1 ⟨x, H1, I1, rx, a, C, dx, fs, v, ex, ea, c, n, l, q⟩ => ?_)
  subst ex
  obtain rfl : u = Value.ref a := rx
  exact getattr_ok I1 ea c n l fun u' s2 I2 ru => ⟨v, H1, I2, ru, q⟩
theorem ps_fld (ha : PE X o ta) (hv : PE X value tv) (hs : swapsWith value (some (.Attribute o f pos')) pos.line X.env = pure false) : PS X (.Assign [.Attribute o f pos'] value pos) (sFld X.K ta tv f) := by
  intro pins s σ H D I h
  refine plainObj_wpAny_Assign_Attribute (thn (hv pins s σ H _ I h) fun u s1 ⟨y, H1, I1, ry, q⟩ => thn (ha pins s1 σ H1 _ I1 q) fun ov s2 ⟨x, H2, I2, rx, a, C, dx, fs, ex, ea, c, n, l, q2⟩ => ?_) hs
  subst ex
  obtain rfl : ov = Value.ref a := rx
  exact setattr_ok I2 ea c n l ry fun s3 I3 => ⟨σ, _, I3, q2⟩
def rAdd : V → V → Hp → VK → Prop := fun x y H Q => ∃ i j, x = .int i ∧ y = .int j ∧ Q (.int (i + j)) H
def rSub : V → V → Hp → VK → Prop := fun x y H Q => ∃ i j, x = .int i ∧ y = .int j ∧ Q (.int (i - j)) H
end

/-! ### isinstance -/
section
variable {X : Cx} {pins : List (Addr × Obj)} {σ : St} {H : Hp} {s : Shared} {A : Around} {E : Value → Shared → Prop} {Q : Value → Shared → Prop} {c : Value} {b : Bool}
/-- the type of a value, as the fragment's deciders take it; for an instance its class -/
inductive TyOf (K : PySem.W.Frag) (H : Hp) : V → Value → Prop where
  | non : TyOf K H .non (.type "NoneType")
  | bl (x : Bool) : TyOf K H (.bl x) (.type "bool")
  | int (i : Int) : TyOf K H (.int i) (.type "int")
  | str (x : Str) : TyOf K H (.str x) (.type "str")
  | flt (x : UInt64) : TyOf K H (.flt x) (.type "float")
  | lst {a : Addr} {xs : List V} (e : H a = some (.lst xs)) : TyOf K H (.ref a) (.type "list")
  | frz {a : Addr} {o : Obj} {xs : List V} (e : H a = some (.frz o (.lst xs))) : TyOf K H (.ref a) (.type "list")
  | tup {a : Addr} {xs : List V} (e : H a = some (.tup xs)) : TyOf K H (.ref a) (.type "tuple")
  | dK {a : Addr} {kvs : List (Key × V)} (e : H a = some (.dK kvs)) : TyOf K H (.ref a) (.type "dict")
  | dT {a : Addr} {kvs : List (List Key × V)} (e : H a = some (.dT kvs)) : TyOf K H (.ref a) (.type "dict")
  | ins {a C dx : Addr} {fs : List (Str × V)} (e : H a = some (.ins C dx fs)) (cl : Cls K C) (ha : PySem.W.findIn K (.ref C) "__class__" = some (some (.builtin "object.__class__")))
      (hn : PySem.W.specialIn K (.builtin "object.__class__") "__get__" = some (some (.builtin "getset_descriptor.__get__"))) (htk : PySem.W.takesIn K (.builtin "object.__class__") = some true)
      (hm : PySem.W.mroIn K C (.type "object") = some true) : TyOf K H (.ref a) (.ref C)
/-- isinstance(x, c) for one class c, a built-in or an own one: kitOne's answer -/
theorem isinst_ok {x : V} {u t : Value} (I : Inv X pins σ H s) (rx : RelV x u) (ty : TyOf X.K H x t) (e : PySem.W.kitOne X.K t c = some b) (h : ∀ tk, Q (.bool b) { s with toks := tk }) :
    wpAny (model X.prog X.w) A (call (.builtin "isinstance") [u, c]) Q E s := by
  cases ty with
  | non => cases (show u = Value.none from rx); exact PySem.W.kia_one PySem.W.kitx_none I.kIn True.intro e (fun z => nomatch z) h
  | bl y => cases (show u = Value.bool y from rx); exact PySem.W.kia_one PySem.W.kitx_bool I.kIn True.intro e (fun z => nomatch z) h
  | int i => obtain ⟨t, q⟩ := (show ∃ t, u = Value.int i t from rx); cases q; exact PySem.W.kia_one PySem.W.kitx_int I.kIn True.intro e (fun z => nomatch z) h
  | str y => obtain ⟨t, q⟩ := (show ∃ t, u = Value.str y t from rx); cases q; exact PySem.W.kia_one PySem.W.kitx_str I.kIn True.intro e (fun z => nomatch z) h
  | flt y => obtain ⟨t, q⟩ := (show ∃ t, u = Value.float y t from rx); cases q; exact PySem.W.kia_one PySem.W.kitx_float I.kIn True.intro e (fun z => nomatch z) h
  | @lst a xs ea =>
    cases (show u = Value.ref a from rx)
    obtain ⟨_, _, n, _, h1⟩ := (show ObjOk X.prog X.w H s.heap a (.lst xs) from I.hok a _ ea)
    exact PySem.W.kia_one PySem.W.kitx_list I.kIn ⟨_, h1, rfl⟩ e (fun z => nomatch z) h
  | @frz a ob xs ea =>
    cases (show u = Value.ref a from rx)
    obtain ⟨_, _, _, n, _, h1⟩ := (show ObjOk X.prog X.w H s.heap a (.frz ob (.lst xs)) from I.hok a _ ea)
    exact PySem.W.kia_one PySem.W.kitx_list I.kIn ⟨_, h1, rfl⟩ e (fun z => nomatch z) h
  | @tup a xs ea =>
    cases (show u = Value.ref a from rx)
    obtain ⟨_, _, _, p⟩ := (show ObjOk X.prog X.w H s.heap a (.tup xs) from I.hok a _ ea)
    obtain ⟨o, h1, h2, _⟩ := p
    exact PySem.W.kia_one PySem.W.kitx_tuple I.kIn ⟨o, h1, h2⟩ e (fun z => nomatch z) h
  | @dK a kvs ea =>
    cases (show u = Value.ref a from rx)
    obtain ⟨_, _, vs, _, p⟩ := (show ObjOk X.prog X.w H s.heap a (.dK kvs) from I.hok a _ ea)
    obtain ⟨o, es, ep, h1, h2, _⟩ := p
    exact PySem.W.kia_one PySem.W.kitx_dict I.kIn ⟨o, h1, h2.1⟩ e (fun z => nomatch z) h
  | @dT a kvs ea =>
    cases (show u = Value.ref a from rx)
    obtain ⟨_, _, xs, _, o, es, ep, h1, h2, _⟩ := (show ObjOk X.prog X.w H s.heap a (.dT kvs) from I.hok a _ ea)
    exact PySem.W.kia_one PySem.W.kitx_dict I.kIn ⟨o, h1, h2.1⟩ e (fun z => nomatch z) h
  | @ins a C dx fs ea cl ha hn htk hm =>
    cases (show u = Value.ref a from rx)
    obtain ⟨mA, O, _⟩ := ins_get I.hok ea
    obtain ⟨od, J, _⟩ := O.look
    exact PySem.W.kia_one (PySem.W.kitx_own (cl.get _) cl.hd ha hn htk hm) I.kIn J e (fun z => nomatch z) h
end
end L2

namespace L2
open PySem PySem.Spec PyProof.Rows

/-! ### room -/
structure Room (k : Nat) (A : Around) : Prop where
  hd : A.handled = none
  dp : A.depth + 3 * k + 5 < recursionLimit
  un : A.units + 16 * k + 200 < cLine
theorem Room.mono {j k : Nat} {A : Around} (r : Room k A) (h : j ≤ k) : Room j A := ⟨r.hd, by have := r.dp; omega, by have := r.un; omega⟩
theorem Room.deeper {k : Nat} {A : Around} (r : Room (k + 1) A) (env : Env) : Room k (A.deeper env) :=
  ⟨r.hd, by have := r.dp; show A.depth + 1 + 3 * k + 5 < _; omega, by have := r.un; show A.units + 3 + 16 * k + 200 < _; omega⟩
theorem make_depth {A : Around} {C : Addr} {us : List Value} {kw : List (Str × Value)} : (A.under (.builtin "type.__call__" ⟨.ref C :: us, kw⟩)).depth = A.depth + 1 := by
  first | rfl | simp [Around.under, Code.weight, Code.isCreation, Code.isGuard, Code.isCaller, Code.frames, Code.isFrame, guardIds]
theorem make_units {A : Around} {C : Addr} {us : List Value} {kw : List (Str × Value)} : (A.under (.builtin "type.__call__" ⟨.ref C :: us, kw⟩)).units = A.units + 1 := by
  first | rfl | simp [Around.under, Code.cUnits, Code.frames, Code.isFrame]
theorem Room.make {k : Nat} {A : Around} (r : Room (k + 1) A) (C : Addr) (us : List Value) (kw : List (Str × Value)) : Room k (A.under (.builtin "type.__call__" ⟨.ref C :: us, kw⟩)) :=
  ⟨r.hd, by have := r.dp; rw [make_depth]; omega, by have := r.un; rw [make_units]; omega⟩
theorem Room.depth {k : Nat} {A : Around} (r : Room k A) : A.depth < recursionLimit := by have := r.dp; omega
theorem Room.units {k : Nat} {A : Around} (r : Room k A) : A.units + 64 < cLine := by have := r.un; omega
/-! ### argument lists and displays -/
def tNil : TA := fun _ H Q => Q [] H
def tCons (ta : TE) (tr : TA) : TA := fun σ H Q => ta σ H fun x H1 => tr σ H1 fun xs H2 => Q (x :: xs) H2
section
variable {X : Cx} {e : Expr} {es : List Expr} {te : TE} {t : TA} {pos : Pos}
theorem pa_nil : PA X [] tNil := fun _ _ _ _ H Q I h => Calls.spliced_nil ⟨[], H, I, .nil, h⟩
theorem pa_cons (ha : PE X e te) (hr : PA X es t) (hs : starEach (e :: es) X.env = (false, eval e X.env) :: starEach es X.env := by rfl) : PA X (e :: es) (tCons te t) := by
  intro pos pins s σ H Q I h
  rw [hs]
  show wpAny _ _ (spliced ((false, eval e X.env) :: backTo pos (starEach es X.env))) _ _ s
  refine Calls.spliced_cons (thn (ha pins s σ H _ I h) fun u s1 ⟨x, H1, I1, r1, q1⟩ => ?_)
  exact thn (hr pos pins s1 σ H1 _ I1 q1) fun us s2 ⟨xs, H2, I2, r2, q2⟩ => ⟨x :: xs, H2, I2, .cons r1 r2, q2⟩

/-- a tuple, a list of written items -/
def tTup (t : TA) : TE := fun σ H Q => t σ H fun xs H1 => xs.length ≤ sizeLine ∧ ∀ p, H1 p = none → Q (.ref p) (upd H1 p (.tup xs))
def tLst (t : TA) : TE := fun σ H Q => t σ H fun xs H1 => xs.length ≤ sizeLine ∧ ∀ p, H1 p = none → Q (.ref p) (upd H1 p (.lst xs))
theorem pe_tup {x1} (h : PA X es t) : PE X (.Tuple es x1 pos) (tTup t) := by
  intro pins s σ H Q I hq
  refine wpAny_Tuple_spliced (thn (h pos pins s σ H _ I hq) fun us s1 ⟨xs, H1, I1, r, z, q⟩ => ⟨by rw [← r.length]; exact z, ?_⟩)
  have hf : H1 s1.heap.objs.size = none := I1.hok.fresh (Nat.le_refl _)
  refine ⟨.ref s1.heap.objs.size, upd H1 s1.heap.objs.size (.tup xs), I1.laid (t' := s1.toks) (fun b u e => Heap.get?_push_of_some _ e) (Nat.le_refl _) ?_, rfl, q _ hf⟩
  exact ⟨z, us, r, ⟨_, Heap.get?_push_size _ rfl, rfl, _, rfl⟩⟩
theorem pe_lst (h : PA X es t) : PE X (.List es pos) (tLst t) := by
  intro pins s σ H Q I hq
  refine wpAny_List_spliced (thn (h pos pins s σ H _ I hq) fun us s1 ⟨xs, H1, I1, r, z, q⟩ => ⟨by rw [← r.length]; exact z, ?_⟩)
  have hf : H1 s1.heap.objs.size = none := I1.hok.fresh (Nat.le_refl _)
  refine ⟨.ref s1.heap.objs.size, upd H1 s1.heap.objs.size (.lst xs), I1.laid (t' := s1.toks) (fun b u e => Heap.get?_push_of_some _ e) (Nat.le_refl _) ?_, rfl, q _ hf⟩
  exact ⟨z, us, 0, r, Heap.get?_push_size _ rfl⟩
end

/-! ### what a def promises -/
/-- a def's promise: the bound arguments in the parameters' order, the heap, the wanted end, the wanted exception -/
abbrev Sp := List V → Hp → VK → XK → Prop
/-- how an exception lies behind a call (file 08 gives it): the callers' frames, abstract heap and state ahead of the call, the wish, the exception, the state -/
abbrev CXT := List Env → Hp → Shared → XK → Value → Shared → Prop

/-- the state at a call -/
structure Env0 (P : Program) (w : World) (K : PySem.W.Frag) (mg : Str → Option Value) (base : Heap) (A : Around) (outer : List Env) (s : Shared) (H : Hp) : Prop where
  frames : A.frames = some outer
  mod : Mod K mg base
  bs : ∀ b o, base.get? b = some o → s.heap.get? b = some o ∧ H b = none
  bsz : base.objs.size ≤ s.heap.objs.size
  funs : s.heap.FunFrames base outer
  frf : ∀ b ∈ frs outer, H b = none
  hok : HOk P w H s.heap
  bare : AllBare s.gens
/-- a call's end -/
def CE (outer : List Env) (P : Program) (w : World) (H : Hp) (s : Shared) (Q : VK) (u : Value) (s' : Shared) : Prop :=
  ∃ v H', s'.os = s.os ∧ AllBare s'.gens ∧ Un (frs outer) [] H H' s.heap s'.heap ∧ HOk P w H' s'.heap ∧ RelV v u ∧ Q v H'
def CR (CX : CXT) (outer : List Env) (P : Program) (w : World) (H : Hp) (s : Shared) (Q : VK) (E : XK) (r : Result) (s' : Shared) : Prop :=
  match r with
  | .ok (.ret u) => CE outer P w H s Q u s'
  | .ok _ => False
  | .error e => CX outer H s E e s'
structure FnOk (P : Program) (w : World) (K : PySem.W.Frag) (mg : Str → Option Value) (base : Heap) (CX : CXT) (k : Nat) (f : Addr) (fd : FuncData) (ps : List Str) (sp : Sp) : Prop where
  len : ∀ vs H Q E, sp vs H Q E → vs.length = ps.length
  run : ∀ (A : Around) (outer : List Env) (s : Shared) (H : Hp) (args : Args) (us : List Value) (vs : List V) (Q : VK) (E : XK), Room k A → Env0 P w K mg base A outer s H → BindsTo s fd args (ps.zip us) → Vals vs us → sp vs H Q E →
    codeAny (model P w) A (.call (.ref f) args) (CR CX outer P w H s Q E) s
theorem FnOk.mono {P : Program} {w : World} {K : PySem.W.Frag} {mg : Str → Option Value} {base : Heap} {CX : CXT} {j k : Nat} {f : Addr} {fd : FuncData} {ps : List Str} {sp : Sp} (F : FnOk P w K mg base CX j f fd ps sp) (h : j ≤ k) :
    FnOk P w K mg base CX k f fd ps sp := ⟨F.len, fun A outer s H args us vs Q E hr => F.run A outer s H args us vs Q E (hr.mono h)⟩
theorem Env0.make {P : Program} {w : World} {K : PySem.W.Frag} {mg : Str → Option Value} {base : Heap} {A : Around} {outer : List Env} {s : Shared} {H : Hp} (e : Env0 P w K mg base A outer s H) (C : Addr) (us : List Value) (kw : List (Str × Value)) :
    Env0 P w K mg base (A.under (.builtin "type.__call__" ⟨.ref C :: us, kw⟩)) outer s H := ⟨by first | exact e.frames | (simpa [Around.under, Code.envs, Code.isFrame, pushEnvs] using e.frames), e.mod, e.bs, e.bsz, e.funs, e.frf, e.hok, e.bare⟩
section
variable {X : Cx} {pins : List (Addr × Obj)} {σ : St} {H : Hp} {s s' : Shared}
/-- from a body: what a callee wants -/
theorem Inv.env0 (I : Inv X pins σ H s) : Env0 X.prog X.w X.K X.mg X.base X.A X.stack s H :=
  ⟨I.ok.frames, I.ok.mod, I.bs, Nat.le_trans I.ok.bsz I.sz, I.stack, I.stkFree, I.hok, I.bare⟩
/-- behind a call -/
theorem Inv.after {Q : VK} {u : Value} (I : Inv X pins σ H s) (h : CE X.stack X.prog X.w H s Q u s') : EP X pins σ Q u s' := by
  obtain ⟨v, H', os, bare, un, hok, r, q⟩ := h
  obtain ⟨hh, g, d, t, os'⟩ := s'
  obtain rfl : os' = s.os := os
  exact ⟨v, H', I.call (h' := hh) (g' := g) (d' := d) (t' := t) (ch := []) un hok bare (fun b z => absurd z (by simp)), r, q⟩
end

/-! ### calls -/
/-- f(..): the written arguments, then the defaults dvs; E: what is wanted of an exception -/
def tCall (sp : Sp) (dvs : List V) (E : XK) (t : TA) : TE := fun σ H Q => t σ H fun vs H1 => sp (vs ++ dvs) H1 Q E
/-- o.m(..) of an instance of the class at C -/
def tMeth (C : Addr) (m : Str) (sp : Sp) (dvs : List V) (E : XK) (ta : TE) (t : TA) : TE := fun σ H Q => ta σ H fun x H1 => ∃ a dx fs, x = .ref a ∧ H1 a = some (.ins C dx fs) ∧ fs.lookup m = none ∧
  t σ H1 fun vs H2 => sp (x :: (vs ++ dvs)) H2 Q E
/-- C(..): a new instance and its dict, then __init__ -/
def tMake (C : Addr) (sp : Sp) (dvs : List V) (E : XK) (t : TA) : TE := fun σ H Q => t σ H fun vs H1 => ∀ x dx, H1 x = none → H1 dx = none → dx ≠ x →
  sp (.ref x :: (vs ++ dvs)) (upd (upd H1 dx (.own x)) x (.ins C dx [])) (fun v H2 => v = .non ∧ Q (.ref x) H2) E

/-- how the parameters are bound: us the positional arguments, kw the keywords' values by name, ds the defaults that fill up -/
def Binds (K : PySem.W.Frag) (fd : FuncData) (ps : List Str) (ds : List Value) : Prop :=
  ∀ (s : Shared) (us : List Value), K.In s.heap → (us ++ ds).length = ps.length → BindsTo s fd ⟨us, []⟩ (ps.zip (us ++ ds))
/-- every parameter is given -/
theorem Binds.all {K : PySem.W.Frag} {fd : FuncData} {ps : List Str} (h : ∀ us : List Value, us.length = ps.length → bindArgs fd ⟨us, []⟩ = pure (ps.zip us)) : Binds K fd ps [] := fun s us _ hl => by
  rw [List.append_nil] at hl ⊢
  exact .of_eq (h us hl)

/-- an exception of a callee reaches what this body wants of exceptions -/
def Passes (CX : CXT) (X : Cx) (E : XK) : Prop := ∀ (pins : List (Addr × Obj)) (σ : St) (H : Hp) (s : Shared) (e : Value) (s' : Shared), Inv X pins σ H s → CX X.stack H s E e s' → X.xe e s'

section
variable {X : Cx} {CX : CXT} {k : Nat} {f C : Addr} {fd : FuncData} {ps : List Str} {sp : Sp} {dvs : List V} {ds : List Value} {E : XK} {x m : Str} {p pos apos : Pos} {e o : Expr} {es : List Expr} {ta : TE} {t : TA}

/-- the callee runs -/
theorem run_fn {pins : List (Addr × Obj)} {σ : St} {H : Hp} {s : Shared} {Q : VK} {us : List Value} {vs : List V} (F : FnOk X.prog X.w X.K X.mg X.base CX k f fd ps sp) (hr : Room k X.A) (hb : Binds X.K fd ps ds) (hd : Vals dvs ds) (hx : Passes CX X E)
    (I : Inv X pins σ H s) (r : Vals vs us) (h : sp (vs ++ dvs) H Q E) : wpAny (model X.prog X.w) X.A (call (.ref f) us) (EP X pins σ Q) X.xe s := by
  have r2 : Vals (vs ++ dvs) (us ++ ds) := r.append hd
  have hl : (us ++ ds).length = ps.length := by rw [← r2.length]; exact F.len _ _ _ _ h
  refine wpAny_call (codeAny_mono (F.run X.A X.stack s H ⟨us, []⟩ (us ++ ds) (vs ++ dvs) Q E hr I.env0 (hb s us I.kIn hl) r2 h) fun r s' hq => ?_)
  cases r with
  | error e => exact hx pins σ H s e s' I hq
  | ok fl =>
    cases fl with
    | ret u => exact I.after hq
    | next => exact False.elim hq
    | brk => exact False.elim hq
    | cont => exact False.elim hq

theorem pe_call (F : FnOk X.prog X.w X.K X.mg X.base CX k f fd ps sp) (hr : Room k X.A) (hg : Gl X x) (hm : X.mg x = some (.ref f)) (hk : PySem.W.keepIn X.K (.ref f) = true) (hb : Binds X.K fd ps ds) (hd : Vals dvs ds) (hx : Passes CX X E)
    (ha : PA X (e :: es) t) (hdb : (x == ("__debug__" : Str)) = false := by decide) (he : starEach (e :: es) X.env = (false, eval e X.env) :: starEach es X.env := by rfl) (hpl : (backTo pos (starEach es X.env)).any (·.1) = false := by rfl) :
    PE X (.Call (.Name x p) (e :: es) [] pos) (tCall sp dvs E t) := by
  intro pins s σ H Q I h
  refine wpAny_Call_Name_kw (ld_glob I hg hm ?_ hdb)
  refine PySem.W.callWith_K (h₀ := X.base) I.ok.mod.kin hk (thn (ha pos pins s σ H _ I h) fun us s1 ⟨vs, H1, I1, r, q⟩ => ⟨I1.kIn, ?_⟩) he hpl
  exact run_fn F hr hb hd hx I1 r q
/-- o.m(e, ..) -/
theorem pe_meth {pl : Sem Bool} (he : PE X o ta) (c : Cls X.K C) (hm : Meth X.K C m f) (F : FnOk X.prog X.w X.K X.mg X.base CX k f fd ps sp) (hr : Room k X.A) (hb : Binds X.K fd ps ds) (hd : Vals dvs ds) (hx : Passes CX X E) (ha : PA X (e :: es) t)
    (hst : starEach (e :: es) X.env = (false, eval e X.env) :: starEach es X.env := by rfl) (hpl : (backTo pos (starEach es X.env)).any (·.1) = false := by rfl)
    (ht : eval (.Call (.Attribute o m apos) (e :: es) [] pos) X.env = (do
      let ov ← eval o X.env
      standAt apos.atName
      let (f, first) ← holding [ov] (getMethod ov m pl)
      callWith pos f first (backTo pos (starEach (e :: es) X.env)) (backToKw pos (keywordEach [] X.env))) := by rfl) :
    PE X (.Call (.Attribute o m apos) (e :: es) [] pos) (tMeth C m sp dvs E ta t) := by
  intro pins s σ H Q I h
  refine PySem.W.methodCall_KW (pl := pl) (thn (he pins s σ H _ I h) fun u s1 ⟨x, H1, I1, rx, a, dx, fs, ex, ea, l, q⟩ => ?_) ht
  subst ex
  obtain rfl : u = Value.ref a := rx
  refine getmeth_ok I1 ea c hm l ?_
  refine PySem.W.callWith_K (first := [.ref a]) (h₀ := X.base) I.ok.mod.kin hm.kp (thn (ha pos pins s1 σ H1 _ I1 q) fun us s2 ⟨vs, H2, I2, r, q2⟩ => ⟨I2.kIn, ?_⟩) hst hpl
  exact run_fn (us := .ref a :: us) (vs := .ref a :: vs) F hr hb hd hx I2 (.cons rfl r) q2
/-- what a class must have to be made -/
structure Mk (K : PySem.W.Frag) (C f : Addr) : Prop where
  makes : PySem.W.makesIn K C = true
  init : PySem.W.findIn K (.ref C) "__init__" = some (some (.ref f))
  fn : PySem.W.isFn K (.ref f) = true
  kp : PySem.W.keepIn K (.ref C) = true

theorem run_make {pins : List (Addr × Obj)} {σ : St} {H : Hp} {s : Shared} {Q : VK} {us : List Value} {vs : List V} (M : Mk X.K C f) (F : FnOk X.prog X.w X.K X.mg X.base CX k f fd ps sp) (hr : Room (k + 1) X.A) (hb : Binds X.K fd ps ds) (hd : Vals dvs ds)
    (hx : Passes CX X E) (I : Inv X pins σ H s) (r : Vals vs us)
    (h : ∀ x dx, H x = none → H dx = none → dx ≠ x → sp (.ref x :: (vs ++ dvs)) (upd (upd H dx (.own x)) x (.ins C dx [])) (fun v H2 => v = .non ∧ Q (.ref x) H2) E) :
    wpAny (model X.prog X.w) X.A (call (.ref C) us) (EP X pins σ Q) X.xe s := by
  have hq := h (s.heap.objs.size + 1) s.heap.objs.size (I.hok.fresh (Nat.le_succ _)) (I.hok.fresh (Nat.le_refl _)) (Nat.ne_of_lt (Nat.lt_succ_self _))
  have I2 := Inv.made (C := C) I
  have r2 : Vals (V.ref (s.heap.objs.size + 1) :: (vs ++ dvs)) (Value.ref (s.heap.objs.size + 1) :: (us ++ ds)) := .cons rfl (r.append hd)
  have hl : (Value.ref (s.heap.objs.size + 1) :: us ++ ds).length = ps.length := by
    have e := r2.length
    rw [F.len _ _ _ _ hq] at e
    exact e.symm
  refine wpAny_call (make_map (f := f) I.kIn M.makes M.init (beq_iff_eq.mp M.fn) (codeAny_mono (F.run _ X.stack _ _ ⟨Value.ref (s.heap.objs.size + 1) :: us, []⟩ (Value.ref (s.heap.objs.size + 1) :: (us ++ ds)) _ _ E (hr.make C us [])
    (I2.env0.make C us []) (hb _ (Value.ref (s.heap.objs.size + 1) :: us) I2.kIn hl) r2 hq) fun r s' hq' => ?_))
  cases r with
  | error e => exact hx pins σ _ _ e s' I2 hq'
  | ok fl =>
    cases fl with
    | ret u =>
      obtain ⟨v, H', I3, rv, ev, q3⟩ := I2.after hq'
      subst ev
      exact ⟨rv, ⟨V.ref (s.heap.objs.size + 1), H', I3, rfl, q3⟩⟩
    | next => exact False.elim hq'
    | brk => exact False.elim hq'
    | cont => exact False.elim hq'
theorem pe_make (M : Mk X.K C f) (F : FnOk X.prog X.w X.K X.mg X.base CX k f fd ps sp) (hr : Room (k + 1) X.A) (hg : Gl X x) (hm : X.mg x = some (.ref C)) (hb : Binds X.K fd ps ds) (hd : Vals dvs ds) (hx : Passes CX X E)
    (ha : PA X (e :: es) t) (hdb : (x == ("__debug__" : Str)) = false := by decide) (he : starEach (e :: es) X.env = (false, eval e X.env) :: starEach es X.env := by rfl) (hpl : (backTo pos (starEach es X.env)).any (·.1) = false := by rfl) :
    PE X (.Call (.Name x p) (e :: es) [] pos) (tMake C sp dvs E t) := by
  intro pins s σ H Q I h
  refine wpAny_Call_Name_kw (ld_glob I hg hm ?_ hdb)
  refine PySem.W.callWith_K (h₀ := X.base) I.ok.mod.kin M.kp (thn (ha pos pins s σ H _ I h) fun us s1 ⟨vs, H1, I1, r, q⟩ => ⟨I1.kIn, ?_⟩) he hpl
  exact run_make M F hr hb hd hx I1 r q
end

/-! ### keywords -/
/-- the values of the keywords, from the left -/
def PK (X : Cx) (kws : List Keyword) (t : TA) : Prop :=
  ∀ (pos : Pos) (pins : List (Addr × Obj)) (s : Shared) (σ : St) (H : Hp) (Q : List V → Hp → Prop), Inv X pins σ H s → t σ H Q → wpAny (model X.prog X.w) X.A (evalAll ((backToKw pos (keywordEach kws X.env)).map (·.2))) (AP X pins σ Q) X.xe s
section
variable {X : Cx} {CX : CXT} {k : Nat} {f C : Addr} {fd : FuncData} {ps ks : List Str} {sp : Sp} {E : XK} {x m : Str} {p pos apos kpos : Pos} {e o : Expr} {es : List Expr} {kws : List Keyword} {te ta : TE} {t tk : TA} {nm : Option Str}
/-- how a call with keywords binds: g puts the positional values us and the keywords' values ws (names ks) in the parameters' order, defaults among them -/
structure KBinds (K : PySem.W.Frag) (fd : FuncData) (ps ks : List Str) (g : List Value → List Value → List Value) (gV : List V → List V → List V) : Prop where
  to : ∀ (s : Shared) (us ws : List Value), K.In s.heap → (g us ws).length = ps.length → BindsTo s fd ⟨us, ks.zip ws⟩ (ps.zip (g us ws))
  rel : ∀ {vs : List V} {us : List Value} {zs : List V} {ws : List Value}, Vals vs us → Vals zs ws → Vals (gV vs zs) (g us ws)
def tCallK (sp : Sp) (gV : List V → List V → List V) (E : XK) (t tk : TA) : TE := fun σ H Q => t σ H fun vs H1 => tk σ H1 fun zs H2 => sp (gV vs zs) H2 Q E
variable {g : List Value → List Value → List Value} {gV : List V → List V → List V}
end

/-! ### a def's body keeps its promise -/
/-- names: the parameters first -/
structure FnScope (N P : List Str) (sc : Scope) : Prop where
  kind : sc.kind = .function
  co : sc.isCoroutine = false
  gen : sc.isGenerator = false
  nd : N.Nodup
  pre : N.take P.length = P
  par : ∀ x ∈ P, sc.names.lookup x = some .local ∨ sc.names.lookup x = some .cell
  nofree : ∀ y ∈ sc.names, y.2 ≠ .free

theorem bindL_out {kindOf : Str → Option NameKind} {x : Str} : ∀ {binds : List (Str × Value)} {m : Str → Option Value}, (∀ v, (x, v) ∉ binds) → bindL kindOf binds m x = m x
  | [], _, _ => rfl
  | (n, v) :: r, m, h => by
    unfold bindL
    rw [bindL_out fun w hw => h w (List.mem_cons_of_mem _ hw)]
    split
    · have : x ≠ n := by rintro rfl; exact h v List.mem_cons_self
      simp [this]
    · rfl
theorem bindC_out {kindOf : Str → Option NameKind} {x : Str} : ∀ {binds : List (Str × Value)} {m : Str → Option Value}, (∀ v, (x, v) ∉ binds) → bindC kindOf binds m x = m x
  | [], _, _ => rfl
  | (n, v) :: r, m, h => by
    unfold bindC
    rw [bindC_out fun w hw => h w (List.mem_cons_of_mem _ hw)]
    split
    · rfl
    · have : x ≠ n := by rintro rfl; exact h v List.mem_cons_self
      simp [this]
theorem bindL_get {kindOf : Str → Option NameKind} {x : Str} {v : Value} : ∀ {P : List Str} {vs : List Value} {i : Nat} {m : Str → Option Value}, P.Nodup → P[i]? = some x → vs[i]? = some v → kindOf x = some .local →
    bindL kindOf (P.zip vs) m x = some v
  | [], _, _, _, _, h, _, _ => by simp at h
  | _ :: _, [], _, _, _, _, h, _ => by simp at h
  | p :: P, w :: vs, 0, m, nd, h1, h2, hk => by
    simp at h1 h2; subst h1; subst h2
    show bindL kindOf ((p, w) :: P.zip vs) m p = _
    unfold bindL
    rw [bindL_out fun v hv => (List.nodup_cons.mp nd).1 (List.of_mem_zip hv).1, if_pos hk]
    simp
  | p :: P, w :: vs, i + 1, m, nd, h1, h2, hk => by
    show bindL kindOf ((p, w) :: P.zip vs) m x = _
    unfold bindL
    exact bindL_get (i := i) (List.nodup_cons.mp nd).2 (by simpa using h1) (by simpa using h2) hk
theorem bindC_get {kindOf : Str → Option NameKind} {x : Str} {v : Value} : ∀ {P : List Str} {vs : List Value} {i : Nat} {m : Str → Option Value}, P.Nodup → P[i]? = some x → vs[i]? = some v → kindOf x ≠ some .local →
    bindC kindOf (P.zip vs) m x = some v
  | [], _, _, _, _, h, _, _ => by simp at h
  | _ :: _, [], _, _, _, _, h, _ => by simp at h
  | p :: P, w :: vs, 0, m, nd, h1, h2, hk => by
    simp at h1 h2; subst h1; subst h2
    show bindC kindOf ((p, w) :: P.zip vs) m p = _
    unfold bindC
    rw [bindC_out fun v hv => (List.nodup_cons.mp nd).1 (List.of_mem_zip hv).1, if_neg hk]
    simp
  | p :: P, w :: vs, i + 1, m, nd, h1, h2, hk => by
    show bindC kindOf ((p, w) :: P.zip vs) m x = _
    unfold bindC
    exact bindC_get (i := i) (List.nodup_cons.mp nd).2 (by simpa using h1) (by simpa using h2) hk

/-- the names' values at the entry -/
def start (N : List Str) (vs : List V) : St := vs.map some ++ List.replicate (N.length - vs.length) none

/-- the context of a def's body, at its entry; an exception leaves the frame, then lies as CX says -/
def cxOf (CX : CXT) (P : Program) (w : World) (K : PySem.W.Frag) (mg : Str → Option Value) (base : Heap) (N : List Str) (qual : Str) (scope : Scope) (f : Addr) (cd : Value) (A : Around) (outer : List Env) (s : Shared) (H : Hp) (E : XK) : Cx where
  prog := P
  w := w
  K := K
  mg := mg
  base := base
  A := A.deeper (envOfC qual scope s.heap.objs.size f cd)
  N := N
  s₀ := s
  H₀ := H
  env := envOfC qual scope s.heap.objs.size f cd
  outer := outer
  stack := envOfC qual scope s.heap.objs.size f cd :: outer
  ex := []
  calm := true
  fn := fun _ => true
  pn := []
  xe := fun e s' => wpAny (model P w) (A.deeper (envOfC qual scope s.heap.objs.size f cd)) (leaving (envOfC qual scope s.heap.objs.size f cd) e) (fun _ s'' => CX outer H s E e s'') (fun e' s'' => CX outer H s E e' s'') s'

theorem cell_has {sc : Scope} {n : Nat} {x : Str} (h : sc.names.lookup x = some .cell) : ∃ c, (cellsFrom n sc.names []).lookup x = some c := by
  have q := PySem.W.cellsFrom_some sc.names n [] (.inl h)
  exact Option.isSome_iff_exists.mp q

theorem inv_start {CX : CXT} {P : Program} {w : World} {K : PySem.W.Frag} {mg : Str → Option Value} {base : Heap} {N ps : List Str} {qual : Str} {scope : Scope} {f : Addr} {cd : Value} {A : Around} {outer : List Env} {s s1 : Shared} {H : Hp} {E : XK} {us : List Value} {vs : List V}
    (S : FnScope N ps scope) (hd : A.handled = none) (e0 : Env0 P w K mg base A outer s H) (hl : vs.length = ps.length) (r : Vals vs us)
    (x : InCallC s s.heap.objs.size (bindL (envOfC qual scope s.heap.objs.size f cd).kindOf (ps.zip us) fun _ => none) (cellsFrom (s.heap.objs.size + 1) scope.names []) (bindC (envOfC qual scope s.heap.objs.size f cd).kindOf (ps.zip us) fun _ => none) s1) :
    Inv (cxOf CX P w K mg base N qual scope f cd A outer s H E) [] (start N vs) H s1 := by
  have hpl : ps.length ≤ N.length := by have := congrArg List.length S.pre; rw [List.length_take] at this; omega
  obtain ⟨h1, tk, rfl, hk⟩ := x.done
  have noA : ∀ b : Addr, b ∉ (cxOf CX P w K mg base N qual scope f cd A outer s H E).ex := fun b z => absurd (show b ∈ ([] : List Addr) from z) (by simp)
  refine ⟨⟨e0.mod, S.kind, rfl, rfl, Nat.le_refl _, fun y z c h1 h2 => ?_, fun y hy => ?_, fun y c _ h => ?_, fun _ => hd, Around.frames_deeper e0.frames, .inr ⟨rfl, rfl⟩, fun b z => absurd z (noA b), e0.bs, e0.bsz, fun b _ _ => noA b, fun b z => absurd z (noA b), e0.funs, e0.frf⟩,
    rfl, e0.bare, Un.kept hk, ⟨_, x.toInCall.ns, fun i y v h1 h2 h3 => ?_⟩, fun y c h => ⟨_, x.cell y c h⟩, e0.hok.fresh (Nat.le_refl _), fun y c h => ?_, fun p hp => absurd (show p ∈ ([] : List (Addr × Obj)) from hp) (by simp), e0.hok.kept hk, ?_⟩
  · exact name_of_addr x.apart (PySem.mem_of_lookup h1) (PySem.mem_of_lookup h2)
  · have hy : scope.names.lookup y = some .cell ∨ scope.names.lookup y = some .free := hy
    rcases hy with hy | hy
    · exact cell_has hy
    · exact absurd rfl (S.nofree _ (PySem.mem_of_lookup hy))
  · exact Nat.le_of_lt (x.above y c (PySem.mem_of_lookup h))
  · have hi : i < vs.length := by
      unfold start at h2
      by_cases hi : i < vs.length
      · exact hi
      · rw [List.getElem?_append_right (by simpa using hi)] at h2
        rw [List.getElem?_replicate] at h2
        split at h2 <;> cases h2
    have ha : vs[i]? = some v := by
      unfold start at h2
      rw [List.getElem?_append_left (by simpa using hi), List.getElem?_map] at h2
      cases e : vs[i]? with
      | none => rw [e] at h2; cases h2
      | some a => rw [e] at h2; cases h2; rfl
    obtain ⟨u, hu, rv⟩ := r.get ha
    have hp : ps[i]? = some y := by
      rw [← S.pre, List.getElem?_take_of_lt (by omega)]; exact h1
    have ndP : ps.Nodup := by rw [← S.pre]; exact S.nd.sublist (List.take_sublist _ _)
    refine ⟨u, rv, ?_⟩
    rcases S.par y (List.mem_of_getElem? hp) with k | k
    · exact .inl ⟨k, bindL_get ndP hp hu k⟩
    · obtain ⟨c, e⟩ := cell_has (n := s.heap.objs.size + 1) k
      refine .inr ⟨.inl k, c, e, ?_⟩
      have q := x.cell y c e
      rw [bindC_get ndP hp hu (by show scope.names.lookup y ≠ _; rw [k]; decide)] at q
      exact q
  · exact e0.hok.fresh (Nat.le_of_lt (x.above y c (PySem.mem_of_lookup h)))
  · unfold start
    show _ = N.length
    rw [List.length_append, List.length_map, List.length_replicate]
    omega

/-- THE RULE: a def (or a method) of the text, by its body. The body's reading t is chosen for each entry; it is run at the parameters' values -/
theorem fn_of {CX : CXT} {P : Program} {w : World} {K : PySem.W.Frag} {mg : Str → Option Value} {base : Heap} {k : Nat} {f : Addr} {name qual : Str} {params : Arguments} {body : List Stmt} {scope : Scope} {dV kV doc pm cdv ct oc : Value} {an od : Option Addr}
    {osl : Array (Option Value)} {N ps : List Str} {sp : Sp} (lk : K.lookup f = some ⟨oc, od, .func (PySem.W.fnOf name qual params body scope dV kV doc pm an cdv ct), osl⟩) (hcd : PySem.W.codeIn K cdv qual = true) (S : FnScope N ps scope)
    (len : ∀ vs H Q E, sp vs H Q E → vs.length = ps.length)
    (hbody : ∀ (A : Around) (outer : List Env) (s : Shared) (H : Hp) (vs : List V) (Q : VK) (E : XK), Room k (A.deeper (envOfC qual scope s.heap.objs.size f cdv)) → sp vs H Q E →
      ∃ t, PSs (cxOf CX P w K mg base N qual scope f cdv A outer s H E) body t ∧ t { nx := fun _ H' => Q .non H', rt := Q } (start N vs) H) :
    FnOk P w K mg base CX (k + 1) f (PySem.W.fnOf name qual params body scope dV kV doc pm an cdv ct) ps sp := by
  refine ⟨len, fun A outer s H args us vs Q E hr e0 hb r hsp => ?_⟩
  have hl := len _ _ _ _ hsp
  have KX : K.In s.heap := e0.mod.kin.keeps fun b o e => (e0.bs b o e).1
  have lim : s.heap.NoLimit := e0.mod.nolimit.keeps fun b o e => (e0.bs b o e).1
  have hkind : ∀ y ∈ ps.zip us, scope.names.lookup y.1 = some .local ∨ (scope.names.lookup y.1 = some .cell ∧ ((cellsFrom (s.heap.objs.size + 1) scope.names []).lookup y.1).isSome = true) := fun ⟨n, v⟩ hy => by
    rcases S.par n (List.of_mem_zip hy).1 with q | q
    · exact .inl q
    · exact .inr ⟨q, PySem.W.cellsFrom_some _ _ _ (.inl q)⟩
  refine codeAny_call_function hr.depth (KX _ _ lk) rfl S.co S.gen rfl (PySem.W.codeRec_of KX hcd) (hb _ _ _ _ ?_)
  refine wpAny_newFunctionEnv_cells S.kind hkind fun env he s1 x => ?_
  subst he
  refine ⟨lim.keeps x.toInCall.keep, codeAny_func ?_⟩
  obtain ⟨t, ht, hq⟩ := hbody A outer s H vs Q E (hr.deeper _) hsp
  have I : Inv (cxOf CX P w K mg base N qual scope f cdv A outer s H E) [] (start N vs) H s1 := inv_start S hr.hd e0 hl r x
  refine wpAny_mono (ht [] s1 (start N vs) H _ I hq) (fun fl s' hs => ?_) fun e s' hs => hs
  have fin : ∀ {σ' : St} {H' : Hp} {v : V} {u : Value}, Inv (cxOf CX P w K mg base N qual scope f cdv A outer s H E) [] σ' H' s' → RelV v u → Q v H' → CE outer P w H s Q u s' :=
    fun {σ' H' v u} J rv q => ⟨v, H', J.os, J.bare, J.base, J.hok, rv, q⟩
  cases fl with
  | ret u =>
    obtain ⟨v, σ', H', J, rv, q⟩ := hs
    exact fin J rv q
  | next =>
    obtain ⟨σ', H', J, q⟩ := hs
    exact fin (v := V.non) (u := Value.none) J rfl q
  | brk =>
    obtain ⟨_, _, _, q⟩ := hs
    exact False.elim q
  | cont =>
    obtain ⟨_, _, _, q⟩ := hs
    exact False.elim q
end L2

namespace L2
open PySem PySem.Spec PyProof.Rows
section
variable {X : Cx} {x : Str} {p pos : Pos} {e : Expr} {es : List Expr} {t : TA} {id T : String} {r : List V → Hp → VK → Prop}

def tCB (r : List V → Hp → VK → Prop) (t : TA) : TE := fun σ H Q => t σ H fun vs H1 => r vs H1 Q
/-- f(e, ..), f a built-in function -/
theorem pe_callB (hc : CallR X (.builtin id) r) (hg : Gl X x) (hm : X.mg x = none) (hv : bootBuiltins x = some (.builtin id)) (ha : PA X (e :: es) t) (hn : x ≠ "__name__" := by decide) (hdb : (x == ("__debug__" : Str)) = false := by decide)
    (he : starEach (e :: es) X.env = (false, eval e X.env) :: starEach es X.env := by rfl) (hpl : (backTo pos (starEach es X.env)).any (·.1) = false := by rfl) : PE X (.Call (.Name x p) (e :: es) [] pos) (tCB r t) := by
  intro pins s σ H Q I h
  refine wpAny_Call_Name_kw (ld_blt I hg hm hv ?_ hn hdb)
  exact PyProof.Rows.callWith_builtin1 (thn (ha pos pins s σ H _ I h) fun us s1 ⟨vs, H1, I1, r1, q1⟩ => hc pins s1 σ H1 vs us Q I1 r1 q1) he hpl
/-- T(e, ..), T a built-in type -/
theorem pe_callTy (hc : CallR X (.type T) r) (hg : Gl X x) (hm : X.mg x = none) (hv : bootBuiltins x = some (.type T)) (ha : PA X (e :: es) t) (hn : x ≠ "__name__" := by decide) (hdb : (x == ("__debug__" : Str)) = false := by decide)
    (he : starEach (e :: es) X.env = (false, eval e X.env) :: starEach es X.env := by rfl) (hpl : (backTo pos (starEach es X.env)).any (·.1) = false := by rfl) : PE X (.Call (.Name x p) (e :: es) [] pos) (tCB r t) := by
  intro pins s σ H Q I h
  refine wpAny_Call_Name_kw (ld_blt I hg hm hv ?_ hn hdb)
  exact PyProof.Rows.callWith_type1 (thn (ha pos pins s σ H _ I h) fun us s1 ⟨vs, H1, I1, r1, q1⟩ => hc pins s1 σ H1 vs us Q I1 r1 q1) he hpl
end
end L2

namespace HT
open PySem PyProof.Rows

/-- t < u of tuples of ints -/
def lexLt : List Int → List Int → Bool
  | [], [] => false
  | [], _ :: _ => true
  | _ :: _, [] => false
  | x :: xs, y :: ys => if x = y then lexLt xs ys else decide (x < y)
section
open PySem.SeqAt
open PySem.AutoSeq1 (wpAny_loadPart')
open PySem.MeetsSeq PySem.MeetsSeq2 PySem.MeetsSeq3

end

section
variable {prog : Program} {w : World} {A : Around} {E : Value → Shared → Prop} {s : Shared}

/-! ### t[a:b], not the whole -/
/-- a slice's bound as a place among n (d where it is left out) -/
def sIx (n d : Nat) : Option Int → Nat
  | none => d
  | some v => if v < 0 then (v + (n : Int)).toNat else min v.toNat n
theorem sIx_nat (n d k : Nat) : sIx n d (some (k : Int)) = min k n := by
  show (if (k : Int) < 0 then ((k : Int) + (n : Int)).toNat else min (k : Int).toNat n) = min k n
  rw [if_neg (by omega), Int.toNat_natCast]
end
end HT

namespace L2
open PySem PySem.Spec PyProof.Rows

/-! ### the parts of a slice -/
abbrev TO := St → Hp → (Option Int → Hp → Prop) → Prop
/-- a slice's part (left out, or an int) -/
def PO (X : Cx) (e : Option Expr) (t : TO) : Prop :=
  ∀ (pins : List (Addr × Obj)) (s : Shared) (σ : St) (H : Hp) (Q : Option Int → Hp → Prop), Inv X pins σ H s → t σ H Q →
    wpAny (model X.prog X.w) X.A (evalPart e X.env) (fun u s' => ∃ o H', Inv X pins σ H' s' ∧ IsPart u o ∧ Q o H') X.xe s
def tNoPart : TO := fun _ H Q => Q none H
def tPart (t : TE) : TO := fun σ H Q => t σ H fun x H1 => ∃ i, x = .int i ∧ Q (some i) H1

section
variable {X : Cx} {e : Expr} {te : TE} {lo hi : Option Expr} {tl th : TO} {pos p2 : Pos}

theorem po_some (h : PE X e te) : PO X (some e) (tPart te) := by
  intro pins s σ H Q I hw
  rw [evalPart_some]
  refine thn (h pins s σ H _ I hw) fun u s1 ⟨x, H1, I1, r1, q1⟩ => ?_
  obtain ⟨i, rfl, q⟩ := q1
  obtain ⟨t, rfl⟩ := r1
  exact ⟨some i, H1, I1, .int i t, q⟩

/-- what a slice of a value is, by values: the slice object stands at sl -/
def SlR (X : Cx) (r : V → Option Int → Option Int → Hp → VK → Prop) : Prop :=
  ∀ (pins : List (Addr × Obj)) (s : Shared) (σ : St) (H : Hp) (x : V) (v vl vu : Value) (lo hi : Option Int) (sl : Addr) (Q : VK), Inv X pins σ H s → RelV x v → s.heap.IsSliceOf sl vl vu .none → IsPart vl lo → IsPart vu hi → r x lo hi H Q →
    ∃ T id, typeLookup (.type T) "__getitem__" = pure (some (.builtin id)) ∧ s.TypeIs v T ∧ wpAny (model X.prog X.w) X.A (getItem v (.ref sl)) (EP X pins σ Q) X.xe s
def tSl (r : V → Option Int → Option Int → Hp → VK → Prop) (te : TE) (tl th : TO) : TE := fun σ H Q => te σ H fun x H1 => tl σ H1 fun l H2 => th σ H2 fun u H3 => r x l u H3 Q
/-- a[lo:hi], any a -/
theorem pe_slice {r : V → Option Int → Option Int → Hp → VK → Prop} (hr : SlR X r) (he : PE X e te) (hl : PO X lo tl) (hu : PO X hi th) : PE X (.Subscript e (.Slice lo hi none p2) pos) (tSl r te tl th) := by
  intro pins s σ H Q I h
  refine Subscript_ (thn (he pins s σ H _ I h) fun v s1 ⟨x, H1, I1, r1, q1⟩ => ?_)
  refine wpAny_Slice (thn (hl pins s1 σ H1 _ I1 q1) fun vl s2 ⟨l, H2, I2, pl, q2⟩ => thn (hu pins s2 σ H2 _ I2 q2) fun vu s3 ⟨u, H3, I3, pu, q3⟩ => ?_)
  rw [evalPart_none]
  refine wpAny_pure ?_
  have I4 : Inv X pins σ H3 { s3 with heap := s3.heap.push { cls := .type "slice", data := .fields #[vl, vu, .none] } } := I3.kept (t' := s3.toks) fun b ob q => Heap.get?_push_of_some _ q
  obtain ⟨T, id, hT, ht, hg⟩ := hr pins { s3 with heap := s3.heap.push { cls := .type "slice", data := .fields #[vl, vu, .none] } } σ H3 x v vl vu l u s3.heap.objs.size Q I4 r1 (Heap.IsSliceOf.new ..) pl pu q3
  show wpAny (model X.prog X.w) X.A (subscriptTail e (.Slice lo hi none p2) v (.ref s3.heap.objs.size)) (EP X pins σ Q) X.xe { s3 with heap := s3.heap.push { cls := .type "slice", data := .fields #[vl, vu, .none] } }
  exact tail_any (ops := [.ref s3.heap.objs.size, v]) ht hT hg (by with_unfolding_all rfl)

/-- the items of xs[lo:hi] -/
def cutV (xs : List V) (lo hi : Option Int) : List V := (xs.drop (HT.sIx xs.length 0 lo)).take (HT.sIx xs.length xs.length hi - HT.sIx xs.length 0 lo)
theorem cutV_length (xs : List V) (lo hi : Option Int) : (cutV xs lo hi).length ≤ xs.length := by
  unfold cutV
  rw [List.length_take, List.length_drop]
  omega
/-- t[lo:hi], not the whole of it (the whole would be t itself) -/
def rSlT (K : PySem.W.Frag) : V → Option Int → Option Int → Hp → VK → Prop := fun x lo hi H Q => ∃ a xs, x = .ref a ∧ SqT K H a xs ∧
  ¬ (HT.sIx xs.length 0 lo = 0 ∧ HT.sIx xs.length xs.length hi = xs.length) ∧ ∀ p, H p = none → Q (.ref p) (upd H p (.tup (cutV xs lo hi)))
/-! ### t < u, t + u -/
def rLtT (K : PySem.W.Frag) : R2 := fun x y H Q => ∃ a b ns ms, x = .ref a ∧ y = .ref b ∧ SqT K H a (ns.map V.int) ∧ SqT K H b (ms.map V.int) ∧ Q (.bl (HT.lexLt ns ms)) H
/-- t + u, t not empty: u empty gives t itself -/
def rCatT (K : PySem.W.Frag) : R2 := fun x y H Q => ∃ a b xs ys, x = .ref a ∧ y = .ref b ∧ SqT K H a xs ∧ SqT K H b ys ∧ xs ≠ [] ∧ xs.length + ys.length ≤ sizeLine ∧
  (ys = [] → Q (.ref a) H) ∧ (ys ≠ [] → ∀ p, H p = none → Q (.ref p) (upd H p (.tup (xs ++ ys))))
end
end L2

namespace L2
open PySem PySem.Spec PyProof.Rows

/-! ### places -/
/-- the place that an index of any sign means -/
def ixN (n : Nat) (i : Int) : Option Nat := if 0 ≤ i then (if i < n then some i.toNat else none) else if -(n : Int) ≤ i then some (i + n).toNat else none
def atI {α : Type} (xs : List α) (i : Int) : Option α := (ixN xs.length i).bind fun j => xs[j]?
theorem ixN_seq {n : Nat} {i : Int} {j : Nat} (h : ixN n i = some j) : seqIndex? i n = some j ∧ j < n ∧ -(n : Int) ≤ i ∧ i < n := by
  unfold ixN at h
  by_cases h0 : 0 ≤ i
  · rw [if_pos h0] at h
    by_cases h1 : i < n
    · rw [if_pos h1] at h
      have e : i.toNat = j := Option.some.inj h
      exact ⟨by rw [seqIndex_of h0 h1, e], by omega, by omega, h1⟩
    · rw [if_neg h1] at h; cases h
  · rw [if_neg h0] at h
    by_cases h1 : -(n : Int) ≤ i
    · rw [if_pos h1] at h
      have e : (i + n).toNat = j := Option.some.inj h
      exact ⟨by rw [seqIndex_neg (by omega) h1, e], by omega, h1, by omega⟩
    · rw [if_neg h1] at h; cases h
theorem atI_get {α : Type} {xs : List α} {i : Int} {v : α} (h : atI xs i = some v) : ∃ j, seqIndex? i xs.length = some j ∧ xs[j]? = some v ∧ j < xs.length ∧ -(xs.length : Int) ≤ i ∧ i < xs.length := by
  unfold atI at h
  cases e : ixN xs.length i with
  | none => rw [e] at h; cases h
  | some j =>
    rw [e] at h
    obtain ⟨h1, h2, h3, h4⟩ := ixN_seq e
    exact ⟨j, h1, h, h2, h3, h4⟩
theorem atI_nat {α : Type} {xs : List α} {j : Nat} {v : α} (h : xs[j]? = some v) : atI xs (j : Int) = some v := by
  have hj : j < xs.length := (List.getElem?_eq_some_iff.mp h).1
  have e : ixN xs.length (j : Int) = some j := by
    unfold ixN
    rw [if_pos (by omega), if_pos (by omega)]; simp
  unfold atI; rw [e]; exact h
/-! ### what may be subscripted -/
/-- what stands as an index of a plain subscript -/
def PlainIx (b : Expr) : Prop := ∀ o i, subscripted b false o i = operate [o, i] (getItem o i)
/-- a subscript by values -/
def IxR (X : Cx) (r : R2) : Prop :=
  ∀ (value slice : Expr) (pins : List (Addr × Obj)) (s : Shared) (σ : St) (H : Hp) (x y : V) (v u : Value) (Q : VK), Inv X pins σ H s → RelV x v → RelV y u → r x y H Q →
    subscripted slice false v u = operate [v, u] (getItem v u) → wpAny (model X.prog X.w) X.A (subscriptTail value slice v u) (EP X pins σ Q) X.xe s
/-- a call of a builtin's method by values: the receiver, the arguments -/
def MtR (X : Cx) (id : String) (r : V → List V → Hp → VK → Prop) : Prop :=
  ∀ (pins : List (Addr × Obj)) (s : Shared) (σ : St) (H : Hp) (x : V) (xs : List V) (v : Value) (us : List Value) (Q : VK), Inv X pins σ H s → RelV x v → Vals xs us → r x xs H Q →
    wpAny (model X.prog X.w) X.A (call (.builtin id) (v :: us)) (EP X pins σ Q) X.xe s
section
variable {X : Cx} {a b : Expr} {ta tb : TE} {pos : Pos}
/-- a[b] -/
theorem pe_ix {r : R2} (hr : IxR X r) (ha : PE X a ta) (hb : PE X b tb) (hs : PlainIx b) : PE X (.Subscript a b pos) (tOp r ta tb) := by
  intro pins s σ H Q I h
  exact Subscript_ (binT ha hb I h fun v u s2 x y H2 I2 rx ry q => hr a b pins s2 σ H2 x y v u Q I2 rx ry q (hs _ _))

def rIxL (K : PySem.W.Frag) : R2 := fun x y H Q => ∃ p xs i v, x = .ref p ∧ y = .int i ∧ SqL K H p xs ∧ atI xs i = some v ∧ Q v H
def rIxT (K : PySem.W.Frag) : R2 := fun x y H Q => ∃ p xs i v, x = .ref p ∧ y = .int i ∧ SqT K H p xs ∧ atI xs i = some v ∧ Q v H
def rIxS : R2 := fun x y H Q => ∃ z i c, x = .str z ∧ y = .int i ∧ z.length ≤ sizeLine ∧ atI z.cps.toList i = some c ∧ Q (.str ⟨#[c]⟩) H
theorem ix_list : IxR X (rIxL X.K) := by
  intro value slice pins s σ H x y v u Q I rx ry h hs
  obtain ⟨p, xs, i, z, rfl, rfl, hq, he, q⟩ := h
  cases rx
  obtain ⟨t, rfl⟩ := ry
  obtain ⟨its, r, pl, hz⟩ := I.list hq
  obtain ⟨j, h1, h2, h3, h4, h5⟩ := atI_get he
  obtain ⟨w, ew, rw'⟩ := r.get h2
  have hl := r.length
  have hn := line63
  have fin : EP X pins σ Q w s := ⟨z, H, I, rw', q⟩
  by_cases h0 : 0 ≤ i
  · have hj : i.toNat = j := by
      rw [seqIndex_of h0 h5] at h1
      exact Option.some.inj h1
    exact item_listR pl.isList h0 (by omega) (by rw [hj]; simpa using ew) fin hs
  · have hj : (i + (its.toArray.size : Int)).toNat = j := by
      rw [seqIndex_neg (by omega) h4] at h1
      rw [List.size_toArray, ← hl]
      exact Option.some.inj h1
    exact subscriptTail_builtinR (x := w) pl.isList.typeIs slot_list_getitem.lookup
      (wpAny_getItem_list_neg (Q := fun r s' => r = w ∧ EP X pins σ Q r s') pl.isList (by omega) (by rw [List.size_toArray] <;> omega) (by omega) (by rw [hj]; simpa using ew) ⟨rfl, fin⟩) hs
theorem ix_tup : IxR X (rIxT X.K) := by
  intro value slice pins s σ H x y v u Q I rx ry h hs
  obtain ⟨p, xs, i, z, rfl, rfl, hq, he, q⟩ := h
  cases rx
  obtain ⟨t, rfl⟩ := ry
  obtain ⟨its, r, pl, hz⟩ := I.tuple hq
  obtain ⟨j, h1, h2, h3, h4, h5⟩ := atI_get he
  obtain ⟨w, ew, rw'⟩ := r.get h2
  have hl := r.length
  have hn := line63
  have fin : EP X pins σ Q w s := ⟨z, H, I, rw', q⟩
  exact subscriptTail_builtinR (x := w) pl.typeIs slot_tuple_getitem.lookup
    (getItem_tuple (j := j) (Q := fun r s' => r = w ∧ EP X pins σ Q r s') pl (by omega) (by omega) (by rw [List.size_toArray, ← hl]; exact h1) (by simpa using ew) ⟨rfl, fin⟩) hs
theorem ix_str : IxR X rIxS := by
  intro value slice pins s σ H x y v u Q I rx ry h hs
  obtain ⟨z, i, c, rfl, rfl, hz, he, q⟩ := h
  obtain ⟨t, rfl⟩ := rx
  obtain ⟨t', rfl⟩ := ry
  obtain ⟨j, h1, h2, h3, h4, h5⟩ := atI_get he
  have hl : z.cps.toList.length = z.length := by simp [Str.length]
  rw [hl] at h1 h4 h5
  have hn := line63
  exact tail_any (typeIs_str s z t) slot_str_getitem.lookup (getItem_str (c := c) (by
    have e1 : decide (i < -(2 ^ 63 : Int)) = false := decide_eq_false (by omega)
    have e2 : decide (i ≥ 2 ^ 63) = false := decide_eq_false (by omega)
    rw [e1, e2, Bool.or_false]) (by rw [h1]; simpa using h2) ⟨.str ⟨#[c]⟩, H, I.tok _, ⟨_, rfl⟩, q⟩) hs
/-- list, tuple or str -/
def rIx (K : PySem.W.Frag) : R2 := fun x y H Q => rIxL K x y H Q ∨ rIxT K x y H Q ∨ rIxS x y H Q
/-! ### xs[i] = v, any sign -/
def rSetL : V → V → V → Hp → (Hp → Prop) → Prop := fun o i v H Q => ∃ p xs k j, o = .ref p ∧ i = .int k ∧ H p = some (.lst xs) ∧ ixN xs.length k = some j ∧ Q (upd H p (.lst (xs.set j v)))
/-! ### slices -/
theorem slice_bounds (lo hi : Option Int) (n : Nat) : (sliceBounds lo hi none n).1 = ((HT.sIx n 0 lo : Nat) : Int) ∧ (sliceBounds lo hi none n).2.1 = ((HT.sIx n n hi : Nat) : Int) ∧ (sliceBounds lo hi none n).2.2 = 1 := by
  refine ⟨?_, ?_, rfl⟩
  · cases lo with
    | none => simp [sliceBounds, HT.sIx]
    | some i =>
      simp only [sliceBounds, HT.sIx, Option.getD_none, show (1 : Int) > 0 by decide, if_true]
      by_cases h : i < 0
      · simp only [h, if_true] <;> omega
      · simp only [h, if_false] <;> omega
  · cases hi with
    | none => simp [sliceBounds, HT.sIx]
    | some i =>
      simp only [sliceBounds, HT.sIx, Option.getD_none, show (1 : Int) > 0 by decide, if_true]
      by_cases h : i < 0
      · simp only [h, if_true] <;> omega
      · simp only [h, if_false] <;> omega
theorem slicePick_cut (its : List Value) (lo hi : Option Int) : slicePick its.toArray lo hi none = ((its.drop (HT.sIx its.length 0 lo)).take (HT.sIx its.length its.length hi - HT.sIx its.length 0 lo)).toArray := by
  obtain ⟨h1, h2, h3⟩ := slice_bounds lo hi its.toArray.size
  unfold slicePick
  rw [h1, h2, h3]
  simp only [sliceRange_one, pick_run, List.size_toArray] <;> rfl
/-- xs[lo:hi] of a list: a new list -/
def rSlL (K : PySem.W.Frag) : V → Option Int → Option Int → Hp → VK → Prop := fun x lo hi H Q => ∃ a xs, x = .ref a ∧ SqL K H a xs ∧ ∀ p, H p = none → Q (.ref p) (upd H p (.lst (cutV xs lo hi)))
theorem sl_list : SlR X (rSlL X.K) := by
  intro pins s σ H x v vl vu lo hi sl Q I rx hs pl pu h
  obtain ⟨a, xs, rfl, hx, q⟩ := h
  cases rx
  obtain ⟨its, r, ht, hz⟩ := I.list hx
  have hlen := r.length
  refine ⟨"list", _, slot_list_getitem.lookup, ht.isList.typeIs, ?_⟩
  refine wpAny_getItem_list_slice ht.isList hs pl pu .none (by simp) ?_ (by rw [List.size_toArray] <;> omega)
  rw [slicePick_cut, ← hlen]
  refine ⟨.ref s.heap.objs.size, _, I.laid (t' := s.toks) (o := .lst (cutV xs lo hi)) (fun b ob q => Heap.get?_push_of_some _ q) (Nat.le_refl _) ?_, rfl, q _ (I.hok.fresh (Nat.le_refl _))⟩
  exact ⟨Nat.le_trans (cutV_length xs lo hi) hz, _, 0, (r.drop (HT.sIx xs.length 0 lo)).take (HT.sIx xs.length xs.length hi - HT.sIx xs.length 0 lo), Heap.get?_push_size _ rfl⟩

/-! ### in, not in: flat items -/
def flatV : V → Bool
  | .non => true
  | .bl _ => true
  | .int _ => true
  | .str _ => true
  | _ => false
/-- == of flat values -/
def eqV : V → V → Bool
  | .non, .non => true
  | .bl a, .bl b => a == b
  | .bl a, .int b => (if a then 1 else 0) == b
  | .int a, .bl b => a == (if b then 1 else 0)
  | .int a, .int b => a == b
  | .str a, .str b => a == b
  | _, _ => false
/-- the items' answers, read off the values (a value's own answer does not lean on its token) -/
def eqU (x : V) (u : Value) : Bool := match u with
  | .none => eqV .non x
  | .bool b => eqV (.bl b) x
  | .int i _ => eqV (.int i) x
  | .str z _ => eqV (.str z) x
  | _ => false
def inV (x : V) (xs : List V) : Bool := xs.any fun y => eqV y x
/-- x in a list or tuple of flat items -/
def rIn (K : PySem.W.Frag) (neg : Bool) : R2 := fun x y H Q => ∃ p xs, y = .ref p ∧ (SqL K H p xs ∨ SqT K H p xs) ∧ flatV x = true ∧ xs.all flatV = true ∧ Q (.bl (if neg then !inV x xs else inV x xs)) H
/-! ### len, list(x), tuple(x) of any list or tuple that is read -/
theorem call_len_seq : CallR X (.builtin "len") (fun xs H Q => ∃ p ys, xs = [.ref p] ∧ (SqL X.K H p ys ∨ SqT X.K H p ys) ∧ Q (.int ys.length) H) := by
  intro pins s σ H xs us Q I r h
  obtain ⟨p, ys, rfl, hq, q⟩ := h
  obtain ⟨u, rfl, rx⟩ := vals1 r
  cases rx
  have hn := line63
  rcases hq with hq | hq
  · obtain ⟨its, r', pl, hz⟩ := I.list hq
    have hlen := r'.length
    exact Calls.call_len_list pl.isList (by simp only [List.size_toArray] <;> omega) ⟨.int ys.length, H, I.tok _, ⟨s.toks + 1, by rw [List.size_toArray, hlen]⟩, q⟩
  · obtain ⟨its, r', pl, hz⟩ := I.tuple hq
    have hlen := r'.length
    exact len_tuple pl (by simp only [List.size_toArray] <;> omega) ⟨.int ys.length, H, I.tok _, ⟨s.toks + 1, by rw [List.size_toArray, hlen]⟩, q⟩
theorem call_len_str : CallR X (.builtin "len") (fun xs H Q => ∃ z, xs = [.str z] ∧ z.length ≤ sizeLine ∧ Q (.int z.length) H) := by
  intro pins s σ H xs us Q I r h
  obtain ⟨z, rfl, hz, q⟩ := h
  obtain ⟨u, rfl, t, rfl⟩ := vals1 r
  have hn := line63
  exact len_str (by omega) ⟨.int z.length, H, I.tok _, ⟨_, rfl⟩, q⟩
theorem call_list_of : CallR X (.type "list") (fun xs H Q => ∃ p ys, xs = [.ref p] ∧ (SqL X.K H p ys ∨ SqT X.K H p ys) ∧ ∀ l, H l = none → Q (.ref l) (upd H l (.lst ys))) := by
  intro pins s σ H xs us Q I r h
  obtain ⟨p, ys, rfl, hq, q⟩ := h
  obtain ⟨u, rfl, rx⟩ := vals1 r
  cases rx
  have fin : ∀ (its : List Value), Vals ys its → ys.length ≤ sizeLine → ∀ (h' : Heap) (c' : Nat), (∀ b o', s.heap.get? b = some o' → h'.get? b = some o') →
      h'.get? s.heap.objs.size = some { cls := .type "list", dict := none, data := .seq its.toArray c', slots := #[] } → EP X pins σ Q (.ref s.heap.objs.size) { s with heap := h' } := fun its r' hz h' c' kp e =>
    ⟨.ref s.heap.objs.size, _, I.laid (t' := s.toks) kp (Nat.le_refl _) (show ObjOk X.prog X.w _ h' _ (.lst ys) from ⟨hz, its, c', r', e⟩), rfl, q _ (I.hok.fresh (Nat.le_refl _))⟩
  rcases hq with hq | hq
  · obtain ⟨its, r', pl, hz⟩ := I.list hq
    have hlen := r'.length
    obtain ⟨o, ho, hc, n, hd⟩ := pl.isList
    exact call_list_seq p (.inl rfl) ho hc hd (fun h' c' kp e => fin its r' hz h' c' kp e) (by simp only [List.size_toArray] <;> omega)
  · obtain ⟨its, r', pl, hz⟩ := I.tuple hq
    have hlen := r'.length
    obtain ⟨o, ho, hc, n, hd⟩ := pl
    exact call_list_seq p (.inr rfl) ho hc hd (fun h' c' kp e => fin its r' hz h' c' kp e) (by simp only [List.size_toArray] <;> omega)
/-! ### the call of a builtin's method: o.m(..) -/
/-- the value is of that builtin type -/
def tyV (K : PySem.W.Frag) (T : String) (x : V) (H : Hp) : Prop := match x with
  | .str _ => T = "str"
  | .int _ => T = "int"
  | .ref p => (T = "list" ∧ ∃ xs, SqL K H p xs) ∨ (T = "tuple" ∧ ∃ o, K.lookup p = some o ∧ o.cls = .type "tuple" ∧ o.dict = none) ∨
      (T = "dict" ∧ ((∃ kvs, H p = some (.dK kvs)) ∨ ∃ kvs, H p = some (.dT kvs))) ∨ (T = "set" ∧ ∃ S n, H p = some (.set S n))
  | _ => False
theorem tyV_is {pins : List (Addr × Obj)} {σ : St} {H : Hp} {s : Shared} {T : String} {x : V} {v : Value} (I : Inv X pins σ H s) (r : RelV x v) (ty : tyV X.K T x H) :
    s.TypeIs v T ∧ ∀ a, v = .ref a → ∃ ob, s.heap.get? a = some ob ∧ ob.dict = none := by
  cases x with
  | str z =>
    obtain ⟨t, rfl⟩ := r
    cases (show T = "str" from ty)
    exact ⟨typeIs_str s z t, fun _ e => nomatch e⟩
  | int i =>
    obtain ⟨t, rfl⟩ := r
    cases (show T = "int" from ty)
    exact ⟨typeIs_int s i t, fun _ e => nomatch e⟩
  | ref p =>
    cases r
    rcases ty with ⟨rfl, xs, hq⟩ | ⟨rfl, o, hk, hc, hd⟩ | ⟨rfl, hk⟩ | ⟨rfl, S, n, hk⟩
    · obtain ⟨its, _, pl, _⟩ := I.list hq
      refine ⟨pl.isList.typeIs, fun a e => ?_⟩
      cases e
      obtain ⟨o, n, e, c, hd, _⟩ := pl
      exact ⟨o, e, hd⟩
    · refine ⟨⟨o, I.kIn p o hk, hc⟩, fun a e => ?_⟩
      cases e
      exact ⟨o, I.kIn _ o hk, hd⟩
    · have z : ∃ o, s.heap.get? p = some o ∧ o.ExactDict := by
        rcases hk with ⟨kvs, hk⟩ | ⟨kvs, hk⟩
        · obtain ⟨_, _, _, _, o, _, _, e, ex, _⟩ := I.hok p _ hk
          exact ⟨o, e, ex⟩
        · obtain ⟨_, _, _, _, o, _, _, e, ex, _⟩ := I.hok p _ hk
          exact ⟨o, e, ex⟩
      obtain ⟨o, e, ex⟩ := z
      refine ⟨⟨o, e, ex.1⟩, fun a e2 => ?_⟩
      cases e2
      exact ⟨o, e, ex.2.1⟩
    · obtain ⟨o, _, _, _, e, ex, _⟩ := I.hok p _ hk
      refine ⟨⟨o, e, ex.1⟩, fun a e2 => ?_⟩
      cases e2
      exact ⟨o, e, ex.2.1⟩
  | _ => exact False.elim ty
def tBM0 (K : PySem.W.Frag) (T : String) (r : V → List V → Hp → VK → Prop) (to : TE) : TE := fun σ H Q => to σ H fun x H1 => tyV K T x H1 ∧ r x [] H1 Q
def tBM (K : PySem.W.Frag) (T : String) (r : V → List V → Hp → VK → Prop) (to : TE) (t : TA) : TE := fun σ H Q => to σ H fun x H1 => tyV K T x H1 ∧ t σ H1 fun xs H2 => r x xs H2 Q
variable {o e : Expr} {es : List Expr} {to : TE} {t : TA} {name : Str} {apos cpos : Pos} {T id : String} {r : V → List V → Hp → VK → Prop}
theorem pe_bm0 (pa : PlainAttrs T) (slot : Slot T name id) (hty : typeOf (.builtin id) = pure (.type "method_descriptor")) (hm : MtR X id r) (ho : PE X o to)
    (hbase : attributeBase o name X.env (eval o X.env) = eval o X.env := by rfl) (hline : (apos.endLine == cpos.line) = true := by rfl) : PE X (.Call (.Attribute o name apos) [] [] cpos) (tBM0 X.K T r to) := by
  intro pins s σ H Q I h
  refine wpAny_Call_method0_late hbase hline (thn (ho pins s σ H _ I h) fun v s1 ⟨x, H1, I1, r1, ty, q1⟩ => ?_)
  obtain ⟨h1, h2⟩ := tyV_is I1 r1 ty
  exact ⟨T, id, pa, slot, hty, h1, h2, Calls.callWith_builtin rfl (PySem.evalArgs_none (hm pins s1 σ H1 x [] v [] Q I1 r1 .nil q1))⟩
theorem pe_bm (pa : PlainAttrs T) (slot : Slot T name id) (hty : typeOf (.builtin id) = pure (.type "method_descriptor")) (hm : MtR X id r) (ho : PE X o to) (ha : PA X (e :: es) t)
    (hbase : attributeBase o name X.env (eval o X.env) = eval o X.env := by rfl)
    (hfew : ((backTo cpos (starEach (e :: es) X.env)).all (fun x => !x.1) && (backToKw cpos (keywordEach [] X.env)).all (fun x => x.1.isSome)
      && decide ((e :: es).length + ([] : List Keyword).length + (if ([] : List Keyword).isEmpty then 0 else 1) < 30)) = true := by rfl)
    (hline : (apos.endLine == cpos.line) = true := by rfl) (hs : starEach (e :: es) X.env = (false, eval e X.env) :: starEach es X.env := by rfl) (hplain : (backTo cpos (starEach es X.env)).any (·.1) = false := by rfl) :
    PE X (.Call (.Attribute o name apos) (e :: es) [] cpos) (tBM X.K T r to t) := by
  intro pins s σ H Q I h
  refine wpAny_Call_method_late hbase hfew hline rfl (thn (ho pins s σ H _ I h) fun v s1 ⟨x, H1, I1, r1, ty, q1⟩ => ?_)
  obtain ⟨h1, h2⟩ := tyV_is I1 r1 ty
  refine ⟨T, id, pa, slot, hty, h1, h2, ?_⟩
  have hA := ha cpos pins s1 σ H1 _ I1 q1
  rw [hs] at hA ⊢
  refine Calls.callWith_builtin (by show (false || (backTo cpos (starEach es X.env)).any (·.1)) = false; rw [hplain] <;> rfl) (Calls.evalArgs_plain ?_)
  exact thn hA fun us s2 ⟨vs, H2, I2, r2, q2⟩ => hm pins s2 σ H2 x vs v us Q I2 r1 r2 q2
/- xs.append(e), list.index on a module's tuple .. are MtR facts of 06m -/
end
end L2

namespace L2
open PySem PySem.Spec PyProof.Rows

def MtM (X : Cx) (id : String) (r : V → List V → Hp → VK → Prop) : Prop :=
  ∀ (pins : List (Addr × Obj)) (s : Shared) (σ : St) (H : Hp) (x : V) (xs : List V) (v : Value) (us : List Value) (Q : VK), Inv X pins σ H s → RelV x v → Vals xs us → r x xs H Q →
    wpAny (model X.prog X.w) X.A (call (.builtin id) (v :: us)) (EP X pins σ Q) X.xe s

/-! ### lists of values -/
theorem Vals.one : ∀ {x : V} {us : List Value}, Vals [x] us → ∃ u, us = [u] ∧ RelV x u
  | _, _, .cons r .nil => ⟨_, rfl, r⟩
theorem Vals.two : ∀ {x y : V} {us : List Value}, Vals [x, y] us → ∃ u v, us = [u, v] ∧ RelV x u ∧ RelV y v
  | _, _, _, .cons r (.cons q .nil) => ⟨_, _, rfl, r, q⟩
theorem Vals.zero : ∀ {us : List Value}, Vals [] us → us = []
  | _, .nil => rfl
theorem Vals.reverse {xs : List V} {us : List Value} (h : Vals xs us) : Vals xs.reverse us.reverse := by
  induction h with
  | nil => exact .nil
  | cons r t ih => rw [List.reverse_cons, List.reverse_cons]; exact Vals.append ih (.cons r .nil)
section
variable {X : Cx} {pins : List (Addr × Obj)} {σ : St} {H : Hp} {s : Shared} {l b : Addr} {xs ys zs : List V}

/-! ### the two steps: a tracked list is rewritten, a new list is laid -/
theorem Inv.lset {its its' : List Value} {n : Nat} {f : Array Value → Array Value} {t' : Nat} (I : Inv X pins σ H s) (hH : H l = some (.lst xs))
    (e : s.heap.get? l = some { cls := .type "list", data := .seq its.toArray n }) (hf : f its.toArray = its'.toArray) (hv : Vals ys its') (hz : ys.length ≤ sizeLine) :
    Inv X pins σ (upd H l (.lst ys)) { s with heap := s.heap.update l (Obj.mapSeq f), toks := t' } := by
  have q := PySem.IsL.update e f
  rw [hf] at q
  refine I.write (x := l) (e := l) (by rw [hH]; exact trivial) (.inl rfl) (fun b' u hb hu => (Heap.get?_update_other s.heap (Obj.mapSeq f) (Ne.symm hb)).trans hu) ⟨_, q⟩ ?_
  exact ⟨hz, its', _, hv, q⟩
theorem Inv.lnew {its : List Value} {t' : Nat} (I : Inv X pins σ H s) (hv : Vals ys its) (hz : ys.length ≤ sizeLine) :
    Inv X pins σ (upd H s.heap.objs.size (.lst ys)) { s with heap := s.heap.push { cls := .type "list", data := .seq its.toArray }, toks := t' } :=
  I.laid (fun _ _ q => Heap.get?_push_of_some _ q) (Nat.le_refl _) ⟨hz, its, 0, hv, Heap.get?_push_size _ rfl⟩
theorem Inv.fresh (I : Inv X pins σ H s) : H s.heap.objs.size = none := I.hok.fresh (Nat.le_refl _)
theorem Inv.lstM (I : Inv X pins σ H s) (hH : H l = some (.lst xs)) : xs.length ≤ sizeLine ∧ ∃ (its : List Value) (n : Nat), Vals xs its ∧ xs.length = its.length ∧ s.heap.get? l = some { cls := .type "list", data := .seq its.toArray n } := by
  obtain ⟨z, its, n, r, e⟩ := I.hok l _ hH
  exact ⟨z, its, n, r, r.length, e⟩

end

section
variable {X : Cx}

/-! ### methods -/
def rAppend : V → List V → Hp → VK → Prop := fun x vs H Q => ∃ l xs y, x = .ref l ∧ vs = [y] ∧ H l = some (.lst xs) ∧ xs.length < sizeLine ∧ Q .non (upd H l (.lst (xs ++ [y])))
theorem mt_append : MtM X "list.append" rAppend := by
  intro pins s σ H x vs v us Q I rx rv h
  obtain ⟨l, xs, y, rfl, rfl, hH, hz, q⟩ := h
  cases rx
  obtain ⟨u, rfl, ru⟩ := rv.one
  obtain ⟨z, its, n, r, hl, e⟩ := I.lstM hH
  refine call_meets F.slot_list_append ⟨_, e, rfl⟩ F.entry_list_append (F.args_list_append_2 _ _) (PySem.list_append l its.toArray n u (by rw [List.size_toArray]; omega)) ⟨e, ?_⟩
  refine ⟨.non, _, I.lset (its' := its ++ [u]) hH e (by simp) (r.append (.cons ru .nil)) ?_, rfl, q⟩
  rw [List.length_append, List.length_singleton]
  omega

def rExtend : V → List V → Hp → VK → Prop := fun x vs H Q => ∃ l b xs zs, x = .ref l ∧ vs = [.ref b] ∧ H l = some (.lst xs) ∧ H b = some (.lst zs) ∧ xs.length + zs.length ≤ sizeLine ∧ Q .non (upd H l (.lst (xs ++ zs)))
def rPop : V → List V → Hp → VK → Prop := fun x vs H Q => ∃ l xs y, x = .ref l ∧ vs = [] ∧ H l = some (.lst xs) ∧ xs[xs.length - 1]? = some y ∧ Q y (upd H l (.lst xs.dropLast))
def rPopAt : V → List V → Hp → VK → Prop := fun x vs H Q => ∃ l xs i k y, x = .ref l ∧ vs = [.int i] ∧ H l = some (.lst xs) ∧ -(2 ^ 63) ≤ i ∧ i < 2 ^ 63 ∧ seqIndex? i xs.length = some k ∧ xs[k]? = some y ∧ Q y (upd H l (.lst (xs.eraseIdx k)))
def rReverse : V → List V → Hp → VK → Prop := fun x vs H Q => ∃ l xs, x = .ref l ∧ vs = [] ∧ H l = some (.lst xs) ∧ Q .non (upd H l (.lst xs.reverse))
theorem mt_reverse : MtM X "list.reverse" rReverse := by
  intro pins s σ H x vs v us Q I rx rv h
  obtain ⟨l, xs, rfl, rfl, hH, q⟩ := h
  cases rx
  have hus := rv.zero
  subst hus
  obtain ⟨z, its, n, r, hl, e⟩ := I.lstM hH
  refine call_meets F.slot_list_reverse ⟨_, e, rfl⟩ F.entry_list_reverse (F.args_list_reverse_1 _) (AutoSeq1.list_reverse_list_0 l its.toArray n (by rw [List.size_toArray]; omega)) ⟨e, ?_⟩
  refine ⟨.non, _, I.lset (its' := its.reverse) hH e (by simp) r.reverse ?_, rfl, q⟩
  rw [List.length_reverse]
  omega

def rClear : V → List V → Hp → VK → Prop := fun x vs H Q => ∃ l xs, x = .ref l ∧ vs = [] ∧ H l = some (.lst xs) ∧ Q .non (upd H l (.lst []))
/-! ### list + list, list += list, list * int -/
def rCat : R2 := fun x y H Q => ∃ l b xs zs, x = .ref l ∧ y = .ref b ∧ H l = some (.lst xs) ∧ H b = some (.lst zs) ∧ xs.length + zs.length ≤ sizeLine ∧ ∀ p, H p = none → Q (.ref p) (upd H p (.lst (xs ++ zs)))
theorem op_cat : OpR X (binaryOp .Add) rCat := by
  intro pins s σ H x y v u Q I rx ry h
  obtain ⟨l, b, xs, zs, rfl, rfl, hH, hB, hz, q⟩ := h
  cases rx
  cases ry
  obtain ⟨z, its, n, r, hl, e⟩ := I.lstM hH
  obtain ⟨z2, its2, n2, r2, hl2, e2⟩ := I.lstM hB
  refine PySem.P.add_list e e2 ?_ (by rw [List.size_toArray, List.size_toArray]; omega)
  have ea : its.toArray ++ its2.toArray = (its ++ its2).toArray := by simp
  rw [ea]
  exact ⟨.ref _, _, I.lnew (t' := s.toks) (r.append r2) (by rw [List.length_append]; omega), rfl, q _ I.fresh⟩
/-- a list times an int (a negative one is nothing) -/
def rRep : R2 := fun x y H Q => ∃ l k xs, x = .ref l ∧ y = .int k ∧ H l = some (.lst xs) ∧ -(2 ^ 63) ≤ k ∧ k < 2 ^ 63 ∧ xs.length * k.toNat ≤ sizeLine ∧
  ∀ p, H p = none → Q (.ref p) (upd H p (.lst (List.replicate k.toNat xs).flatten))
/-! ### del xs[i] -/
end

/-! ### xs[a:b] = ys -/
section
variable {prog : Program} {w : World} {A : Around} {E : Value → Shared → Prop} {s : Shared}
end

section
variable {X : Cx}
end
end L2

namespace Att
open PySem PySem.W PySem.Calls PyProof.Rows

/-! ### the script -/
theorem ints_of_wellAll {P : Params} {h : Heap} : ∀ (ns : List Int) (vs : List Value), WellAll P h vs (ns.map WData.int) → IntsAre vs ns := by
  intro ns
  induction ns with
  | nil =>
    intro vs w
    rw [List.map_nil] at w
    cases w
    exact .nil
  | cons n ns ih =>
    intro vs w
    rw [List.map_cons] at w
    cases w with
    | cons a b =>
      cases a
      exact .cons _ _ (ih _ b)

theorem script_of {l : OpenLaw} {n : Nat} (hn : l.most = some n) {P : Params} {h : Heap} {args : List WData} {vals : List Value}
    (hpre : l.row.toRowW.claim.pre args = true) (hwl : WellAll P h vals args) :
    ∃ a vs ns, vals = [Value.ref a] ∧ args = [WData.list (ns.map WData.int)] ∧ h.get? a = some { cls := .type "list", data := .seq vs.toArray } ∧ IntsAre vs ns ∧ ns.length ≤ n := by
  have hsh : WShape.hasAll [] args [.list .int] = true := (pre_splitW hpre).1
  have hc : l.pre.holds [] { args := args } = true := (pre_splitW hpre).2
  obtain ⟨d, r, rfl, h1, h2⟩ := hasAllW_cons hsh
  obtain rfl := hasAllW_nil h2
  obtain ⟨xs, rfl, h3⟩ := hasW_list h1
  obtain ⟨ns, rfl⟩ := items_int h3
  have hlen : ns.length ≤ n := by
    unfold OpenLaw.pre at hc
    have h4 : (WTm.not (.lt (.lit (.int (n : Int))) (.len (.arg 0)))).holds [] { args := [.list (ns.map .int)] } = true := by
      have h4 := (holds_andW hc).1
      rw [hn] at h4
      exact h4
    have h5 := condW_of h4 (w_not (w_lt w_lit (w_len_list (w_arg rfl))))
    rw [List.length_map] at h5
    refine Nat.le_of_not_lt fun q => ?_
    have q' : (n : Int) < ((ns.length : Nat) : Int) := by omega
    first
      | (rw [decide_eq_true q'] at h5; exact absurd h5 (by decide))
      | (simp at h5; omega)
  cases hwl with
  | cons w1 w2 =>
    cases w2
    cases w1 with
    | list ho hall => exact ⟨_, _, ns, rfl, rfl, ho, ints_of_wellAll ns _ hall, hlen⟩

theorem post_true (l : OpenLaw) (args : List WData) : l.row.toRowW.claim.post args (.bool true) args = true :=
  postW_of (r := l.row.toRowW) (X := (true == true))
    (show WShape.has [] (.bool true) .bool = true by first | rfl | decide | simp [WShape.has, WShape.arms, WShape.armsAll])
    (show (WTm.eq .res (.lit (.bool true))).value [] { args := args, res := some (.bool true), after := args } = some (.bool (true == true)) from w_eq_bool (w_res rfl) w_lit) rfl

/-! ### the attachment: holds_open's last premise (the goal 'hc' behind k_head) from a wpAny of the law's body -/
/-- the same from a codeAny of the CALL (for a layer whose function contracts speak of calls) -/
theorem attach_call {l : OpenLaw} {n : Nat} {q : Program} {loose : List Str} {XP : (Str → Option Value) → Heap → Prop} {YP : World → Heap → Prop} {d : DefRec}
    (hn : l.most = some n) (hdf : d.params.defaults = [])
    (call : ∀ (w : World) (s₀ s₁ : Shared) (mg mb : Str → Option Value) (fa : Addr) (o : Obj) (pm cd doc : Value) (a : Addr) (vs : List Value) (ns : List Int),
      Ground q loose [] XP w s₀ mg mb s₁.heap → YP w s₁.heap →
      s₁.heap.get? fa = some o → o.data = .func (docDef d.name d.params d.body d.scope pm cd doc) → s₁.heap.CodeRec cd d.name → mg d.name = some (.ref fa) →
      s₁.heap.get? a = some { cls := .type "list", data := .seq vs.toArray } → IntsAre vs ns → ns.length ≤ n → s₁.gens = #[] →
      codeAny (model l.prog w) callerA (.call (.ref fa) ⟨[.ref a], []⟩) (fun r s' => r = .ok (.ret (.bool true)) ∧ OldK s₁.heap s'.heap ∧ s'.os = s₁.os ∧ AllBare s'.gens) s₁) :
    WalkO q loose XP YP l.row.toRowW d [] (fun f vs => PySem.call f vs) := by
  intro w s₀ s₁ mg mb G Y fa o pm cd doc dV kV ho hd hcd hD hmg hg args vals as hpre hlay hrd hwl hlo
  obtain rfl : dV = .none := Dflts.none hD hdf
  obtain rfl : kV = .none := Dflts.noKw hD
  obtain ⟨a, vs, ns, rfl, rfl, hobj, hints, hlen⟩ := script_of hn hpre hwl
  refine enter_call (codeAny_mono (call w s₀ s₁ mg mb fa o pm cd doc a vs ns G Y ho (fd_plain hd) hcd hmg hobj hints hlen hg) fun r s' hq => ?_)
  obtain ⟨rfl, h2, h3, h4⟩ := hq
  exact ⟨.inl ⟨.bool true, .bool true, [], rfl, fun _ => rfl, .bool true, post_true l _, fun _ => ⟨List.Pairwise.nil, fun _ hm => (nomatch hm)⟩⟩, h2, h3, h4⟩

/-! ### rules over ANY heap (no ledger) from facts about the written part K: the library's own take a ledger (News) for what they write -/
section
variable {prog : Program} {w : World} {A : Around} {E : Value → Shared → Prop} {s : Shared} {K : Frag}

/-! the whole heap as the ledger: makes every rule that writes through a ledger a rule over any heap -/
def noObjs (h : Heap) : Heap := { h with objs := #[] }
def ledger (h : Heap) (L d : Addr) : List (Addr × Obj) := (List.range h.objs.size).filterMap fun a => if a = L ∨ a = d then none else (h.get? a).map fun o => (a, o)
end
end Att

namespace L2
open PySem PySem.Spec PyProof.Rows

theorem vals_ints : ∀ {vs : List Value} {ns : List Int}, IntsAre vs ns → Vals (ns.map V.int) vs
  | _, _, .nil => .nil
  | _, _, .cons n t h => .cons ⟨t, rfl⟩ (vals_ints h)

/-- nothing is tracked but the script, known to the object (or it is an object of the module) -/
def Only (H : Hp) : Prop := ∀ b, H b = none ∨ ∃ o xs, H b = some (.frz o (.lst xs))

/-- THE HEAD: the law's promise, at the heap behind the top. F, the promise of the law's def, may use that base is part of the heap (so K.In base, base.Ns mainGlobals mg stand in Mod) -/
theorem law_call {P : Program} {w : World} {K : PySem.W.Frag} {mg mb : Str → Option Value} {CX : CXT} {k : Nat} {fa a : Addr} {fd : FuncData} {x : Str} {sp : Sp} {s₁ : Shared} {vs : List Value} {ns : List Int}
    (KX : K.In s₁.heap) (hns : s₁.heap.Ns mainGlobals mg) (hb : s₁.heap.Ns builtinsNs mb) (hbb : ∀ x : Str, x ≠ "__name__" → mb x = bootBuiltins x) (hlim : s₁.heap.NoLimit) (hg : s₁.gens = #[])
    (ha : s₁.heap.get? a = some { cls := .type "list", data := .seq vs.toArray }) (hi : IntsAre vs ns) (hl : ns.length ≤ sizeLine) (hr : Room k callerA)
    (F : ∀ base : Heap, K.In base → base.Ns mainGlobals mg → FnOk P w K mg base CX k fa fd [x] sp) (hbind : ∀ (s : Shared) (u : Value), BindsTo s fd ⟨[u], []⟩ [(x, u)])
    (hsp : ∀ H : Hp, Only H → SqL K H a (ns.map V.int) → sp [.ref a] H (fun v _ => v = .bl true) fun _ _ _ => False)
    (hCX : ∀ H e s', CX [] H s₁ (fun _ _ _ => False) e s' → False) :
    codeAny (model P w) callerA (.call (.ref fa) ⟨[.ref a], []⟩) (fun r s' => r = .ok (.ret (.bool true)) ∧ OldK s₁.heap s'.heap ∧ s'.os = s₁.os ∧ AllBare s'.gens) s₁ := by
  have rv := vals_ints hi
  have lenV := hi.length
  -- from an abstract heap in which nothing but the script may be tracked
  have core : ∀ H : Hp, Only H → SqL K H a (ns.map V.int) → HOk P w H s₁.heap → (∀ b, H b ≠ none → b = a) → (H a ≠ none → K.lookup a = none) →
      codeAny (model P w) callerA (.call (.ref fa) ⟨[.ref a], []⟩) (fun r s' => r = .ok (.ret (.bool true)) ∧ OldK s₁.heap s'.heap ∧ s'.os = s₁.os ∧ AllBare s'.gens) s₁ := by
    intro H hO hS hok hA hK
    have base_of : ∀ {b : Addr} {o : Obj}, s₁.heap.get? b = some o → H b = none → (hidT s₁.heap H).get? b = some o := fun e n => hidT_get e n
    have noA : ∀ {b : Addr} {o : Obj} {es : Array DictEntry} {ep : Nat}, s₁.heap.get? b = some o → o.data = .dict es ep → H b = none := fun {b o es ep} e d => by
      cases q : H b with
      | none => rfl
      | some u =>
        have e' : b = a := hA b (by rw [q]; simp)
        subst e'
        rw [ha] at e; cases e
        have d' : Data.seq vs.toArray _ = Data.dict es ep := d
        cases d'
    have nsK : ∀ {b : Addr} {m : Str → Option Value}, s₁.heap.Ns b m → (hidT s₁.heap H).Ns b m := fun {b m} ⟨o, es, ep, e, d, r⟩ => ⟨o, es, ep, base_of e (noA e d), d, r⟩
    have hKb : K.In (hidT s₁.heap H) := fun b o e => base_of (KX b o e) (by
      cases q : H b with
      | none => rfl
      | some u =>
        have e' : b = a := hA b (by rw [q]; simp)
        subst e'
        rw [hK (by rw [q]; simp)] at e; cases e)
    have hM : Mod K mg (hidT s₁.heap H) := ⟨hKb, nsK hns, ⟨mb, nsK hb, hbb⟩, let ⟨mc, h1, h2⟩ := hlim; ⟨mc, nsK h1, h2⟩⟩
    have e0 : Env0 P w K mg (hidT s₁.heap H) callerA [] s₁ H := ⟨rfl, hM, fun b o e => of_hidT e, Nat.le_of_eq (hidT_size _ _), trivial, fun b hb => absurd (show b ∈ ([] : List Addr) from hb) (by simp), hok, .of_eq hg⟩
    refine codeAny_mono ((F _ hKb (nsK hns)).run callerA [] s₁ H ⟨[.ref a], []⟩ [.ref a] [.ref a] _ _ hr e0 (hbind s₁ (.ref a)) (.cons rfl .nil) (hsp H hO hS)) fun r s' h => ?_
    cases r with
    | error e => exact (hCX H e s' h).elim
    | ok fl =>
      cases fl with
      | next => exact False.elim h
      | brk => exact False.elim h
      | cont => exact False.elim h
      | ret u =>
        obtain ⟨v, H', os, bare, un, hok', r', q⟩ := h
        have q' : v = .bl true := q
        subst q'
        obtain rfl : u = Value.bool true := r'
        refine ⟨rfl, OldK.of_keep fun b o e => ?_, os, bare⟩
        cases q : H b with
        | none => exact un.keep b o e q (by intro z; exact absurd (show b ∈ ([] : List Addr) from z) (by simp)) (by simp)
        | some u =>
          rcases hO b with z | ⟨ob, xs, z⟩
          · rw [q] at z; cases z
          · have z2 := un.frzs b ob _ z
            obtain ⟨e1, _⟩ := hok b _ z
            obtain ⟨e2, _⟩ := hok' b _ z2
            rw [e] at e1; cases e1
            exact e2
  cases hk : K.lookup a with
  | some o =>
    -- the script is one of the module's own objects
    have e := KX a o hk
    rw [ha] at e
    cases e
    refine core (fun _ => none) (fun _ => .inl rfl) (.inr ⟨_, vs.toArray, _, hk, rfl, rfl, rfl, by rw [List.size_toArray, lenV]; exact hl, by simpa using rv⟩) (fun b u z => by have z' : (none : Option HO) = some u := z; cases z') (fun b z => absurd rfl z) fun z => absurd rfl z
  | none =>
    refine core (fun b => if b = a then some (.frz { cls := .type "list", data := .seq vs.toArray } (.lst (ns.map V.int))) else none) (fun b => ?_) (.inl (.inr ⟨{ cls := .type "list", data := .seq vs.toArray }, if_pos rfl⟩)) (fun b u z => ?_) (fun b z => ?_) fun _ => hk
    · by_cases hb : b = a
      · exact .inr ⟨_, _, if_pos hb⟩
      · exact .inl (if_neg hb)
    · by_cases hb : b = a
      · have z' := (if_pos hb).symm.trans z
        cases z'
        subst hb
        exact ⟨ha, by rw [List.length_map]; exact hl, vs, _, rv, ha⟩
      · have z' := (if_neg hb).symm.trans z
        cases z'
    · by_cases hb : b = a
      · exact hb
      · exact absurd (if_neg hb) z
end L2

namespace L2
open PySem PySem.Spec PyProof.Rows

abbrev KOf {K : PySem.W.Frag} {h : Heap} (_ : K.In h) : PySem.W.Frag := K

/-- the goal that k_head leaves (case hc), from the law's promise. F gives the function object fd (K's own) once, then the promise over every base -/
theorem walk_of {l : PySem.W.OpenLaw} {n k : Nat} {q : Program} {loose : List Str} {XP : (Str → Option Value) → Heap → Prop} {YP : World → Heap → Prop} {d : DefRec} {K : Params → PySem.W.Frag} {CX : World → CXT} {sp : World → Sp} {x : Str}
    (hn : l.most = some n) (hn2 : n ≤ sizeLine) (hdf : d.params.defaults = []) (hr : Room k callerA)
    (hY : ∀ (w : World) (h : Heap), YP w h → (K w.params).In h)
    (F : ∀ (w : World) (mg : Str → Option Value) (fa : Addr) (h : Heap), (K w.params).In h → h.Ns mainGlobals mg → mg d.name = some (.ref fa) →
      ∃ fd : FuncData, (∀ (s : Shared) (u : Value), BindsTo s fd ⟨[u], []⟩ [(x, u)]) ∧
        ∀ base : Heap, (K w.params).In base → base.Ns mainGlobals mg → FnOk l.prog w (K w.params) mg base (CX w) k fa fd [x] (sp w))
    (hsp : ∀ (w : World) (H : Hp) (a : Addr) (ns : List Int), ns.length ≤ n → Only H → SqL (K w.params) H a (ns.map V.int) → sp w [.ref a] H (fun v _ => v = .bl true) fun _ _ _ => False)
    (hCX : ∀ (w : World) (H : Hp) (s : Shared) (e : Value) (s' : Shared), CX w [] H s (fun _ _ _ => False) e s' → False) :
    PySem.W.WalkO q loose XP YP l.row.toRowW d [] (fun f vs => PySem.call f vs) := by
  refine Att.attach_call hn hdf fun w s₀ s₁ mg mb fa o pm cd doc a vs ns G Y ho hd hcd hmg hobj hints hlen hg => ?_
  have KX := hY w _ Y
  obtain ⟨fd, hb, hF⟩ := F w mg fa _ KX G.T.g hmg
  exact law_call KX G.T.g G.T.b G.T.builtins G.T.nolimit hg hobj hints (Nat.le_trans hlen hn2) hr hF hb (fun H hO hS => hsp w H a ns hlen hO hS) fun H e s' => hCX w H s₁ e s'
end L2



/-! SHORT WORDS over the layer: a def of the text, its body, what a loop and a test want. -/
namespace L2
open PySem PySem.Spec PyProof.Rows

/-! ### the text by places -/
/-- the j-th statement of a class's body -/
def inClass (s : Stmt) (j : Nat) : Stmt := match s with
  | .ClassDef _ _ _ body _ _ _ _ _ _ _ => body.getD j (.Pass ⟨0, 0, 0, 0⟩)
  | _ => .Pass ⟨0, 0, 0, 0⟩
def defArgs (s : Stmt) : Arguments := match s with
  | .FunctionDef _ a _ _ _ _ _ _ _ _ => a
  | _ => { posonlyargs := [], args := [], vararg := none, kwonlyargs := [], kw_defaults := [], kwarg := none, defaults := [] }
def defBody (s : Stmt) : List Stmt := match s with
  | .FunctionDef _ _ b _ _ _ _ _ _ _ => b
  | _ => []
def defScope (s : Stmt) : Scope := match s with
  | .FunctionDef _ _ _ _ _ _ sc _ _ _ => sc
  | _ => { kind := .function, names := [], isGenerator := false, isCoroutine := false }

/-! ### no exception leaves a def -/
abbrev CX0 : CXT := fun _ _ _ _ _ _ => False
abbrev E0 : XK := fun _ _ _ => False
theorem pass0 {X : Cx} : Passes CX0 X E0 := fun _ _ _ _ _ _ _ h => h.elim

/-! ### a def (or method) of the text as it stands behind the top -/
structure Fun (K : PySem.W.Frag) (x qual : Str) (st : Stmt) (f : Addr) (fd : FuncData) : Prop where
  ex : ∃ (oc : Value) (od : Option Addr) (kV doc pm : Value) (an : Option Addr) (cdv ct : Value) (osl : Array (Option Value)),
    fd = PySem.W.fnOf x qual (defArgs st) (defBody st) (defScope st) .none kV doc pm an cdv ct ∧ K.lookup f = some ⟨oc, od, .func fd, osl⟩ ∧ PySem.W.codeIn K cdv qual = true
  kp : PySem.W.keepIn K (.ref f) = true
section
variable {P : Program} {w : World} {K : PySem.W.Frag} {mg : Str → Option Value} {base : Heap}
/-- THE RULE for a def: its body as a term of rules, and the reading of that term -/
theorem Fun.ok {x qual : Str} {st : Stmt} {f : Addr} {fd : FuncData} {N ps : List Str} {k : Nat} {sp : Sp} (F : Fun K x qual st f fd) (S : FnScope N ps (defScope st)) (len : ∀ vs H Q E, sp vs H Q E → vs.length = ps.length)
    (hbody : ∀ (cdv : Value) (A : Around) (outer : List Env) (s : Shared) (H : Hp) (vs : List V) (Q : VK) (E : XK), Room k (A.deeper (envOfC qual (defScope st) s.heap.objs.size f cdv)) → sp vs H Q E →
      ∃ t, PSs (cxOf CX0 P w K mg base N qual (defScope st) f cdv A outer s H E).nox (defBody st) t ∧ t { nx := fun _ H' => Q .non H', rt := Q } (start N vs) H) : FnOk P w K mg base CX0 (k + 1) f fd ps sp := by
  obtain ⟨oc, od, kV, doc, pm, an, cdv, ct, osl, rfl, lk, hcd⟩ := F.ex
  refine fn_of lk hcd S len fun A outer s H vs Q E hr hsp => ?_
  obtain ⟨t, h, q⟩ := hbody cdv A outer s H vs Q E hr hsp
  exact ⟨t, h.nox, q⟩
/-- how its arguments bind (no defaults): h is «fun _ _ _ _ _ _ us hl => match us, hl with | [_, _], _ => rfl», one _ a parameter -/
theorem Fun.binds {x qual : Str} {st : Stmt} {f : Addr} {fd : FuncData} {ps : List Str} (F : Fun K x qual st f fd)
    (h : ∀ (kV doc pm : Value) (an : Option Addr) (cdv ct : Value) (us : List Value), us.length = ps.length → bindArgs (PySem.W.fnOf x qual (defArgs st) (defBody st) (defScope st) .none kV doc pm an cdv ct) ⟨us, []⟩ = pure (ps.zip us)) : Binds K fd ps [] := by
  obtain ⟨oc, od, kV, doc, pm, an, cdv, ct, osl, rfl, lk, hcd⟩ := F.ex
  exact .all (h kV doc pm an cdv ct)
theorem fun_mk {x qual : Str} {st : Stmt} {f : Addr} {oc : Value} {od an : Option Addr} {osl : Array (Option Value)} {kV doc pm cdv ct : Value} (l : K.lookup f = some ⟨oc, od, .func (PySem.W.fnOf x qual (defArgs st) (defBody st) (defScope st) .none kV doc pm an cdv ct), osl⟩)
    (c : PySem.W.codeIn K cdv qual = true) (k : PySem.W.keepIn K (.ref f) = true) : Fun K x qual st f (PySem.W.fnOf x qual (defArgs st) (defBody st) (defScope st) .none kV doc pm an cdv ct) := ⟨⟨oc, od, kV, doc, pm, an, cdv, ct, osl, rfl, l, c⟩, k⟩
end
theorem hu_of {A : Around} {k : Nat} (hr : Room k A) : A.units + 1 < cLine := Nat.lt_of_le_of_lt (Nat.add_le_add_left (by decide : 1 ≤ 64) _) hr.units
/-! ### expressions in short: the name that stands in the i-th slot -/
section
variable {X : Cx}
theorem pv (i : Nat) {x : Str} {pos : Pos} (hN : X.N[i]? = some x := by rfl) (hv : Vis X.env.scope x := by first | exact Or.inl rfl | exact Or.inr (Or.inl rfl) | exact Or.inr (Or.inr rfl)) (hd : (x == ("__debug__" : Str)) = false := by decide)
    (hcd : (x == ("__classdict__" : Str)) = false := by decide) : PE X (.Name x pos) (tVar i) := pe_var hN hv hd hcd
end

/-! ### tests -/
theorem iteF {A B : Prop} (h : B) : if false = true then A else B := by
  rw [if_neg Bool.false_ne_true]
  exact h
theorem iteT {A B : Prop} (h : A) : if true = true then A else B := by
  rw [if_pos rfl]
  exact h
theorem ite2 {c A B : Prop} [Decidable c] (h1 : c → A) (h2 : ¬ c → B) : if c then A else B := by
  by_cases h : c
  · rw [if_pos h]
    exact h1 h
  · rw [if_neg h]
    exact h2 h
/-! ### heaps -/
/-- all that was tracked is as it was -/
def Same (H H' : Hp) : Prop := ∀ b o, H b = some o → H' b = some o
theorem Same.refl (H : Hp) : Same H H := fun _ _ h => h
theorem Same.trans {H H1 H2 : Hp} (a : Same H H1) (b : Same H1 H2) : Same H H2 := fun c o h => b c o (a c o h)
theorem Same.free {H H' : Hp} (e : Same H H') {l : Addr} (h : H' l = Option.none) : H l = Option.none := by
  cases q : H l with
  | none => rfl
  | some o =>
    rw [e l o q] at h
    cases h
theorem Same.seq {K : PySem.W.Frag} {H H' : Hp} {a : Addr} {xs : List V} (e : Same H H') (h : SqL K H a xs) : SqL K H' a xs := by
  rcases h with (h | ⟨o, h⟩) | h
  · exact .inl (.inl (e _ _ h))
  · exact .inl (.inr ⟨o, e _ _ h⟩)
  · exact .inr h

end L2
namespace L2
open PySem PySem.Spec PyProof.Rows

/-! ### lists of pairs as tables -/
section
variable {κ : Type} [DecidableEq κ]
def valV (kvs : List (κ × V)) (k : κ) : Option V := (kvs.find? fun kv => decide (kv.1 = k)).map (·.2)
/-- in its place, or at the end -/
def putK (kvs : List (κ × V)) (k : κ) (v : V) : List (κ × V) :=
  if (kvs.any fun kv => decide (kv.1 = k)) = true then kvs.map (fun kv => if kv.1 = k then (kv.1, v) else kv) else kvs ++ [(k, v)]
def dropK (kvs : List (κ × V)) (k : κ) : List (κ × V) := kvs.filter fun kv => decide (kv.1 ≠ k)

theorem valV_pos {p : κ × V} {r : List (κ × V)} {k : κ} (e : p.1 = k) : valV (p :: r) k = some p.2 := by simp [valV, List.find?_cons, e]
theorem valV_neg {p : κ × V} {r : List (κ × V)} {k : κ} (e : ¬ p.1 = k) : valV (p :: r) k = valV r k := by simp [valV, List.find?_cons, e]
theorem valV_any (k : κ) : ∀ kvs : List (κ × V), (kvs.any fun kv => decide (kv.1 = k)) = (valV kvs k).isSome
  | [] => rfl
  | p :: r => by
    rw [List.any_cons]
    by_cases e : p.1 = k
    · simp only [valV_pos e, decide_eq_true e, Bool.true_or, Option.isSome_some]
    · rw [valV_neg e, decide_eq_false e, Bool.false_or]; exact valV_any k r
theorem valV_map (k j : κ) (y : V) : ∀ kvs : List (κ × V), valV (kvs.map fun kv => if kv.1 = k then (kv.1, y) else kv) j = (valV kvs j).map fun x => if j = k then y else x
  | [] => rfl
  | p :: r => by
    have ih := valV_map k j y r
    rw [List.map_cons]
    by_cases h : p.1 = k
    · rw [if_pos h]
      by_cases e : p.1 = j
      · rw [valV_pos (p := (p.1, y)) e, valV_pos e, Option.map_some, if_pos (e.symm.trans h)]
      · rw [valV_neg (p := (p.1, y)) e, valV_neg e, ih]
    · rw [if_neg h]
      by_cases e : p.1 = j
      · rw [valV_pos (p := p) e, valV_pos e, Option.map_some, if_neg (fun z => h (e.trans z))]
      · rw [valV_neg (p := p) e, valV_neg e, ih]
theorem valV_snoc (k j : κ) (y : V) : ∀ kvs : List (κ × V), valV kvs k = none → valV (kvs ++ [(k, y)]) j = if j = k then some y else valV kvs j
  | [], _ => by
    by_cases e : k = j
    · rw [if_pos e.symm]; exact valV_pos (p := (k, y)) e
    · rw [if_neg (fun z => e z.symm)]; exact valV_neg (p := (k, y)) e
  | p :: r, hn => by
    rw [List.cons_append]
    have hk : ¬ p.1 = k := fun z => by rw [valV_pos z] at hn; cases hn
    rw [valV_neg hk] at hn
    have ih := valV_snoc k j y r hn
    by_cases e : p.1 = j
    · rw [valV_pos e, valV_pos e, if_neg (fun z => hk (e.trans z))]
    · rw [valV_neg e, valV_neg e, ih]
theorem valV_put (kvs : List (κ × V)) (k j : κ) (y : V) : valV (putK kvs k y) j = if j = k then some y else valV kvs j := by
  unfold putK
  by_cases a : (kvs.any fun kv => decide (kv.1 = k)) = true
  · rw [if_pos a, valV_map]
    rw [valV_any] at a
    by_cases e : j = k
    · obtain ⟨x, hx⟩ := Option.isSome_iff_exists.mp a
      rw [if_pos e, e, hx, Option.map_some, if_pos rfl]
    · rw [if_neg e]
      cases valV kvs j with
      | none => rfl
      | some x => rw [Option.map_some, if_neg e]
  · rw [if_neg a]
    refine valV_snoc k j y kvs ?_
    rw [valV_any] at a
    cases q : valV kvs k with
    | none => rfl
    | some x => rw [q] at a; exact (a rfl).elim
theorem length_putK (kvs : List (κ × V)) (k : κ) (v : V) : (putK kvs k v).length ≤ kvs.length + 1 := by
  unfold putK
  split
  · rw [List.length_map]; omega
  · rw [List.length_append, List.length_cons, List.length_nil]; omega
theorem RelO.isSome_eq {o : Option V} {u : Option Value} (r : RelO o u) : o.isSome = u.isSome := by
  cases o with
  | none => cases u with
    | none => rfl
    | some _ => exact (show False from r).elim
  | some _ => cases u with
    | none => exact (show False from r).elim
    | some _ => rfl
/-- raw tables of the same keys -/
theorem KV.val {kvs : List (κ × V)} {vs : List (κ × Value)} (r : KV kvs vs) (k : κ) : RelO (valV kvs k) (valueAt vs k) := by
  unfold KV at r
  induction r with
  | nil => exact True.intro
  | @cons p q ps qs h t ih =>
    obtain ⟨h1, h2⟩ := h
    by_cases e : p.1 = k
    · have e' : q.1 = k := h1.symm.trans e
      have b : valueAt (q :: qs) k = some q.2 := by simp [valueAt, List.find?_cons, e']
      rw [valV_pos e, b]; exact h2
    · have e' : ¬ q.1 = k := fun z => e (h1.trans z)
      have b : valueAt (q :: qs) k = valueAt qs k := by simp [valueAt, List.find?_cons, e']
      rw [valV_neg e, b]; exact ih
theorem KV.any {kvs : List (κ × V)} {vs : List (κ × Value)} (r : KV kvs vs) (k : κ) : (kvs.any fun kv => decide (kv.1 = k)) = vs.any fun kv => decide (kv.1 = k) := by
  unfold KV at r
  induction r with
  | nil => rfl
  | cons h t ih => rw [List.any_cons, List.any_cons, ih, h.1]
theorem KV.repl {kvs : List (κ × V)} {vs : List (κ × Value)} (r : KV kvs vs) (k : κ) {y : V} {u : Value} (ry : RelV y u) :
    KV (kvs.map fun kv => if kv.1 = k then (kv.1, y) else kv) (vs.map fun kv => if kv.1 = k then (kv.1, u) else kv) := by
  unfold KV at r ⊢
  induction r with
  | nil => exact .nil
  | @cons p q ps qs h t ih =>
    rw [List.map_cons, List.map_cons]
    refine .cons ?_ ih
    obtain ⟨h1, h2⟩ := h
    by_cases e : p.1 = k
    · rw [if_pos e, if_pos (h1.symm.trans e)]; exact ⟨h1, ry⟩
    · rw [if_neg e, if_neg (fun z => e (h1.trans z))]; exact ⟨h1, h2⟩
theorem KV.put {kvs : List (κ × V)} {vs : List (κ × Value)} (r : KV kvs vs) (k : κ) {y : V} {u : Value} (ry : RelV y u) : KV (putK kvs k y) (stored vs k u) := by
  unfold putK stored
  rw [r.any k]
  by_cases e : (vs.any fun kv => decide (kv.1 = k)) = true
  · rw [if_pos e, if_pos e]; exact r.repl k ry
  · rw [if_neg e, if_neg e]; exact Paired.snoc r ⟨rfl, ry⟩
theorem KV.length {kvs : List (κ × V)} {vs : List (κ × Value)} (r : KV kvs vs) : kvs.length = vs.length := Paired.length r
end


/-! ### a tracked dict, its keys ints and texts or tuples of these -/
theorem kV_is {P : Program} {w : World} {k : Key} {u : Value} (r : RelV (kV k) u) : (mixKind P w).is k u = true := by
  cases k with
  | inl i => obtain ⟨t, e⟩ := (show ∃ t, u = Value.int i t from r); subst e; exact mixKind_int P w i t
  | inr x => obtain ⟨t, e⟩ := (show ∃ t, u = Value.str x t from r); subst e; exact mixKind_str P w x t
theorem items_are {P : Program} {w : World} : ∀ {ks : List Key} {us : List Value}, Vals (ks.map kV) us → ItemsAre (mixKind P w) ks us
  | [], _, r => by rw [List.map_nil] at r; cases r; exact .nil
  | k :: ks, _, r => by
    rw [List.map_cons] at r
    cases r with
    | cons h t => exact .cons (kV_is h) (items_are t)

/-- raw entries of a dict with tuple keys -/
abbrev KT (H : Hp) : List (List Key × V) → List (List Key × Addr × Value) → Prop := Paired fun p q => p.1 = q.1 ∧ H q.2.1 = some (.tup (p.1.map kV)) ∧ RelV p.2 q.2.2
theorem KT.val {H : Hp} {kvs : List (List Key × V)} {xs : List (List Key × Addr × Value)} (r : KT H kvs xs) (k : List Key) : RelO (valV kvs k) ((atKey xs k).map (·.2)) := by
  induction r with
  | nil => exact True.intro
  | @cons p q ps qs h t ih =>
    obtain ⟨h1, _, h2⟩ := h
    by_cases e : p.1 = k
    · have e' : q.1 = k := h1.symm.trans e
      have b : atKey (q :: qs) k = some q.2 := by simp [atKey, List.find?_cons, e']
      rw [valV_pos e, b]; exact h2
    · have e' : ¬ q.1 = k := fun z => e (h1.trans z)
      have b : atKey (q :: qs) k = atKey qs k := by simp [atKey, List.find?_cons, e']
      rw [valV_neg e, b]; exact ih
theorem KT.repl {H : Hp} {kvs : List (List Key × V)} {xs : List (List Key × Addr × Value)} (r : KT H kvs xs) (k : List Key) {y : V} {u : Value} (ry : RelV y u) :
    KT H (kvs.map fun kv => if kv.1 = k then (kv.1, y) else kv) (xs.map (putAt k u)) := by
  induction r with
  | nil => exact .nil
  | @cons p q ps qs h t ih =>
    rw [List.map_cons, List.map_cons]
    refine .cons ?_ ih
    obtain ⟨h1, h2, h3⟩ := h
    unfold putAt
    by_cases e : p.1 = k
    · rw [if_pos e, if_pos (h1.symm.trans e)]; exact ⟨h1, h2, ry⟩
    · rw [if_neg e, if_neg (fun z => e (h1.trans z))]; exact ⟨h1, h2, h3⟩
theorem KT.put {H : Hp} {kvs : List (List Key × V)} {xs : List (List Key × Addr × Value)} (r : KT H kvs xs) (k : List Key) {b : Addr} {y : V} {u : Value} (hb : H b = some (.tup (k.map kV))) (ry : RelV y u) :
    KT H (putK kvs k y) (storedH xs k b u) := by
  have e : (kvs.any fun kv => decide (kv.1 = k)) = (atKey xs k).isSome := by
    rw [valV_any, (r.val k).isSome_eq, Option.isSome_map]
  unfold putK storedH
  rw [e]
  by_cases q : (atKey xs k).isSome = true
  · rw [if_pos q, if_pos q]; exact r.repl k ry
  · rw [if_neg q, if_neg q]; exact Paired.snoc r ⟨rfl, hb, ry⟩
theorem KT.keeps {H H' : Hp} {kvs : List (List Key × V)} {xs : List (List Key × Addr × Value)} (r : KT H kvs xs) (ht : ∀ b ys, H b = some (.tup ys) → H' b = some (.tup ys)) : KT H' kvs xs :=
  Paired.mapP r fun _ _ z => ⟨z.1, ht _ _ z.2.1, z.2.2⟩

section
variable {P : Program} {w : World} {H : Hp} {h : Heap} {a : Addr}
theorem rd_of {u : HO} (ok : HOk P w H h) (e : Rd H a u) : ObjOk P w H h a u := e.ok ok
theorem dk_rd {kvs : List (Key × V)} (ok : HOk P w H h) (e : Rd H a (.dK kvs)) : kvs.length ≤ sizeLine ∧ (a == sysModules) = false ∧ ∃ vs, KV kvs vs ∧ h.DictOf (mixKind P w) a vs :=
  show ObjOk P w H h a (.dK kvs) from rd_of ok e
theorem dk_of {kvs : List (Key × V)} (ok : HOk P w H h) (e : H a = some (.dK kvs)) : kvs.length ≤ sizeLine ∧ (a == sysModules) = false ∧ ∃ vs, KV kvs vs ∧ h.DictOf (mixKind P w) a vs := dk_rd ok (.inl e)
/-- a tracked tuple of ints and texts is a key -/
theorem key_of {ks : List Key} (ok : HOk P w H h) (e : H a = some (.tup (ks.map kV))) : (tupleKind (mixKind P w)).is h ks a := by
  obtain ⟨_, its, r, o, h1, h2, n, h3⟩ := (show ObjOk P w H h a (.tup (ks.map kV)) from ok a _ e)
  exact ⟨o, its.toArray, n, h1, h2, h3, by simpa using items_are r⟩
theorem dt_rd {kvs : List (List Key × V)} (ok : HOk P w H h) (e : Rd H a (.dT kvs)) : kvs.length ≤ sizeLine ∧ (a == sysModules) = false ∧
    ∃ xs, KT H kvs xs ∧ h.DictOfH (tupleKind (mixKind P w)) a xs := by
  obtain ⟨z, y, xs, r, o, es, ep, h1, h2, h3, h4, h5⟩ := (show ObjOk P w H h a (.dT kvs) from rd_of ok e)
  refine ⟨z, y, xs, r, o, es, ep, h1, h2, h3, h4, fun x hx => ?_, h5⟩
  have all : ∀ {l : List (List Key × V)} {m : List (List Key × Addr × Value)}, KT H l m → ∀ x ∈ m, (tupleKind (mixKind P w)).is h x.1 x.2.1 := by
    intro l m q
    induction q with
    | nil => intro x hx; exact nomatch hx
    | @cons p q ps qs hq t ih =>
      intro x hx
      rcases List.mem_cons.mp hx with e | hx
      · subst e
        exact key_of ok (by rw [← hq.1]; exact hq.2.1)
      · exact ih x hx
  exact all r x hx
theorem dt_of {kvs : List (List Key × V)} (ok : HOk P w H h) (e : H a = some (.dT kvs)) : kvs.length ≤ sizeLine ∧ (a == sysModules) = false ∧
    ∃ xs, KT H kvs xs ∧ h.DictOfH (tupleKind (mixKind P w)) a xs := dt_rd ok (.inl e)
end

/-- what the dict at a holds at the key y -/
def DGet (H : Hp) (a : Addr) (y : V) (r : Option V) : Prop :=
  (∃ kvs k, Rd H a (.dK kvs) ∧ y = kV k ∧ r = valV kvs k) ∨ ∃ kvs k b, Rd H a (.dT kvs) ∧ y = .ref b ∧ H b = some (.tup (k.map kV)) ∧ r = valV kvs k
/-- the heap behind a[y] = v -/
def DPut (H : Hp) (a : Addr) (y v : V) (H' : Hp) : Prop :=
  (∃ kvs k, H a = some (.dK kvs) ∧ y = kV k ∧ kvs.length < sizeLine ∧ H' = upd H a (.dK (putK kvs k v))) ∨
  ∃ kvs k b, H a = some (.dT kvs) ∧ y = .ref b ∧ H b = some (.tup (k.map kV)) ∧ kvs.length < sizeLine ∧ H' = upd H a (.dT (putK kvs k v))
theorem DGet.t {H : Hp} {a b : Addr} {kvs : List (List Key × V)} {k : List Key} (e : H a = some (.dT kvs)) (eb : H b = some (.tup (k.map kV))) : DGet H a (.ref b) (valV kvs k) := .inr ⟨kvs, k, b, .inl e, rfl, eb, rfl⟩
theorem DPut.t {H : Hp} {a b : Addr} {kvs : List (List Key × V)} {k : List Key} {v : V} (e : H a = some (.dT kvs)) (eb : H b = some (.tup (k.map kV))) (hl : kvs.length < sizeLine) :
    DPut H a (.ref b) v (upd H a (.dT (putK kvs k v))) := .inr ⟨kvs, k, b, e, rfl, eb, hl, rfl⟩


section
variable {X : Cx} {pins : List (Addr × Obj)} {σ : St} {H : Hp} {s : Shared} {a : Addr} {y v : V} {u r : Value} {o : Option V} {A : Around} {E : Value → Shared → Prop}

theorem Inv.big (I : Inv X pins σ H s) : sysModules < s.heap.objs.size := by
  have h : mainGlobals < s.heap.objs.size := (I.mod.glob.keeps I.bk).lt
  exact Nat.lt_trans (by decide) h

/-- d[y], there -/
theorem d_getItem {Q : Value → Shared → Prop} (hu : A.units + 1 < cLine) (I : Inv X pins σ H s) (g : DGet H a y (some v)) (ry : RelV y u) (h : ∀ w' s', Inv X pins σ H s' → RelV v w' → Q w' s') :
    wpAny (model X.prog X.w) A (getItem (.ref a) u) Q E s := by
  rcases g with ⟨kvs, k, e, ey, l⟩ | ⟨kvs, k, b, e, ey, eb, l⟩
  · subst ey
    obtain ⟨z, hd, vs, rel, dd⟩ := dk_rd I.hok e
    obtain ⟨w', hw, rw'⟩ := RelO.some_of (v := v) (o := valueAt vs k) (by rw [l]; exact rel.val k)
    exact wpAny_getItem_of (kV_is ry) dd.mapOf hw (h w' _ (I.tok _) rw')
  · subst ey
    cases (show u = Value.ref b from ry)
    obtain ⟨z, hd, xs, rel, dd⟩ := dt_rd I.hok e
    obtain ⟨w', hw, rw'⟩ := RelO.some_of (v := v) (o := (atKey xs k).map (·.2)) (by rw [l]; exact rel.val k)
    obtain ⟨p, hp, hp2⟩ := Option.map_eq_some_iff.mp hw
    refine wpAny_getItem_heap (tupleKind_room_in1 hu) (key_of I.hok eb) dd hp ?_
    rw [hp2]
    exact h w' _ (I.tok _) rw'
theorem d_notIn {Q : Value → Shared → Prop} (hu : A.units + 1 < cLine) (I : Inv X pins σ H s) (g : DGet H a y o) (ry : RelV y u) (h : ∀ s', Inv X pins σ H s' → Q (.bool (!o.isSome)) s') :
    wpAny (model X.prog X.w) A (compareOp .NotIn u (.ref a)) Q E s := by
  rcases g with ⟨kvs, k, e, ey, l⟩ | ⟨kvs, k, b, e, ey, eb, l⟩
  · subst ey
    obtain ⟨z, hd, vs, rel, dd⟩ := dk_rd I.hok e
    refine wpAny_notIn_of (kV_is ry) hd dd.mapOf ?_
    rw [← (rel.val k).isSome_eq, ← l]
    exact h _ (I.tok _)
  · subst ey
    cases (show u = Value.ref b from ry)
    obtain ⟨z, hd, xs, rel, dd⟩ := dt_rd I.hok e
    refine wpAny_notIn_heap (tupleKind_room_in1 hu) (key_of I.hok eb) hd dd ?_
    have q := (rel.val k).isSome_eq
    rw [Option.isSome_map] at q
    rw [← q, ← l]
    exact h _ (I.tok _)
/-- a dict's object is replaced -/
theorem d_write {h' : Heap} {t' : Nat} {ob : HO} (I : Inv X pins σ H s) (mu : Mut (H a)) (hs : Heap.SameBut a s.heap h') (he : ∃ q, h'.get? a = some q) (new : ObjOk X.prog X.w (upd H a ob) h' a ob) :
    Inv X pins σ (upd H a ob) { s with heap := h', toks := t' } :=
  I.write (x := a) (e := a) mu (.inl rfl) (fun b q hb z => (hs.2 b hb).trans z) he new
theorem dk_new {P : Program} {w : World} {H' : Hp} {h' : Heap} {kvs : List (Key × V)} {vs : List (Key × Value)} (z : kvs.length ≤ sizeLine) (hd : (a == sysModules) = false) (rel : KV kvs vs) (dd : h'.DictOf (mixKind P w) a vs) :
    ObjOk P w H' h' a (.dK kvs) := ⟨z, hd, vs, rel, dd⟩
/-- d[y] = v -/
theorem d_setItem {H' : Hp} {Q : Unit → Shared → Prop} (hu : A.units + 1 < cLine) (I : Inv X pins σ H s) (g : DPut H a y v H') (ry : RelV y u) (rv : RelV v r) (h : ∀ s', Inv X pins σ H' s' → Q () s') :
    wpAny (model X.prog X.w) A (setItem (.ref a) u r) Q E s := by
  rcases g with ⟨kvs, k, e, ey, l, eH⟩ | ⟨kvs, k, b, e, ey, eb, l, eH⟩
  · subst ey eH
    obtain ⟨z, hd, vs, rel, dd⟩ := dk_of I.hok e
    have hz : vs.length ≤ sizeLine := by rw [← rel.length]; exact z
    have hl : (putK kvs k v).length ≤ sizeLine := by have := length_putK kvs k v; omega
    refine wpAny_setItem_pairs (hsz := hz) (kV_is ry) dd fun h' dd' hs => h _ ?_
    have he : ∃ q, h'.get? a = some q := let ⟨q, _, _, hq, _⟩ := dd'; ⟨q, hq⟩
    exact d_write I (by rw [e]; exact True.intro) hs he (dk_new hl hd (rel.put k rv) dd')
  · subst ey eH
    cases (show u = Value.ref b from ry)
    obtain ⟨z, hd, xs, rel, dd⟩ := dt_of I.hok e
    have hz : xs.length ≤ sizeLine := by rw [← Paired.length rel]; exact z
    have hl : (putK kvs k v).length ≤ sizeLine := by have := length_putK kvs k v; omega
    refine wpAny_setItem_heap (hsz := hz) (tupleKind_room_in1 hu) (key_of I.hok eb) dd fun h' dd' hs => h _ ?_
    obtain ⟨q, es, ep, hq, h2, h3, h4, _, h5⟩ := dd'
    refine d_write I (by rw [e]; exact True.intro) hs ⟨q, hq⟩ ⟨hl, hd, _, (rel.put k eb rv).keeps fun c ys ec => ?_, q, es, ep, hq, h2, h3, h4, h5⟩
    rw [upd_ne (ne_of ec e (fun z => nomatch z))]
    exact ec
end

section
variable {X : Cx} {pins : List (Addr × Obj)} {σ : St} {H : Hp} {s : Shared} {a : Addr} {kvs : List (Key × V)} {k : Key} {u : Value} {A : Around} {E : Value → Shared → Prop}
end


/-! ### readings and rules -/
/-- the element of a subscription, not a slice -/
def NoSl (i : Expr) : Prop := ∀ ov iv, subscripted i false ov iv = operate [ov, iv] (getItem ov iv)
theorem subD_of {prog : Program} {w : World} {A : Around} {E : Value → Shared → Prop} {s : Shared} {env : Env} {value slice : Expr} {pos : Pos} {T id : String} {Q : Value → Shared → Prop}
    (hl : typeLookup (.type T) "__getitem__" = pure (some (.builtin id))) (hs : NoSl slice)
    (h : wpAny (model prog w) A (eval value env) (fun o s₁ => wpAny (model prog w) A (eval slice env) (fun i s₂ => s₂.TypeIs o T ∧ wpAny (model prog w) A (getItem o i) Q E s₂) E s₁) E s) :
    wpAny (model prog w) A (eval (.Subscript value slice pos) env) Q E s := by
  refine Subscript_ (wpAny_mono h (fun o s₁ h₁ => wpAny_mono h₁ (fun i s₂ h₂ => ?_) fun _ _ x => x) fun _ _ x => x)
  obtain ⟨hT, h₂⟩ := h₂
  unfold subscriptTail
  refine wpAny_bind ?_
  rw [getitemInPython_of_ne hT.not_modules]
  refine wpAny_bind (wpAny_specialOf hT hl ?_)
  have fin : wpAny (model prog w) A (subscripted slice false o i) (fun r s₃ => wpAny (model prog w) A (letTemporaryGo value o r >>= fun _ => pure r) Q E s₃) E s₂ := by
    rw [hs o i]
    exact wpAny_operating (wpAny_mono h₂ (fun r s₃ h₃ => wpAny_bind (wpAny_letTemporaryGo (wpAny_pure h₃))) fun _ _ x => x)
  first
    | exact wpAny_pure (wpAny_bind fin)
    | exact wpAny_bind (wpAny_pure (wpAny_bind fin))
    | exact wpAny_bind fin

theorem dict_typeIs {X : Cx} {pins : List (Addr × Obj)} {σ : St} {H : Hp} {s : Shared} {a : Addr} {y : V} {o : Option V} (I : Inv X pins σ H s) (g : DGet H a y o) : s.TypeIs (.ref a) "dict" := by
  rcases g with ⟨kvs, k, e, _, _⟩ | ⟨kvs, k, b, e, _, _, _⟩
  · obtain ⟨_, _, vs, _, dd⟩ := dk_rd I.hok e
    exact dd.typeIs
  · obtain ⟨_, _, xs, _, dd⟩ := dt_rd I.hok e
    exact dd.typeIs
/-- d[y] -/
def tDGet (td ty : TE) : TE := fun σ H Q => td σ H fun x H1 => ty σ H1 fun y H2 => ∃ a v, x = .ref a ∧ DGet H2 a y (some v) ∧ Q v H2
/-- y in d, y not in d -/
def tDIn (ty td : TE) : TE := fun σ H Q => ty σ H fun y H1 => td σ H1 fun x H2 => ∃ a o, x = .ref a ∧ DGet H2 a y o ∧ Q (.bl o.isSome) H2
def tDNotIn (ty td : TE) : TE := fun σ H Q => ty σ H fun y H1 => td σ H1 fun x H2 => ∃ a o, x = .ref a ∧ DGet H2 a y o ∧ Q (.bl (!o.isSome)) H2
/-- d[y] = v -/
def sDPut (td ty tv : TE) : TS := fun D σ H => tv σ H fun v H1 => td σ H1 fun x H2 => ty σ H2 fun y H3 => ∃ a H4, x = .ref a ∧ DPut H3 a y v H4 ∧ D.nx σ H4
/-- d[y] op= v -/
def sDAug (td ty tv : TE) (rd : V → V → Hp → VK → Prop) : TS := fun D σ H => td σ H fun x H1 => ty σ H1 fun y H2 => ∃ a v, x = .ref a ∧ DGet H2 a y (some v) ∧
  tv σ H2 fun y2 H3 => rd v y2 H3 fun z H4 => ∃ H5, DPut H4 a y z H5 ∧ D.nx σ H5
/-- del d[y] -/
def sDDel (td ty : TE) : TS := fun D σ H => td σ H fun x H1 => ty σ H1 fun y H2 => ∃ a kvs k, x = .ref a ∧ H2 a = some (.dK kvs) ∧ y = kV k ∧ (valV kvs k).isSome = true ∧ D.nx σ (upd H2 a (.dK (dropK kvs k)))

section
variable {X : Cx} {o i e value : Expr} {pos pos' tpos : Pos} {td ty tv : TE}
theorem pe_dget (hu : X.A.units + 1 < cLine) (ho : PE X o td) (hi : PE X i ty) (hs : NoSl i) : PE X (.Subscript o i pos) (tDGet td ty) := by
  intro pins s σ H Q I h
  refine subD_of PySem.F.slot_dict_getitem.lookup hs (thn (ho pins s σ H _ I h) fun u s1 ⟨x, H1, I1, rx, q1⟩ => thn (hi pins s1 σ H1 _ I1 q1) fun iv s2 ⟨y, H2, I2, ry, a, v, ex, g, q2⟩ => ?_)
  subst ex
  obtain rfl : u = Value.ref a := rx
  exact ⟨dict_typeIs I2 g, d_getItem hu I2 g ry fun w' s3 I3 rw' => ⟨v, H2, I3, rw', q2⟩⟩
theorem ps_dput (hu : X.A.units + 1 < cLine) (ho : PE X o td) (hi : PE X i ty) (hv : PE X value tv) (hs : swapsWith value (some (.Subscript o i pos')) pos.line X.env = pure false) :
    PS X (.Assign [.Subscript o i pos'] value pos) (sDPut td ty tv) := by
  intro pins s σ H D I h
  refine wpAny_Assign_Subscript (thn (hv pins s σ H _ I h) fun r s1 ⟨v, H1, I1, rv, q1⟩ => thn (ho pins s1 σ H1 _ I1 q1) fun u s2 ⟨x, H2, I2, rx, q2⟩ => thn (hi pins s2 σ H2 _ I2 q2) fun iv s3 ⟨y, H3, I3, ry, a, H4, ex, g, q3⟩ => ?_) hs
  subst ex
  obtain rfl : u = Value.ref a := rx
  exact d_setItem hu I3 g ry rv fun s4 I4 => ⟨σ, H4, I4, q3⟩
end


/-! ### displays -/
theorem dt_empty {P : Program} {w : World} {H : Hp} (h : Heap) (hb : sysModules < h.objs.size) : ObjOk P w H (h.push { cls := .type "dict", data := .dict #[] }) h.objs.size (.dT []) :=
  ⟨Nat.zero_le _, beq_eq_false_iff_ne.mpr (Ne.symm (Nat.ne_of_lt hb)), [], .nil, _, #[], 0, Heap.get?_push_size _ rfl, ⟨rfl, rfl, rfl⟩, rfl, rfl, List.nodup_nil⟩
/-- {}, to be a dict of the kind that is wanted -/
def tDNewK : TE := fun _ H Q => ∀ p, H p = none → Q (.ref p) (upd H p (.dK []))
def tDNewT : TE := fun _ H Q => ∀ p, H p = none → Q (.ref p) (upd H p (.dT []))
section
variable {X : Cx} {pos : Pos}
theorem pe_dnewT : PE X (.Dict [] [] pos) tDNewT := fun pins s σ H Q I h =>
  wpAny_Dict_empty ⟨.ref s.heap.objs.size, _, I.laid (a := s.heap.objs.size) (o := .dT []) (t' := s.toks) (fun _ _ q => Heap.get?_push_of_some _ q) (Nat.le_refl _) (dt_empty s.heap I.big), rfl, h _ (I.hok.fresh (Nat.le_refl _))⟩
end

/-- the pairs of a display, from the left -/
def tPairs : List (TE × TE) → St → Hp → (List (V × V) → Hp → Prop) → Prop
  | [], _, H, Q => Q [] H
  | (tk, tv) :: r, σ, H, Q => tk σ H fun x H1 => tv σ H1 fun y H2 => tPairs r σ H2 fun ps H3 => Q ((x, y) :: ps) H3
abbrev VV : List (V × V) → List (Value × Value) → Prop := Paired fun p q => RelV p.1 q.1 ∧ RelV p.2 q.2
def PPs (X : Cx) (pos : Pos) (keys : List (Option Expr)) (values : List Expr) (trs : List (TE × TE)) : Prop :=
  ∀ (pins : List (Addr × Obj)) (s : Shared) (σ : St) (H : Hp) (Q : List (V × V) → Hp → Prop), Inv X pins σ H s → tPairs trs σ H Q →
    wpAny (model X.prog X.w) X.A (evalPairs (pairTrees keys values X.env pos)) (fun vs s' => ∃ ps H', Inv X pins σ H' s' ∧ VV ps vs ∧ Q ps H') X.xe s
def mergeK (kvs more : List (Key × V)) : List (Key × V) := more.foldl (fun acc kv => putK acc kv.1 kv.2) kvs
/-- {k: v, ..} with keys ints and texts; the new dict stands empty while the pairs are made -/
def tDisp (trs : List (TE × TE)) : TE := fun σ H Q => ∀ p, H p = none → tPairs trs σ (upd H p (.dK [])) fun ps H2 => H2 p = some (.dK []) ∧ ∃ kvs : List (Key × V), ps = kvs.map (fun kv => (kV kv.1, kv.2)) ∧ kvs.length ≤ 15 ∧ Q (.ref p) (upd H2 p (.dK (mergeK [] kvs)))
/-! ### methods -/
/-- a method call o.m(e) of a built-in, with one argument: what must be seen of the text -/
structure M1 (X : Cx) (o : Expr) (m : Str) (apos : Pos) (e : Expr) (cpos : Pos) : Prop where
  base : attributeBase o m X.env (eval o X.env) = eval o X.env
  few : ((backTo cpos (starEach [e] X.env)).all (fun x => !x.1) && (backToKw cpos (keywordEach [] X.env)).all (fun x => x.1.isSome)
    && decide (([e] : List Expr).length + ([] : List Keyword).length + (if ([] : List Keyword).isEmpty then 0 else 1) < 30)) = true
  line : (apos.endLine == cpos.line) = true
  trees : backTo cpos (starEach [e] X.env) = [(false, eval e X.env)]
structure M2 (X : Cx) (o : Expr) (m : Str) (apos : Pos) (e f : Expr) (cpos : Pos) : Prop where
  base : attributeBase o m X.env (eval o X.env) = eval o X.env
  few : ((backTo cpos (starEach [e, f] X.env)).all (fun x => !x.1) && (backToKw cpos (keywordEach [] X.env)).all (fun x => x.1.isSome)
    && decide (([e, f] : List Expr).length + ([] : List Keyword).length + (if ([] : List Keyword).isEmpty then 0 else 1) < 30)) = true
  line : (apos.endLine == cpos.line) = true
  trees : backTo cpos (starEach [e, f] X.env) = [(false, eval e X.env), (false, eval f X.env)]

/-- a is a dict, whatever its keys -/
def IsD (H : Hp) (a : Addr) : Prop := (∃ kvs, Rd H a (.dK kvs)) ∨ ∃ kvs, Rd H a (.dT kvs)
section
variable {X : Cx} {pins : List (Addr × Obj)} {σ : St} {H : Hp} {s : Shared} {a : Addr} {y d : V} {u r : Value} {o : Option V} {A : Around} {E : Value → Shared → Prop}
end

def tDGet1 (td ty : TE) : TE := fun σ H Q => td σ H fun x H1 => ∃ a, x = .ref a ∧ IsD H1 a ∧ ty σ H1 fun y H2 => ∃ o, DGet H2 a y o ∧ Q (o.getD .non) H2
def tDGet2 (td ty tx : TE) : TE := fun σ H Q => td σ H fun x H1 => ∃ a, x = .ref a ∧ IsD H1 a ∧ ty σ H1 fun y H2 => tx σ H2 fun z H3 => ∃ o, DGet H3 a y o ∧ Q (o.getD z) H3
/-- d.pop(k): there; d.pop(k, x): there or not -/
def tDPop1 (td ty : TE) : TE := fun σ H Q => td σ H fun x H1 => ∃ a, x = .ref a ∧ IsD H1 a ∧ ty σ H1 fun y H2 => ∃ kvs k v, H2 a = some (.dK kvs) ∧ y = kV k ∧ valV kvs k = some v ∧ Q v (upd H2 a (.dK (dropK kvs k)))
def tDPop2 (td ty tx : TE) : TE := fun σ H Q => td σ H fun x H1 => ∃ a, x = .ref a ∧ IsD H1 a ∧ ty σ H1 fun y H2 => tx σ H2 fun z H3 => ∃ kvs k, H3 a = some (.dK kvs) ∧ y = kV k ∧
  (∀ v, valV kvs k = some v → Q v (upd H3 a (.dK (dropK kvs k)))) ∧ (valV kvs k = none → Q z H3)
section
variable {X : Cx} {o e f : Expr} {apos cpos : Pos} {td ty tx : TE}
end

/-! ### dict(d): a copy -/
section
variable {X : Cx} {pins : List (Addr × Obj)} {σ : St} {H : Hp} {s : Shared} {a : Addr} {kvs : List (Key × V)} {A : Around} {E : Value → Shared → Prop}
end


section
variable {X : Cx} {pins : List (Addr × Obj)} {σ : St} {H : Hp} {s : Shared} {a : Addr} {y : V} {u : Value} {A : Around} {E : Value → Shared → Prop}
end
end L2
namespace L2
open PySem PySem.Spec PyProof.Rows

theorem closure_fold (env : Env) : ∀ (names : List (Str × NameKind)) (cs : List (Str × Addr)), (∀ x, (x, NameKind.free) ∈ names → ∃ c, env.cells.lookup x = some c) →
    ∃ cl, (forIn names cs fun (p : Str × NameKind) (cs : List (Str × Addr)) => (if (p.2 == NameKind.free) = true then (do let c ← cellOf env p.1; pure (ForInStep.yield ((p.1, c) :: cs))) else pure (ForInStep.yield cs) : Sem (ForInStep (List (Str × Addr))))) = pure cl ∧
      (∀ x c, cl.lookup x = some c → env.cells.lookup x = some c ∨ cs.lookup x = some c) ∧ (∀ x, (x, NameKind.free) ∈ names → ∃ c, cl.lookup x = some c) ∧ (∀ x c, cs.lookup x = some c → ∃ d, cl.lookup x = some d)
  | [], cs, _ => ⟨cs, by simp, fun _ _ h => .inr h, (fun _ h => nomatch h), fun x c h => ⟨c, h⟩⟩
  | (n, k) :: r, cs, h => by
    by_cases hk : k = NameKind.free
    · subst hk
      obtain ⟨c, hc⟩ := h n (List.mem_cons_self ..)
      obtain ⟨cl, e, a, b, d⟩ := closure_fold env r ((n, c) :: cs) (fun x hx => h x (List.mem_cons_of_mem _ hx))
      have hcell : cellOf env n = pure c := by unfold cellOf; rw [hc]
      refine ⟨cl, ?_, fun x c' hx => ?_, fun x hx => ?_, fun x c' hx => ?_⟩
      · rw [List.forIn_cons]
        simp only [beq_self_eq_true, if_true, hcell, pure_bind]
        exact e
      · rcases a x c' hx with q | q
        · exact .inl q
        · rw [List.lookup_cons] at q
          by_cases hxn : (x == n) = true
          · rw [hxn] at q
            have hx' : x = n := by simpa using hxn
            subst hx'
            have : c = c' := by simpa using q
            subst this
            exact .inl hc
          · rw [Bool.eq_false_iff.mpr hxn] at q
            exact .inr q
      · rcases List.mem_cons.mp hx with q | q
        · have hx' : x = n := congrArg Prod.fst q
          subst hx'
          exact d x c (by rw [List.lookup_cons]; simp)
        · exact b x q
      · have : ∃ d', ((n, c) :: cs).lookup x = some d' := by
          rw [List.lookup_cons]
          by_cases hxn : (x == n) = true
          · rw [hxn]; exact ⟨c, rfl⟩
          · rw [Bool.eq_false_iff.mpr hxn]; exact ⟨c', hx⟩
        obtain ⟨d', hd'⟩ := this
        exact d x d' hd'
    · obtain ⟨cl, e, a, b, d⟩ := closure_fold env r cs (fun x hx => h x (List.mem_cons_of_mem _ hx))
      have hkf : (k == NameKind.free) = false := by simpa using hk
      refine ⟨cl, ?_, a, fun x hx => ?_, d⟩
      · rw [List.forIn_cons]
        simp only [hkf, Bool.false_eq_true, if_false, pure_bind]
        exact e
      · rcases List.mem_cons.mp hx with q | q
        · exact absurd (congrArg Prod.snd q).symm hk
        · exact b x q
theorem closure_ok (env : Env) (scope : Scope) (h : ∀ x, (x, NameKind.free) ∈ scope.names → ∃ c, env.cells.lookup x = some c) :
    ∃ cl, closureFor scope env = pure cl ∧ (∀ x c, cl.lookup x = some c → env.cells.lookup x = some c) ∧ (∀ x, (x, NameKind.free) ∈ scope.names → ∃ c, cl.lookup x = some c) := by
  obtain ⟨cl, e, a, b, _⟩ := closure_fold env scope.names [] h
  refine ⟨cl, ?_, fun x c hx => (a x c hx).elim id (fun z => by simp at z), b⟩
  unfold closureFor
  simp only [bind_pure]
  exact e

/-- the context of a comprehension's block -/
def cxC (X : Cx) (scope : Scope) (N' : List Str) (cl : List (Str × Addr)) (C : Addr) (s₀ : Shared) (H₀ : Hp) (fp : List Addr) (pn : List (Addr × Obj)) : Cx :=
  { X with N := N', s₀ := s₀, H₀ := H₀, env := compEnvC scope cl C X.env, outer := X.stack, ex := fp, fn := fun _ => false, pn := pn, xe := fun _ _ => False }
/-- which names of the block are the frame's own slots -/
inductive Cap (X : Cx) (scope : Scope) : List (Option Nat) → List Str → Prop
  | nil : Cap X scope [] []
  | own {x src N'} : Cap X scope src N' → Cap X scope (none :: src) (x :: N')
  | cap {x i src N'} : X.N[i]? = some x → scope.names.lookup x = some NameKind.free → (X.env.scope.names.lookup x = some NameKind.cell ∨ X.env.scope.names.lookup x = some NameKind.free) → Cap X scope src N' → Cap X scope (some i :: src) (x :: N')
def capSt (src : List (Option Nat)) (σ : St) : St := src.map fun o => match o with | none => none | some i => σ.getD i none
theorem Cap.length {X : Cx} {scope : Scope} : ∀ {src : List (Option Nat)} {N' : List Str}, Cap X scope src N' → src.length = N'.length
  | _, _, .nil => rfl
  | _, _, .own h => congrArg (· + 1) h.length
  | _, _, .cap _ _ _ h => congrArg (· + 1) h.length
theorem Cap.get {X : Cx} {scope : Scope} {σ : St} : ∀ {src : List (Option Nat)} {N' : List Str}, Cap X scope src N' → ∀ (j : Nat) (x : Str) (v : V), N'[j]? = some x → (capSt src σ)[j]? = some (some v) →
    ∃ i : Nat, X.N[i]? = some x ∧ σ[i]? = some (some v) ∧ scope.names.lookup x = some NameKind.free ∧ (X.env.scope.names.lookup x = some NameKind.cell ∨ X.env.scope.names.lookup x = some NameKind.free)
  | _, _, .nil, j, x, v, h, _ => by simp at h
  | _, _, .own h, 0, x, v, _, e => by simp [capSt] at e
  | _, _, .own h, j + 1, x, v, e1, e2 => h.get j x v (by simpa using e1) (by simpa [capSt] using e2)
  | _, _, .cap (x := y) (i := i) hN hf hk h, 0, x, v, e1, e2 => by
    have ex : y = x := by simpa using e1
    subst ex
    refine ⟨i, hN, ?_, hf, hk⟩
    simp only [capSt, List.map_cons, List.getElem?_cons_zero, Option.some.injEq] at e2
    rw [List.getD_eq_getElem?_getD] at e2
    cases q : σ[i]? with
    | none => rw [q] at e2; simp at e2
    | some o => rw [q] at e2; simp at e2; rw [e2]
  | _, _, .cap hN hf hk h, j + 1, x, v, e1, e2 => h.get j x v (by simpa using e1) (by simpa [capSt] using e2)

theorem lookup_relabel (env : Env) (x : Str) : ∀ {names : List (Str × NameKind)},
    (names.map fun (n, k) => if (k == NameKind.free && env.scope.kind == .function && env.kindOf n == some .cell) then (n, NameKind.cell) else (n, k)).lookup x =
      (names.lookup x).map fun k => if (k == NameKind.free && env.scope.kind == .function && env.kindOf x == some .cell) then NameKind.cell else k
  | [] => rfl
  | (n, k) :: r => by
    have ih := @lookup_relabel env x r
    rw [List.map_cons]
    dsimp only
    by_cases hx : (x == n) = true
    · have e : x = n := by simpa using hx
      subst e
      by_cases hc : (k == NameKind.free && env.scope.kind == .function && env.kindOf x == some .cell) = true
      · rw [if_pos hc, List.lookup_cons, List.lookup_cons, hx]
        simp only [Option.map_some]
        rw [if_pos hc]
      · rw [if_neg hc, List.lookup_cons, List.lookup_cons, hx]
        simp only [Option.map_some]
        rw [if_neg hc]
    · have hx' := Bool.eq_false_iff.mpr hx
      by_cases hc : (k == NameKind.free && env.scope.kind == .function && env.kindOf n == some .cell) = true
      · rw [if_pos hc]; simp only [List.lookup_cons, hx']; exact ih
      · rw [if_neg hc]; simp only [List.lookup_cons, hx']; exact ih
theorem lookup_mem_free {names : List (Str × NameKind)} {x : Str} (h : names.lookup x = some NameKind.free) : (x, NameKind.free) ∈ names := PySem.mem_of_lookup h

section
variable {X : Cx}
/-- the block's first state -/
theorem inv_comp {scope : Scope} {N' : List Str} {src : List (Option Nat)} {cl : List (Str × Addr)} {pins : List (Addr × Obj)} {σ : St} {H : Hp} {s s' : Shared} {h' : Heap} {tk : Nat} {fp : List Addr} {m : Str → Option Value}
    (hk : scope.kind = .function) (hcell : ∀ y ∈ scope.names, y.2 ≠ .cell) (hcap : Cap X scope src N')
    (a : ∀ x c, cl.lookup x = some c → X.env.cells.lookup x = some c) (b : ∀ x, (x, NameKind.free) ∈ scope.names → ∃ c, cl.lookup x = some c)
    (I : Inv X pins σ H s) (hf : ∀ b ∈ fp, FpOk X pins H b) (hfl : ∀ b ∈ fp, b < s.heap.objs.size) (es' : s' = { s with heap := h', toks := tk })
    (keep : ∀ b o, s.heap.get? b = some o → h'.get? b = some o) (hn : h'.Ns s.heap.objs.size m) :
    Inv (cxC X scope N' cl s.heap.objs.size s H fp (X.pn ++ pins)) [] (capSt src σ) H s' := by
  subst es'
  have kindOf : ∀ x, (compEnvC scope cl s.heap.objs.size X.env).kindOf x = (scope.names.lookup x).map fun k => if (k == NameKind.free && X.env.scope.kind == .function && X.env.kindOf x == some .cell) then NameKind.cell else k := fun x => lookup_relabel X.env x
  have freeOf : ∀ x, ((compEnvC scope cl s.heap.objs.size X.env).kindOf x = some .cell ∨ (compEnvC scope cl s.heap.objs.size X.env).kindOf x = some .free) → scope.names.lookup x = some .free := fun x h => by
    rw [kindOf] at h
    cases q : scope.names.lookup x with
    | none => rw [q] at h; simp at h
    | some k =>
      rw [q] at h
      by_cases hkf : k = NameKind.free
      · rw [hkf]
      · have hkf' : (k == NameKind.free) = false := by simpa using hkf
        simp only [Option.map_some, hkf', Bool.false_and, Bool.false_eq_true, if_false] at h
        rcases h with h | h
        · exact absurd (Option.some.inj h) (hcell _ (PySem.mem_of_lookup q))
        · exact absurd (Option.some.inj h) hkf
  refine ⟨⟨I.ok.mod, hk, I.ok.glob, I.ok.blt, Nat.le_refl _, fun x y c h1 h2 => I.ok.inj x y c (a x c h1) (a y c h2), fun x hx => b x (lookup_mem_free (freeOf x hx)), (fun x c z _ => nomatch z), I.ok.hd, I.ok.frames, .inl rfl, fun b' hb => ?_, I.bs, Nat.le_trans I.ok.bsz I.sz, fun b' o e hb => ?_, fun b' hb z => ?_, I.stack, I.stkFree⟩,
    rfl, I.bare, Un.kept keep, ⟨m, hn, fun j x v h1 h2 h3 => ?_⟩, fun x c h => ?_, I.hok.fresh (Nat.le_refl _), fun x c h => I.freeC x c (a x c h), fun p hp => ?_, I.hok.kept keep, ?_⟩
  · obtain ⟨f0, f1, f2, f3, f4, f5⟩ := hf b' hb
    exact ⟨Nat.ne_of_lt (hfl b' hb), fun x c h => f4 x c (a x c h)⟩
  · obtain ⟨f0, f1, f2, f3, f4, f5⟩ := hf b' hb
    rcases f3 with z | z
    · exact I.ok.noex b' o e z
    · exact absurd (Nat.lt_of_lt_of_le (Heap.lt_size e) (Nat.le_trans I.ok.bsz z)) (Nat.lt_irrefl _)
  · obtain ⟨f0, f1, f2, f3, f4, f5⟩ := hf b' hb
    rcases List.mem_cons.mp (I.stkSub b' z) with e | e
    · exact f1 e
    · exact f2 e
  · obtain ⟨i, e1, e2, e3, e4⟩ := hcap.get j x v h1 h2
    obtain ⟨m0, hn0, hl⟩ := I.loc
    obtain ⟨u, r, l⟩ := hl i x v e1 e2 (by rcases e4 with e4 | e4; exact .inr (.inl e4); exact .inr (.inr e4))
    refine ⟨u, r, ?_⟩
    rcases l with ⟨l, _⟩ | ⟨k, c, e, z⟩
    · have l' : X.env.scope.names.lookup x = some NameKind.local := l
      rcases e4 with e4 | e4 <;> (rw [e4] at l'; cases l')
    · refine .inr ⟨?_, ?_⟩
      · show (compEnvC scope cl s.heap.objs.size X.env).kindOf x = some .cell ∨ (compEnvC scope cl s.heap.objs.size X.env).kindOf x = some .free
        rw [kindOf, e3]
        simp only [Option.map_some]
        split
        · exact .inl rfl
        · exact .inr rfl
      · obtain ⟨c', hc'⟩ := b x (lookup_mem_free e3)
        have := a x c' hc'
        rw [e] at this
        cases this
        obtain ⟨o, ho, hd⟩ := z
        exact ⟨c, hc', o, keep _ _ ho, hd⟩
  · obtain ⟨v, o, ho, hd⟩ := I.cell x c (a x c h)
    exact ⟨v, o, keep _ _ ho, hd⟩
  · have hp' : p ∈ X.pn ++ pins := by simpa [cxC] using hp
    obtain ⟨e, n, ne, nf, d⟩ := I.pin p hp'
    refine ⟨keep _ _ e, n, Nat.ne_of_lt (Heap.lt_size e), fun z => ?_, d⟩
    rcases List.mem_cons.mp (I.stkSub p.1 z) with q | q
    · exact ne q
    · exact nf q
  · show (capSt src σ).length = N'.length
    rw [← hcap.length]
    simp [capSt]
end
end L2
namespace L2
open PySem PySem.Spec PyProof.Rows

/-! ### list comprehensions of one clause -/
section
variable {prog : Program} {w : World} {A : Around} {R : Result → Shared → Prop} {s : Shared}
/-- the loop, with what goes ahead of the store -/
theorem comp_loop {elt tg iter : Expr} {ifs : List Expr} {scope : Scope} {pos : Pos} {it acc : Value} {env : Env} (J : Nat → Shared → Prop)
    (turn : ∀ n s, J n s → wpAny (model prog w) A (pyNext it) (fun r s₁ => match r with
        | none => R (.ok .next) s₁
        | some v => wpAny (model prog w) A (letOwnedTupleGo tg it v) (fun _ z₁ => wpAny (model prog w) A (assign tg env v) (fun _ s₂ =>
            wpAny (model prog w) A (forIn ifs true fun c r => if r = true then do let ok ← isTrue c env (eval c env); pure (ForInStep.yield ok) else pure (ForInStep.yield r))
              (fun ok s₃ => if ok = true then wpAny (model prog w) A (eval elt env) (fun x s₄ => wpAny (model prog w) A (call (.builtin "list.append") [acc, x]) (fun _ s₅ => ∃ m, m < n ∧ J m s₅) (fun _ _ => False) s₄) (fun _ _ => False) s₃
                else ∃ m, m < n ∧ J m s₃) (fun _ _ => False) s₂) (fun _ _ => False) z₁) (fun _ _ => False) s₁) (fun _ _ => False) s)
    (n : Nat) (h : J n s) : codeAny (model prog w) A (.compLoop (.ListComp elt [⟨tg, iter, ifs, 0⟩] scope pos) 0 it acc env) R s := by
  refine codeAny_loop rfl J (fun n s hJ => ?_) n h
  show wpAny _ A (Sem.onRaise (compTurn (.ListComp elt [⟨tg, iter, ifs, 0⟩] scope pos) 0 it acc env) (fun x => do noteFrame x env; theTreesLotGoes x)) _ _ s
  refine wpAny_noted ?_
  rw [compTurn_list]
  have no : ∀ {E : Value → Shared → Prop}, ∀ (e : Value) (s' : Shared), False → E e s' := fun _ _ f => f.elim
  refine wpAny_bind (wpAny_standAt (wpAny_bind (wpAny_mono (turn n s hJ) (fun r s₁ h₁ => ?_) no)))
  cases r with
  | none => exact wpAny_pure h₁
  | some v =>
    refine wpAny_bind (wpAny_mono h₁ (fun _ z₁ hz => ?_) no)
    refine wpAny_bind (wpAny_mono hz (fun _ s₂ h₂ => wpAny_bind (wpAny_mono h₂ (fun ok s₃ h₃ => ?_) no)) no)
    cases ok with
    | false => exact wpAny_pure ⟨rfl, h₃⟩
    | true =>
      exact wpAny_bind (wpAny_bind (wpAny_mono h₃ (fun x s₄ h₄ => wpAny_bind (wpAny_mono h₄ (fun _ s₅ h₅ => wpAny_pure (wpAny_pure ⟨rfl, h₅⟩)) no)) no))
end

/-- the clause's tests -/
def PTs (X : Cx) (ifs : List Expr) (t : TT) : Prop :=
  ∀ (pins : List (Addr × Obj)) (s : Shared) (σ : St) (H : Hp) (Q : Bool → Hp → Prop), Inv X pins σ H s → t σ H Q →
    wpAny (model X.prog X.w) X.A (forIn ifs true fun c r => if r = true then do let ok ← isTrue c X.env (eval c X.env); pure (ForInStep.yield ok) else pure (ForInStep.yield r)) (TP X pins σ Q) X.xe s
def tYes : TT := fun _ H Q => Q true H
theorem pts_nil {X : Cx} : PTs X [] tYes := fun _ _ _ H _ I h => wpAny_tests_nil ⟨H, I, h⟩
theorem pts_one {X : Cx} {c : Expr} {t : TT} (h : PT X c t) : PTs X [c] t := fun pins s σ H Q I q => wpAny_tests_one (h pins s σ H Q I q)

/-- W: the turn, a measure, the items so far, the block's slots, the heap; N: what a turn is to reach -/
def LC (src : List (Option Nat)) (J : It) (g : TG) (tt : TT) (te : TE) (σ : St) (H1 : Hp) (Q : VK) (D : Addr) : Prop := ∃ W : Nat → Nat → List V → St → Hp → Prop, (∃ m, W 0 m [] (capSt src σ) (upd H1 D (.lst []))) ∧
  ∀ i m ys σ' H2, W i m ys σ' H2 → H2 D = some (.lst ys) ∧ ((J.stop i H2 ∧ Q (.ref D) H2) ∨ (J.go i H2 ∧ ∃ N : List V → St → Hp → Prop, (∀ ys' σ3 H3, N ys' σ3 H3 → ∃ m', m' < m ∧ W (i + 1) m' ys' σ3 H3) ∧ ∀ x H3, J.yld i H2 x H3 → g x σ' H3 fun σ2 H4 => tt σ2 H4 fun b H5 =>
    if b = true then te σ2 H5 fun y H6 => H6 D = some (.lst ys) ∧ ys.length < sizeLine ∧ N (ys ++ [y]) σ2 (upd H6 D (.lst (ys ++ [y])))
    else N ys σ2 H5))
def tLC (src : List (Option Nat)) (wi : TI) (g : TG) (tt : TT) (te : TE) : TE := fun σ H Q => wi σ H fun J H1 => ∀ D, H1 D = none → LC src J g tt te σ H1 Q D
section
variable {X : Cx}
theorem pe_lc {elt tg iter : Expr} {ifs : List Expr} {scope : Scope} {pos : Pos} {src : List (Option Nat)} {N' : List Str} {wi : TI} {g : TG} {tt : TT} {te : TE} (hcap : Cap X scope src N') (hc : X.calm = true) (hi : PI X tg iter wi)
    (hg : ∀ cl C s₀ H₀ fp pn, PG (cxC X scope N' cl C s₀ H₀ fp pn) tg g) (ht : ∀ cl C s₀ H₀ fp pn, PTs (cxC X scope N' cl C s₀ H₀ fp pn) ifs tt) (he : ∀ cl C s₀ H₀ fp pn, PE (cxC X scope N' cl C s₀ H₀ fp pn) elt te)
    (hfree : ∀ x, (x, NameKind.free) ∈ scope.names → X.env.scope.names.lookup x = some NameKind.cell ∨ X.env.scope.names.lookup x = some NameKind.free)
    (hk : scope.kind = .function := by rfl) (hcell : ∀ y ∈ scope.names, y.2 ≠ .cell := by decide) (hnames : ∀ y ∈ scope.names, y.2 = .local → scope.names.lookup y.1 = some .local := by decide +kernel)
    (hs : ∀ x, foldedSetIterable iter X.env x = pure x := by intro _; rfl) : PE X (.ListComp elt [⟨tg, iter, ifs, 0⟩] scope pos) (tLC src wi g tt te) := by
  intro pins s σ H Q I h
  have no : ∀ {E : Value → Shared → Prop}, ∀ (e : Value) (s' : Shared), False → E e s' := fun _ _ f => f.elim
  obtain ⟨cl, hcl, a, b⟩ := closure_ok X.env scope fun x hx => I.ok.has x (hfree x hx)
  rw [eval_ListComp]
  refine wpAny_comprehension_free (use := none) rfl hs hcl hk hnames (thn (hi pins s σ H _ I h) fun v s1 h1 => thn h1 fun itv s2 h2 => ?_)
  obtain ⟨it, fp, tn, J, H2, e, I2, T, st2, f2, q⟩ := h2
  subst e
  have hD : H2 s2.heap.objs.size = none := I2.hok.fresh (Nat.le_refl _)
  obtain ⟨W, ⟨m0, w0⟩, turn⟩ := q s2.heap.objs.size hD
  have I3 := I2.lnew (t' := s2.toks) (ys := []) (its := []) .nil (Nat.zero_le _)
  have fl2 : ∀ b ∈ fp, b < s2.heap.objs.size := fun b hb => by
    obtain ⟨o, e, _⟩ := T.obj _ _ st2 b hb
    exact Heap.lt_size e
  refine wpAny_newObj_type ?_
  generalize es3 : ({ s2 with heap := s2.heap.push { cls := .type "list", dict := none, data := .seq ([] : List Value).toArray } } : Shared) = s3
  have I3' : Inv X pins σ (upd H2 s2.heap.objs.size (.lst [])) s3 := es3 ▸ I3
  have keep3 : ∀ b o, s2.heap.get? b = some o → s3.heap.get? b = some o := fun b o e => by rw [← es3]; exact Heap.get?_push_of_some _ e
  have st3 : tn 0 s3.heap := T.keep _ _ _ st2 fun b _ o e => keep3 b o e
  have fl3 : ∀ b ∈ fp, b < s3.heap.objs.size := fun b hb => by
    obtain ⟨o, e, _⟩ := T.obj _ _ st3 b hb
    exact Heap.lt_size e
  have f3 : ∀ b ∈ fp, FpOk X pins (upd H2 s2.heap.objs.size (.lst [])) b := fun b hb => ⟨by rw [upd_ne (Nat.ne_of_lt (fl2 b hb))]; exact (f2 b hb).1, (f2 b hb).2⟩
  generalize eD : s2.heap.objs.size = D at *
  generalize eH3 : upd H2 D (.lst []) = H3 at *
  refine wpAny_newFunctionEnv hcell (by intro y hy; simp at hy) (fun h₁ hns₁ hsb₁ => ?_) hk
  have keep4 : ∀ b o, s3.heap.get? b = some o → h₁.get? b = some o := fun b o e => hsb₁.extBut b o (Nat.ne_of_lt (Heap.lt_size e)) (Heap.get?_push_of_some _ e)
  have I4 := inv_comp (N' := N') (src := src) (tk := s3.toks + ([] : List (Str × Value)).length) hk hcell hcap a b I3' f3 fl3 rfl keep4 hns₁
  -- the iterator's objects, through the block
  have stat : ∀ {H' : Hp}, (∀ b ∈ fp, H' b = none) → ∀ b ∈ fp, FpOk (cxC X scope N' cl s3.heap.objs.size s3 H3 fp (X.pn ++ pins)) [] H' b := fun hn b' hb => by
    obtain ⟨f0, f1, fs, fe, f4, f5⟩ := f3 b' hb
    refine ⟨hn b' hb, Nat.ne_of_lt (fl3 b' hb), fun z => ?_, .inl hb, fun x c h => f4 x c (a x c h), fun p hp => f5 p (by simpa [cxC] using hp)⟩
    rcases List.mem_cons.mp (I3'.stkSub b' z) with e | e
    · exact f1 e
    · exact fs e
  -- behind the block
  have fin : ∀ {H' : Hp} {s' : Shared} {σ' : St} {pins' : List (Addr × Obj)}, Inv (cxC X scope N' cl s3.heap.objs.size s3 H3 fp (X.pn ++ pins)) pins' σ' H' s' → ∀ h', Heap.SameBut s3.heap.objs.size s'.heap h' → Inv X pins σ H' { s' with heap := h' } := fun {H' s' σ' pins'} J' h' sb => by
    have same : ∀ b o, b ≠ s3.heap.objs.size → s'.heap.get? b = some o → h'.get? b = some o := fun b o hb e => sb.extBut b o hb e
    have u : Un (frs X.stack) fp H3 H' s3.heap s'.heap := J'.base
    refine I3'.call' (s' := { s' with heap := h' }) (ch := fp) J'.os ⟨fun b o e n hb hx => ?_, fun b o e n hb hx => ?_, u.free, fun b o e hx => ?_, u.tups, u.frzs, u.tbls⟩ (fun b o e => ?_) J'.bare fun b hb => ?_
    · exact same b o (Nat.ne_of_lt (Heap.lt_size e)) (u.keep b o e n hb hx)
    · obtain ⟨sl, z⟩ := u.slot b o e n hb hx
      exact ⟨sl, same b _ (Nat.ne_of_lt (Heap.lt_size e)) z⟩
    · obtain ⟨o', z⟩ := u.there b o e hx
      exact ⟨o', same b o' (Nat.ne_of_lt (Heap.lt_size e)) z⟩
    · have nC : ∀ c v, H' c = some v → c ≠ s3.heap.objs.size := fun c v z q => by
        have := J'.free
        rw [show (cxC X scope N' cl s3.heap.objs.size s3 H3 fp (X.pn ++ pins)).env.locals = s3.heap.objs.size from rfl, ← q, z] at this
        cases this
      refine (J'.hok b o e).stay (fun c v hc q => same c v ?_ q) (fun _ q => q) fun _ _ q => q
      rcases hc with z | z
      · rw [z]; exact nC b o e
      · exact nC c _ z
    · obtain ⟨f0, f1, fs, fe, f4, f5⟩ := f3 b hb
      exact ⟨fe, f1, f4, f5⟩
  have loop : codeAny (model X.prog X.w) X.A (.compLoop (.ListComp elt [⟨tg, iter, ifs, 0⟩] scope pos) 0 (.ref it) (.ref D) (compEnvC scope cl s3.heap.objs.size X.env))
      (compPost (model X.prog X.w) X.A X.xe none (EP X pins σ Q) (.ref D) s3.heap.objs.size) { s3 with heap := h₁, toks := s3.toks + ([] : List (Str × Value)).length } := by
    refine comp_loop (fun n s' => ∃ i ys σ' H', Inv (cxC X scope N' cl s3.heap.objs.size s3 H3 fp (X.pn ++ pins)) [] σ' H' s' ∧ tn i s'.heap ∧ (∀ b ∈ fp, H' b = none) ∧ W i n ys σ' H') ?_ m0 ⟨0, [], capSt src σ, H3, I4, T.keep _ _ _ st3 fun b _ o e => keep4 b o e, fun b hb => (f3 b hb).1, w0⟩
    rintro n s5 ⟨i, ys, σ5, H5, I5, st5, fr5, w5⟩
    obtain ⟨hDs, stop | go⟩ := turn i n ys σ5 H5 w5
    · obtain ⟨stop, qn⟩ := stop
      refine thn (T.done (cxC X scope N' cl s3.heap.objs.size s3 H3 fp (X.pn ++ pins)) rfl rfl rfl hc i [] s5 σ5 H5 _ I5 (stat fr5) st5 stop) fun r s6 ⟨hr, I6⟩ => ?_
      subst hr
      obtain ⟨m, hn, _⟩ := id I6.loc
      exact ⟨m, hn, fun h' sb => ⟨.ref D, H5, fin I6 h' sb, rfl, qn⟩⟩
    · obtain ⟨go, N, hN, step⟩ := go
      refine thn (T.item (cxC X scope N' cl s3.heap.objs.size s3 H3 fp (X.pn ++ pins)) rfl rfl rfl hc i [] s5 σ5 H5 _ I5 (stat fr5) st5 go) fun r s6 ⟨u, hr, h6⟩ => ?_
      subst hr
      refine thn h6 fun _ s7 ⟨x, H7, I7, r7, y7, st7, fr7⟩ => ?_
      have I7' := I7.pinned (stat fr7) (T.obj _ _ st7)
      have again : ∀ {s8 : Shared} {σ8 : St} {H8 : Hp} {ys' : List V}, Inv (cxC X scope N' cl s3.heap.objs.size s3 H3 fp (X.pn ++ pins)) ([] ++ pinsAt fp s7.heap) σ8 H8 s8 → (∃ m', m' < n ∧ W (i + 1) m' ys' σ8 H8) →
          ∃ m, m < n ∧ ∃ i ys σ' H', Inv (cxC X scope N' cl s3.heap.objs.size s3 H3 fp (X.pn ++ pins)) [] σ' H' s8 ∧ tn i s8.heap ∧ (∀ b ∈ fp, H' b = none) ∧ W i m ys σ' H' := fun {s8 σ8 H8 ys'} I8 ⟨m', hm, w8⟩ => by
        refine ⟨m', hm, i + 1, ys', σ8, H8, I8.unpinned, T.keep _ _ _ st7 fun b hb o e => (I8.pin (b, o) (List.mem_append_right _ (List.mem_append_right _ (mem_pinsAt hb e)))).1, fun b hb => ?_, w8⟩
        obtain ⟨o, e, d⟩ := T.obj _ _ st7 b hb
        exact (I8.pin (b, o) (List.mem_append_right _ (List.mem_append_right _ (mem_pinsAt hb e)))).2.1
      refine thn (hg cl _ s3 H3 fp _ _ s7 σ5 H7 x u _ I7' r7 (step x H7 y7)) fun _ s8 ⟨σ8, H8, I8, q8⟩ => ?_
      refine thn (ht cl _ s3 H3 fp _ _ s8 σ8 H8 _ I8 q8) fun ok s9 ⟨H9, I9, q9⟩ => ?_
      cases ok with
      | false => exact again I9 (hN _ _ _ q9)
      | true =>
        rw [if_pos rfl]
        refine thn (he cl _ s3 H3 fp _ _ s9 σ8 H9 _ I9 q9) fun y s10 ⟨yv, H10, I10, r10, q10⟩ => ?_
        obtain ⟨hDy, hlen, w10⟩ := q10
        refine thn (mt_append (X := cxC X scope N' cl s3.heap.objs.size s3 H3 fp (X.pn ++ pins)) _ s10 σ8 H10 (.ref D) [yv] (.ref D) [y] (fun _ H' => H' = upd H10 D (.lst (ys ++ [yv]))) I10 rfl (.cons r10 .nil) ⟨D, ys, yv, rfl, rfl, hDy, hlen, rfl⟩) fun _ s11 ⟨_, H11, I11, _, e11⟩ => ?_
        subst e11
        exact again I11 (hN _ _ _ w10)
  exact codeAny_compStart_list loop (T.self _ 0 _ _ _ (T.keep _ _ _ st3 fun b _ o e => keep4 b o e) loop)
end
end L2
namespace L2
open PySem PySem.Spec PyProof.Rows

/-! ### texts: slices -/
def cutS (x : Str) (lo hi : Option Int) : Str := ⟨((x.cps.toList.drop (HT.sIx x.length 0 lo)).take (HT.sIx x.length x.length hi - HT.sIx x.length 0 lo)).toArray⟩
def rSlS : V → Option Int → Option Int → Hp → VK → Prop := fun x lo hi H Q => ∃ z, x = .str z ∧ z.length ≤ sizeLine ∧ Q (.str (cutS z lo hi)) H
section
variable {X : Cx}
/-! ### texts: their signs, one after another -/
def Its (x : Str) : It := ⟨fun i _ => i < x.length, fun i H v H' => H' = H ∧ ∃ c, x.cps.toList[i]? = some c ∧ v = .str ⟨#[c]⟩, fun i _ => x.length ≤ i⟩
end
end L2
namespace L2
open PySem PySem.Spec PyProof.Rows
section
variable {X : Cx} {tg : Expr}
def iStr (tl : TE) : TI := fun σ H R => tl σ H fun x H1 => ∃ z, x = .str z ∧ R (Its z) H1
/-- over a sequence that yields the items of xs, whatever the turns do -/
def ItSeq (J : It) (P : Hp → Prop) (xs : List V) : Prop := ∀ H, P H → ∀ i, (∀ x, xs[i]? = some x → J.go i H ∧ ∀ y H', J.yld i H y H' → H' = H ∧ y = x) ∧ (xs.length ≤ i → J.stop i H)
theorem itseq_list {K : PySem.W.Frag} {a : Addr} {xs : List V} : ItSeq (Itl K a) (fun H => SqL K H a xs) xs := fun H hq i => by
  refine ⟨fun x hx => ⟨⟨xs, x, hq, hx⟩, fun y H' ⟨e1, e2⟩ => ⟨e1, ?_⟩⟩, fun hi => ⟨xs, hq, hi⟩⟩
  have := e2 xs hq
  rw [hx] at this
  exact (Option.some.inj this).symm
theorem itseq_range {lo : Int} {n : Nat} {P : Hp → Prop} : ItSeq (Itr lo n) P ((List.range n).map fun (i : Nat) => V.int (lo + i)) := fun H hq i => by
  refine ⟨fun x hx => ?_, fun hi => by show n ≤ i; simpa using hi⟩
  have hi : i < n := by
    have := (List.getElem?_eq_some_iff.mp hx).1
    simpa using this
  refine ⟨hi, fun y H' ⟨e1, e2⟩ => ⟨e1, ?_⟩⟩
  rw [List.getElem?_map, List.getElem?_range hi] at hx
  rw [e2]
  simpa using hx
theorem ItSeq.imp {J : It} {P P' : Hp → Prop} {xs : List V} (h : ItSeq J P xs) (hp : ∀ H, P' H → P H) : ItSeq J P' xs := fun H q => h H (hp H q)
/-- a comprehension over such a sequence, by what holds between two turns -/
theorem lc_by {J : It} {P : Hp → Prop} {xs : List V} (hJ : ItSeq J P xs) {src : List (Option Nat)} {g : TG} {tt : TT} {te : TE} {σ : St} {H1 : Hp} {Q : VK} {D : Addr} (Pv : Nat → List V → St → Hp → Prop)
    (h0 : Pv 0 [] (capSt src σ) (upd H1 D (.lst []))) (hP : ∀ i ys σ' H', Pv i ys σ' H' → P H' ∧ H' D = some (.lst ys))
    (step : ∀ i ys σ' H' x, xs[i]? = some x → Pv i ys σ' H' → g x σ' H' fun σ2 H4 => tt σ2 H4 fun b H5 => if b = true then te σ2 H5 fun y H6 => H6 D = some (.lst ys) ∧ ys.length < sizeLine ∧ Pv (i + 1) (ys ++ [y]) σ2 (upd H6 D (.lst (ys ++ [y]))) else Pv (i + 1) ys σ2 H5)
    (fin : ∀ ys σ' H', Pv xs.length ys σ' H' → Q (.ref D) H') :
    LC src J g tt te σ H1 Q D := by
  refine ⟨fun i m ys σ' H' => m = xs.length - i ∧ i ≤ xs.length ∧ Pv i ys σ' H', ⟨xs.length, by simp, Nat.zero_le _, h0⟩, ?_⟩
  rintro i m ys σ' H2 ⟨rfl, hi, p⟩
  obtain ⟨hp, hD⟩ := hP i ys σ' H2 p
  refine ⟨hD, ?_⟩
  by_cases hlt : i < xs.length
  · obtain ⟨go, yl⟩ := (hJ H2 hp i).1 xs[i] (by simp [hlt])
    refine .inr ⟨go, fun ys' σ3 H3 => Pv (i + 1) ys' σ3 H3, fun ys' σ3 H3 p' => ⟨xs.length - (i + 1), by omega, rfl, hlt, p'⟩, fun x H3 y => ?_⟩
    obtain ⟨e1, e2⟩ := yl x H3 y
    subst e1 e2
    exact step i ys σ' _ _ (by simp [hlt]) p
  · have e : i = xs.length := by omega
    subst e
    exact .inl ⟨(hJ H2 hp _).2 (Nat.le_refl _), fin ys σ' H2 p⟩
theorem Same.upd_new {H : Hp} {p : Addr} (h : H p = none) (o : HO) : Same H (upd H p o) := fun b u q => by rw [upd_ne (ne_of_none q h)]; exact q
theorem Same.upd_over {H H' : Hp} {p : Addr} (h : H p = none) (e : Same H H') (o : HO) : Same H (upd H' p o) := fun b u q => by rw [upd_ne (ne_of_none q h)]; exact e b u q
end

/-! ### all, any, join -/
section
variable {X : Cx}
theorem strs_of : ∀ {ys : List Str} {us : List Value}, Vals (ys.map V.str) us → StrsAre us ys
  | [], _, h => by rw [Vals.zero h]; exact .nil
  | y :: ys, us, h => by
    have h' : Vals (V.str y :: ys.map V.str) us := h
    cases h' with
    | cons r t => obtain ⟨t', rfl⟩ := r; exact .cons y t' (strs_of t)
/-- sep.join(a list of texts) -/
def rJoin (K : PySem.W.Frag) : V → List V → Hp → VK → Prop := fun x vs H Q => ∃ (z : Str) (p : Addr) (ys : List Str), x = .str z ∧ vs = [.ref p] ∧ SqL K H p (ys.map V.str) ∧ (ys.map (·.length)).sum + ys.length * z.length ≤ 16777216 ∧ Q (.str (Txt.join z ys)) H
theorem mt_join : MtR X "str.join" (rJoin X.K) := by
  intro pins s σ H x vs v us Q I rx rv h
  obtain ⟨z, p, ys, rfl, rfl, hq, hl, q⟩ := h
  obtain ⟨t, rfl⟩ := rx
  obtain ⟨u, rfl, ru⟩ := rv.one
  cases ru
  obtain ⟨its, r, pl, hz⟩ := I.list hq
  exact join_list pl.isList (by simpa using strs_of r) hl fun t' k => ⟨.str _, H, I.tok k, ⟨t', rfl⟩, q⟩

/-! ### isinstance(e, a built-in type), isinstance(e, an own class) -/
def clsV : V → Option Value
  | .ty n => some (.type n)
  | .ref a => some (.ref a)
  | _ => none
theorem call_isinst : CallR X (.builtin "isinstance") (fun xs H Q => ∃ x c cv t b, xs = [x, c] ∧ clsV c = some cv ∧ TyOf X.K H x t ∧ PySem.W.kitOne X.K t cv = some b ∧ Q (.bl b) H) := by
  intro pins s σ H xs us Q I r h
  obtain ⟨x, c, cv, t, b, rfl, ec, ty, e, q⟩ := h
  obtain ⟨u, w', rfl, ru, rw'⟩ := vals2 r
  have ew : w' = cv := by
    cases c with
    | ty n => cases (show w' = Value.type n from rw'); simpa [clsV] using ec
    | ref a => cases (show w' = Value.ref a from rw'); simpa [clsV] using ec
    | _ => simp [clsV] at ec
  subst ew
  exact isinst_ok I ru ty e fun tk => ⟨.bl b, H, I.tok tk, rfl, q⟩

/-! ### == of two lists, != of two lists: flat items -/
def eqVs (xs ys : List V) : Bool := xs.length == ys.length && (List.range xs.length).all fun j => match xs[j]?, ys[j]? with | some x, some y => eqV x y | _, _ => false
end
end L2
namespace L2
open PySem PySem.Spec PyProof.Rows
/-! ### zip of two sequences -/
/-- an iterator within a zip: at k, in the heap h, the next is what get tells -/
structure Sub (P : Program) (w : World) (i : Addr) (St : Nat → Heap → Prop) (Ready : Heap → (Nat → Option Value) → Prop) : Prop where
  obj : ∀ k h, St k h → ∃ o, h.get? i = some o ∧ ∀ v, o.data ≠ .cell v
  keep : ∀ k h h', St k h → (∀ o, h.get? i = some o → h'.get? i = some o) → St k h'
  item : ∀ (A : Around) (k : Nat) (s : Shared) (get : Nat → Option Value) (x : Value) (Q : Value → Shared → Prop) (E : Value → Shared → Prop), St k s.heap → Ready s.heap get → get k = some x →
    (∀ h' tk, St (k + 1) h' → Heap.SameBut i s.heap h' → Q x { s with heap := h', toks := tk }) → wpAny (model P w) A (Builtin.SmallTypes.nextOf (.ref i)) Q E s
  fin : ∀ (A : Around) (k : Nat) (s : Shared) (get : Nat → Option Value) (Q : Value → Shared → Prop) (E : Value → Shared → Prop), A.handled = none → St k s.heap → Ready s.heap get → get k = none →
    (∀ h' e, Heap.ExtBut i s.heap h' → (∃ o, h'.get? e = some o ∧ o.cls = .type "StopIteration") → E (.ref e) { s with heap := h' }) → wpAny (model P w) A (Builtin.SmallTypes.nextOf (.ref i)) Q E s
section
variable {prog : Program} {w : World} {A : Around} {E : Value → Shared → Prop} {s : Shared}
end
theorem sub_list {P : Program} {w : World} (i t : Addr) : Sub P w i (fun k h => h.IsListIter i t k) (fun h get => ∃ items : Array Value, h.IsList t items ∧ ∀ k, get k = items[k]?) where
  obj := fun k h ⟨o, e, c, d⟩ => ⟨o, e, fun v z => by rw [d] at z; cases z⟩
  keep := fun k h h' st q => st.at q
  item := fun A k s get x Q E st ⟨items, ht, hg⟩ hx hQ => wpAny_nextOf_list_item st ht ((hg k).symm.trans hx) fun h' st' sb => hQ h' s.toks st' sb
  fin := fun A k s get Q E hh st ⟨items, ht, hg⟩ hx hE => wpAny_nextOf_list_end hh st ht ((hg k).symm.trans hx) hE

structure ZApart (z TI TO i1 i2 : Addr) : Prop where
  a : TI ≠ z
  b : TO ≠ z
  c : i1 ≠ z
  d : i2 ≠ z
  e : TI ≠ TO
  f : TI ≠ i1
  g : TI ≠ i2
  h : TO ≠ i1
  i : TO ≠ i2
  j : i1 ≠ i2
section
variable {prog : Program} {w : World} {A : Around} {E : Value → Shared → Prop} {s : Shared} {z TI TO i1 i2 : Addr} {S1 S2 : Nat → Heap → Prop} {R1 R2 : Heap → (Nat → Option Value) → Prop} {g1 g2 : Nat → Option Value} {k : Nat} {a b : Value}
theorem zip_item {x y : Value} {Q : Option Value → Shared → Prop} (D : ZApart z TI TO i1 i2) (U1 : Sub prog w i1 S1 R1) (U2 : Sub prog w i2 S2 R2)
    (k1 : ∀ h h' g, R1 h g → (∀ c o, c ≠ z → c ≠ TO → c ≠ i1 → c ≠ i2 → h.get? c = some o → h'.get? c = some o) → R1 h' g) (k2 : ∀ h h' g, R2 h g → (∀ c o, c ≠ z → c ≠ TO → c ≠ i1 → c ≠ i2 → h.get? c = some o → h'.get? c = some o) → R2 h' g)
    (hz : IsZip s.heap z TI TO .none) (hTI : IsPair s.heap TI (.ref i1) (.ref i2)) (hTO : IsPair s.heap TO a b) (h1 : S1 k s.heap) (h2 : S2 k s.heap) (r1 : R1 s.heap g1) (r2 : R2 s.heap g2) (hx : g1 k = some x) (hy : g2 k = some y)
    (hQ : ∀ h' tk, IsZip h' z TI TO (rawInt s.heap.objs.size) → IsPair h' TO x y → S1 (k + 1) h' → S2 (k + 1) h' → IsPair h' s.heap.objs.size x y → h'.objs.size = s.heap.objs.size + 1 →
      (∀ c o, c ≠ z → c ≠ TO → c ≠ i1 → c ≠ i2 → s.heap.get? c = some o → h'.get? c = some o) → Q (some (.ref s.heap.objs.size)) { s with heap := h', toks := tk }) :
    wpAny (model prog w) A (pyNext (.ref z)) Q E s := by
  have hT : s.TypeIs (.ref z) "zip" := ⟨_, hz, rfl⟩
  unfold pyNext
  refine wpAny_bind (wpAny_attempt (wpAny_callSpecial?_slot (name := Str.ofString "__next__") hT F.slot_zip_next (wpAny_call_entry F.slot_zip_next hT F.entry_zip_next ?_ (F.args_zip_next_1 _))))
  show wpAny _ _ (field (.ref z) 2 >>= _) _ _ _
  refine wpAny_bind (wpAny_field hz rfl (x := .bool false) rfl ?_)
  show wpAny _ _ (field (.ref z) 3 >>= _) _ _ _
  refine wpAny_bind (wpAny_field hz rfl (x := .ref TI) rfl ?_)
  refine wpAny_bind (wpAny_seqItems hTI rfl ?_)
  show wpAny _ _ (Builtin.SmallTypes.ownedTupleIsFree (.ref z) >>= _) _ _ _
  refine wpAny_bind ?_
  unfold Builtin.SmallTypes.ownedTupleIsFree
  refine wpAny_bind (wpAny_field hz rfl (x := .none) rfl (wpAny_pure ?_))
  simp only [if_true]
  refine wpAny_bind (wpAny_rule ?_)
  refine wpAny_bind (wpAny_field hz rfl (x := .ref TO) rfl ?_)
  refine wpAny_bind (wpAny_setField_rec hz (by simp) fun h₁ hz₁ hs₁ => ?_)
  replace hz₁ : IsZip h₁ z TI TO .ellipsis := hz₁
  refine wpAny_bind ?_
  simp only [List.zipIdx_cons, List.zipIdx_nil, List.forIn_cons, List.forIn_nil]
  refine wpAny_bind (wpAny_bind (wpAny_onRaise ?_))
  show wpAny _ _ (Builtin.SmallTypes.nextOf (.ref i1) >>= _) _ _ _
  have S1₁ : S1 k h₁ := U1.keep _ _ _ h1 fun o e => hs₁.extBut _ _ D.c e
  have R1₁ : R1 h₁ g1 := k1 _ _ _ r1 fun c o c1 _ _ _ e => hs₁.extBut _ _ c1 e
  refine wpAny_bind (U1.item _ k { s with heap := h₁ } g1 x _ _ S1₁ R1₁ hx fun h₂ tk₂ S1₂ hs₂ => wpAny_pure ?_)
  have hTO₂ : IsPair h₂ TO a b := hs₂.extBut _ _ D.h (hs₁.extBut _ _ D.b hTO)
  refine wpAny_bind (wpAny_seqItems hTO₂ rfl ?_)
  refine wpAny_bind (wpAny_updateSeq_pair hTO₂ fun h₃ hTO₃ hs₃ => ?_)
  replace hTO₃ : IsPair h₃ TO x b := hTO₃
  refine wpAny_bind (wpAny_letGo (wpAny_pure ?_))
  refine wpAny_bind (wpAny_bind (wpAny_onRaise ?_))
  show wpAny _ _ (Builtin.SmallTypes.nextOf (.ref i2) >>= _) _ _ _
  have kk₃ : ∀ c o, c ≠ z → c ≠ TO → c ≠ i1 → c ≠ i2 → s.heap.get? c = some o → h₃.get? c = some o := fun c o c1 c2 c3 c4 e => hs₃.extBut _ _ c2 (hs₂.extBut _ _ c3 (hs₁.extBut _ _ c1 e))
  have S2₃ : S2 k h₃ := U2.keep _ _ _ h2 fun o e => hs₃.extBut _ _ D.i.symm (hs₂.extBut _ _ D.j.symm (hs₁.extBut _ _ D.d e))
  refine wpAny_bind (U2.item _ k { s with heap := h₃, toks := tk₂ } g2 y _ _ S2₃ (k2 _ _ _ r2 kk₃) hy fun h₄ tk₄ S2₄ hs₄ => wpAny_pure ?_)
  have hTO₄ : IsPair h₄ TO x b := hs₄.extBut _ _ D.i hTO₃
  refine wpAny_bind (wpAny_seqItems hTO₄ rfl ?_)
  refine wpAny_bind (wpAny_updateSeq_pair hTO₄ fun h₅ hTO₅ hs₅ => ?_)
  replace hTO₅ : IsPair h₅ TO x y := hTO₅
  refine wpAny_bind (wpAny_letGo (wpAny_pure (wpAny_pure ?_)))
  refine wpAny_bind (wpAny_seqItems hTO₅ rfl ?_)
  refine wpAny_bind (wpAny_newTuple ?_)
  have hsz : h₅.objs.size = s.heap.objs.size := by rw [hs₅.1, hs₄.1, hs₃.1, hs₂.1, hs₁.1]
  have hz₅ : IsZip h₅ z TI TO .ellipsis := hs₅.extBut _ _ D.b.symm (hs₄.extBut _ _ D.d.symm (hs₃.extBut _ _ D.b.symm (hs₂.extBut _ _ D.c.symm hz₁)))
  have hk₅ : ∀ c o, c ≠ z → c ≠ TO → c ≠ i1 → c ≠ i2 → s.heap.get? c = some o → h₅.get? c = some o := fun c o c1 c2 c3 c4 e => hs₅.extBut _ _ c2 (hs₄.extBut _ _ c4 (kk₃ c o c1 c2 c3 c4 e))
  have S1₅ : S1 (k + 1) h₅ := U1.keep _ _ _ S1₂ fun o e => hs₅.extBut _ _ D.h.symm (hs₄.extBut _ _ D.j (hs₃.extBut _ _ D.h.symm e))
  have S2₅ : S2 (k + 1) h₅ := U2.keep _ _ _ S2₄ fun o e => hs₅.extBut _ _ D.i.symm e
  have hzlt : z < h₅.objs.size := Heap.lt_size hz₅
  show wpAny _ _ (Builtin.SmallTypes.ownedTupleHandOut (.ref z) (.ref h₅.objs.size) >>= _) _ _ _
  refine wpAny_bind ?_
  unfold Builtin.SmallTypes.ownedTupleHandOut
  have hz₆ : IsZip (h₅.push { cls := .type "tuple", data := .seq #[x, y] }) z TI TO .ellipsis := Heap.get?_push_of_some _ hz₅
  refine wpAny_bind (wpAny_setField_rec hz₆ (by simp) fun h₇ hz₇ hs₇ => ?_)
  replace hz₇ : IsZip h₇ z TI TO (rawInt h₅.objs.size) := hz₇
  refine wpAny_setField_rec hz₇ (by simp) fun h₈ hz₈ hs₈ => ?_
  replace hz₈ : IsZip h₈ z TI TO (rawInt h₅.objs.size) := hz₈
  have up : ∀ c o, c ≠ z → h₅.get? c = some o → h₈.get? c = some o := fun c o c1 e => hs₈.extBut _ _ c1 (hs₇.extBut _ _ c1 (Heap.get?_push_of_some _ e))
  have hT₈ : IsPair h₈ h₅.objs.size x y := hs₈.extBut _ _ (Nat.ne_of_gt hzlt) (hs₇.extBut _ _ (Nat.ne_of_gt hzlt) (Heap.get?_push_size _ rfl))
  have hz8 : h₈.objs.size = h₅.objs.size + 1 := by rw [hs₈.1, hs₇.1, Heap.size_push]
  rw [hsz] at hz₈ hT₈ hz8
  refine wpAny_pure ⟨_, rfl, wpAny_pure ?_⟩
  show Q (some (.ref h₅.objs.size)) _
  rw [hsz]
  exact hQ h₈ tk₄ hz₈ (up _ _ D.b hTO₅) (U1.keep _ _ _ S1₅ fun o e => up _ o D.c e) (U2.keep _ _ _ S2₅ fun o e => up _ o D.d e) hT₈ hz8 fun c o c1 c2 c3 c4 e => up c o c1 (hk₅ c o c1 c2 c3 c4 e)
theorem zip_end {Q : Option Value → Shared → Prop} (hh : A.handled = none) (D : ZApart z TI TO i1 i2) (U1 : Sub prog w i1 S1 R1) (U2 : Sub prog w i2 S2 R2)
    (k1 : ∀ h h' g, R1 h g → (∀ c o, c ≠ z → c ≠ TO → c ≠ i1 → c ≠ i2 → h.get? c = some o → h'.get? c = some o) → R1 h' g) (k2 : ∀ h h' g, R2 h g → (∀ c o, c ≠ z → c ≠ TO → c ≠ i1 → c ≠ i2 → h.get? c = some o → h'.get? c = some o) → R2 h' g)
    (hz : IsZip s.heap z TI TO .none) (hTI : IsPair s.heap TI (.ref i1) (.ref i2)) (hTO : IsPair s.heap TO a b) (h1 : S1 k s.heap) (h2 : S2 k s.heap) (r1 : R1 s.heap g1) (r2 : R2 s.heap g2) (hend : g1 k = none ∨ g2 k = none)
    (hQ : ∀ h' tk, (∀ c o, c ≠ z → c ≠ TO → c ≠ i1 → c ≠ i2 → s.heap.get? c = some o → h'.get? c = some o) → Q none { s with heap := h', toks := tk }) : wpAny (model prog w) A (pyNext (.ref z)) Q E s := by
  have hT : s.TypeIs (.ref z) "zip" := ⟨_, hz, rfl⟩
  unfold pyNext
  refine wpAny_bind (wpAny_attempt (wpAny_callSpecial?_slot (name := Str.ofString "__next__") hT F.slot_zip_next (wpAny_call_entry F.slot_zip_next hT F.entry_zip_next ?_ (F.args_zip_next_1 _))))
  show wpAny _ _ (field (.ref z) 2 >>= _) _ _ _
  refine wpAny_bind (wpAny_field hz rfl (x := .bool false) rfl ?_)
  show wpAny _ _ (field (.ref z) 3 >>= _) _ _ _
  refine wpAny_bind (wpAny_field hz rfl (x := .ref TI) rfl ?_)
  refine wpAny_bind (wpAny_seqItems hTI rfl ?_)
  show wpAny _ _ (Builtin.SmallTypes.ownedTupleIsFree (.ref z) >>= _) _ _ _
  refine wpAny_bind ?_
  unfold Builtin.SmallTypes.ownedTupleIsFree
  refine wpAny_bind (wpAny_field hz rfl (x := .none) rfl (wpAny_pure ?_))
  simp only [if_true]
  refine wpAny_bind (wpAny_rule ?_)
  refine wpAny_bind (wpAny_field hz rfl (x := .ref TO) rfl ?_)
  refine wpAny_bind (wpAny_setField_rec hz (by simp) fun h₁ hz₁ hs₁ => ?_)
  replace hz₁ : IsZip h₁ z TI TO .ellipsis := hz₁
  refine wpAny_bind ?_
  simp only [List.zipIdx_cons, List.zipIdx_nil, List.forIn_cons, List.forIn_nil]
  refine wpAny_bind (wpAny_bind (wpAny_onRaise ?_))
  show wpAny _ _ (Builtin.SmallTypes.nextOf (.ref i1) >>= _) _ _ _
  have S1₁ : S1 k h₁ := U1.keep _ _ _ h1 fun o e => hs₁.extBut _ _ D.c e
  have R1₁ : R1 h₁ g1 := k1 _ _ _ r1 fun c o c1 _ _ _ e => hs₁.extBut _ _ c1 e
  cases hx : g1 k with
  | none =>
    refine wpAny_bind (U1.fin _ k { s with heap := h₁ } g1 _ _ hh S1₁ R1₁ hx fun h₂ e hs₂ he => ?_)
    obtain ⟨oe, hoe, hce⟩ := he
    have hz₂ : IsZip h₂ z TI TO .ellipsis := hs₂ _ _ D.c.symm hz₁
    have hez : e ≠ z := fun x => by subst x; rw [hz₂] at hoe; cases hoe; simp at hce
    refine wpAny_setField_rec hz₂ (by simp) fun h₃ _ hs₃ => ?_
    refine wpAny_bind (wpAny_isInstance (T := "StopIteration") (b := true) ⟨oe, hs₃.extBut _ _ hez hoe, hce⟩ isSubtype_stop ?_)
    exact wpAny_pure (hQ h₃ s.toks fun c o c1 _ c3 _ x => hs₃.extBut _ _ c1 (hs₂ _ _ c3 (hs₁.extBut _ _ c1 x)))
  | some x =>
    have hy : g2 k = none := by rcases hend with h | h; rw [hx] at h; cases h; exact h
    refine wpAny_bind (U1.item _ k { s with heap := h₁ } g1 x _ _ S1₁ R1₁ hx fun h₂ tk₂ S1₂ hs₂ => wpAny_pure ?_)
    have hTO₂ : IsPair h₂ TO a b := hs₂.extBut _ _ D.h (hs₁.extBut _ _ D.b hTO)
    refine wpAny_bind (wpAny_seqItems hTO₂ rfl ?_)
    refine wpAny_bind (wpAny_updateSeq_pair hTO₂ fun h₃ hTO₃ hs₃ => ?_)
    refine wpAny_bind (wpAny_letGo (wpAny_pure ?_))
    refine wpAny_bind (wpAny_bind (wpAny_onRaise ?_))
    show wpAny _ _ (Builtin.SmallTypes.nextOf (.ref i2) >>= _) _ _ _
    have kk₃ : ∀ c o, c ≠ z → c ≠ TO → c ≠ i1 → c ≠ i2 → s.heap.get? c = some o → h₃.get? c = some o := fun c o c1 c2 c3 c4 e => hs₃.extBut _ _ c2 (hs₂.extBut _ _ c3 (hs₁.extBut _ _ c1 e))
    have S2₃ : S2 k h₃ := U2.keep _ _ _ h2 fun o e => hs₃.extBut _ _ D.i.symm (hs₂.extBut _ _ D.j.symm (hs₁.extBut _ _ D.d e))
    refine wpAny_bind (U2.fin _ k { s with heap := h₃, toks := tk₂ } g2 _ _ hh S2₃ (k2 _ _ _ r2 kk₃) hy fun h₄ e hs₄ he => ?_)
    obtain ⟨oe, hoe, hce⟩ := he
    have hz₄ : IsZip h₄ z TI TO .ellipsis := hs₄ _ _ D.d.symm (hs₃.extBut _ _ D.b.symm (hs₂.extBut _ _ D.c.symm hz₁))
    have hez : e ≠ z := fun x => by subst x; rw [hz₄] at hoe; cases hoe; simp at hce
    refine wpAny_setField_rec hz₄ (by simp) fun h₅ _ hs₅ => ?_
    refine wpAny_bind (wpAny_isInstance (T := "StopIteration") (b := true) ⟨oe, hs₅.extBut _ _ hez hoe, hce⟩ isSubtype_stop ?_)
    exact wpAny_pure (hQ h₅ tk₂ fun c o c1 c2 c3 c4 x => hs₅.extBut _ _ c1 (hs₄ _ _ c4 (kk₃ c o c1 c2 c3 c4 x)))
end
end L2
namespace L2
open PySem PySem.Spec PyProof.Rows
/-! ### zip(a, b): the object -/
abbrev zpH (h : Heap) (o1 o2 : Obj) : Heap := ((h.push o1).push o2)
abbrev zpT (h : Heap) (o1 o2 : Obj) : Heap := (zpH h o1 o2).push { cls := .type "tuple", data := .seq #[.ref h.objs.size, .ref (h.push o1).objs.size] }
abbrev zpO (h : Heap) (o1 o2 : Obj) : Heap := (zpT h o1 o2).push { cls := .type "tuple", data := .seq #[.none, .none] }
abbrev zpZ (h : Heap) (o1 o2 : Obj) : Heap := (zpO h o1 o2).push { cls := .type "zip", data := .fields #[.none, .bool false, .bool false, .ref (zpH h o1 o2).objs.size, .ref (zpT h o1 o2).objs.size] }
/-- iter(v) is a new object o, whatever stands beside -/
def ItersTo (h : Heap) (v : Value) (o : Obj) : Prop := ∀ (prog : Program) (w : World) (A : Around) (E : Value → Shared → Prop) (s : Shared) (Q : Value → Shared → Prop), (∀ b ob, h.get? b = some ob → s.heap.get? b = some ob) →
  Q (.ref s.heap.objs.size) { s with heap := s.heap.push o } → wpAny (model prog w) A (pyIter v) Q E s
theorem itersTo_list {h : Heap} {t : Addr} {items : Array Value} (ht : h.IsList t items) : ItersTo h (.ref t) { cls := .type "list_iterator", data := .fields #[.ref t, .int 0 0] } := fun prog w A E s Q k q => by
  obtain ⟨o, e, r⟩ := ht
  exact wpAny_pyIter_list (items := items) ⟨o, k _ _ e, r⟩ q
theorem meets_zip2 (v1 v2 : Value) (o1 o2 : Obj) :
    Meets (Builtin.«zip.__new__» ⟨[.type "zip", v1, v2], []⟩) (fun _ R s => ItersTo s.heap v1 o1 ∧ ItersTo s.heap v2 o2 ∧ R (.ok (.ret (.ref (zpO s.heap o1 o2).objs.size))) { s with heap := zpZ s.heap o1 o2 }) :=
  .of_wp fun prog w A R s h => by
    obtain ⟨hp, g, d, tk, os⟩ := s
    obtain ⟨h1, h2, h⟩ := h
    have hsub := sub_zip
    have p1 : ∀ {A' : Around} {E : Value → Shared → Prop} {Q : Value → Shared → Prop}, Q (.ref hp.objs.size) ⟨hp.push o1, g, d, tk, os⟩ → wpAny (model prog w) A' (pyIter v1) Q E ⟨hp, g, d, tk, os⟩ := fun q => h1 prog w _ _ ⟨hp, g, d, tk, os⟩ _ (fun _ _ e => e) q
    have p2 : ∀ {A' : Around} {E : Value → Shared → Prop} {Q : Value → Shared → Prop}, Q (.ref (hp.push o1).objs.size) ⟨(hp.push o1).push o2, g, d, tk, os⟩ → wpAny (model prog w) A' (pyIter v2) Q E ⟨hp.push o1, g, d, tk, os⟩ := fun q => h2 prog w _ _ ⟨hp.push o1, g, d, tk, os⟩ _ (fun _ _ e => Heap.get?_push_of_some _ e) q
    wp_walk using p1, p2
    exact ⟨_, rfl, h⟩
section
variable {prog : Program} {w : World} {A : Around} {E : Value → Shared → Prop} {s : Shared}
theorem call_zip2 {v1 v2 : Value} {o1 o2 : Obj} {Q : Value → Shared → Prop} (p1 : ItersTo s.heap v1 o1) (p2 : ItersTo s.heap v2 o2) (f1 : o1.isFreed = false) (f2 : o2.isFreed = false)
    (h : ∀ h', IsZip h' (s.heap.objs.size + 4) (s.heap.objs.size + 2) (s.heap.objs.size + 3) .none → IsPair h' (s.heap.objs.size + 2) (.ref s.heap.objs.size) (.ref (s.heap.objs.size + 1)) → IsPair h' (s.heap.objs.size + 3) .none .none →
      h'.get? s.heap.objs.size = some o1 → h'.get? (s.heap.objs.size + 1) = some o2 → h'.objs.size = s.heap.objs.size + 5 → (∀ c o, s.heap.get? c = some o → h'.get? c = some o) → Q (.ref (s.heap.objs.size + 4)) { s with heap := h' }) :
    wpAny (model prog w) A (call (.type "zip") [v1, v2]) Q E s := by
  refine callType_new F.called_zip (by decide) (F.typeCall_zip_2 _ _) (F.newCall_zip_2 _ _) (fun obj => F.args_object_init_3 obj _ _) F.entry_zip_new (meets_zip2 v1 v2 o1 o2) ⟨p1, p2, ?_⟩
  have z1 : (s.heap.push o1).objs.size = s.heap.objs.size + 1 := Heap.size_push ..
  have z2 : (zpH s.heap o1 o2).objs.size = s.heap.objs.size + 2 := by rw [Heap.size_push, z1]
  have z3 : (zpT s.heap o1 o2).objs.size = s.heap.objs.size + 3 := by rw [Heap.size_push, z2]
  have z4 : (zpO s.heap o1 o2).objs.size = s.heap.objs.size + 4 := by rw [Heap.size_push, z3]
  have z5 : (zpZ s.heap o1 o2).objs.size = s.heap.objs.size + 5 := by rw [Heap.size_push, z4]
  have g5 : (zpZ s.heap o1 o2).get? (zpO s.heap o1 o2).objs.size = some _ := Heap.get?_push_size _ rfl
  have g4 : (zpZ s.heap o1 o2).get? (zpT s.heap o1 o2).objs.size = some _ := Heap.get?_push_of_some _ (Heap.get?_push_size _ rfl)
  have g3 : (zpZ s.heap o1 o2).get? (zpH s.heap o1 o2).objs.size = some _ := Heap.get?_push_of_some _ (Heap.get?_push_of_some _ (Heap.get?_push_size _ rfl))
  have g2 : (zpZ s.heap o1 o2).get? (s.heap.push o1).objs.size = some o2 := Heap.get?_push_of_some _ (Heap.get?_push_of_some _ (Heap.get?_push_of_some _ (Heap.get?_push_size _ f2)))
  have g1 : (zpZ s.heap o1 o2).get? s.heap.objs.size = some o1 := Heap.get?_push_of_some _ (Heap.get?_push_of_some _ (Heap.get?_push_of_some _ (Heap.get?_push_of_some _ (Heap.get?_push_size _ f1))))
  show _ ∧ _
  rw [z2, z3, z4] at g5
  rw [z1, z2] at g3
  rw [z3] at g4
  rw [z1] at g2
  rw [z4]
  exact ⟨⟨_, g5, rfl⟩, h _ g5 g3 g4 g1 g2 z5 fun c o x => Heap.get?_push_of_some _ (Heap.get?_push_of_some _ (Heap.get?_push_of_some _ (Heap.get?_push_of_some _ (Heap.get?_push_of_some _ x))))⟩
end

section
variable {X : Cx} {pins : List (Addr × Obj)} {σ : St} {H : Hp} {s : Shared} {h' : Heap}
/-- several untracked records of ours have turned, and a new tuple is tracked -/
theorem Inv.turnedL {t' : Nat} {ch : List Addr} (I : Inv X pins σ H s) (k : ∀ b o, b ∉ ch → s.heap.get? b = some o → h'.get? b = some o) (hf : ∀ b ∈ ch, FpOk X pins H b) : Inv X pins σ H { s with heap := h', toks := t' } := by
  have nit : ∀ b u, H b = some u → b ∉ ch := fun b u e z => by rw [(hf b z).1] at e; cases e
  refine I.step (g' := s.gens) (d' := s.drawn) (ch := ch) (fun b hb => ?_) (fun b o _ _ hc e _ => k b o hc e) (fun b o _ _ hc e _ => ⟨o.slots, k b o hc e⟩) (fun _ _ _ _ n => n)
    (fun b o hc e => ⟨o, k b o hc e⟩) (fun _ _ e => e) (fun _ _ _ e => e) (fun b ps e => ⟨#[], by rw [e]; simp⟩) (fun m hm => ?_) (fun b u e => ?_) I.bare
  · obtain ⟨f0, f1, f2, f3, f4, f5⟩ := hf b hb
    exact ⟨f3, f1, f4, f5⟩
  · obtain ⟨o, es, ep, ho, r⟩ := hm
    exact ⟨o, es, ep, k _ o (fun z => (hf _ z).2.1 rfl) ho, r⟩
  · refine (I.hok b u e).stay (fun c v hc q => k c v ?_ q) (fun _ q => q) fun _ _ q => q
    rcases hc with z | z
    · rw [z]; exact nit b u e
    · exact nit c _ z
theorem Inv.turnedT {t' : Nat} {ch : List Addr} {T : Addr} {vs : List V} (I : Inv X pins σ H s) (k : ∀ b o, b ∉ ch → s.heap.get? b = some o → h'.get? b = some o) (hf : ∀ b ∈ ch, FpOk X pins H b) (hT : s.heap.objs.size ≤ T)
    (new : ObjOk X.prog X.w (upd H T (.tup vs)) h' T (.tup vs)) : Inv X pins σ (upd H T (.tup vs)) { s with heap := h', toks := t' } := by
  have hn : H T = none := I.hok.fresh hT
  have nit : ∀ b u, H b = some u → b ∉ ch := fun b u e z => by rw [(hf b z).1] at e; cases e
  have nT : ∀ b o, s.heap.get? b = some o → b ≠ T := fun b o e z => absurd (Heap.lt_size e) (by rw [z]; exact Nat.not_lt.mpr hT)
  have up : ∀ b u, H b = some u → upd H T (.tup vs) b = some u := fun b u e => by rw [upd_ne (ne_of_none e hn)]; exact e
  refine I.step (g' := s.gens) (d' := s.drawn) (ch := ch) (fun b hb => ?_) (fun b o _ _ hc e _ => k b o hc e) (fun b o _ _ hc e _ => ⟨o.slots, k b o hc e⟩) (fun b o _ e n => by rw [upd_ne (nT b o e)]; exact n)
    (fun b o hc e => ⟨o, k b o hc e⟩) (fun b xs e => up b _ e) (fun b o u e => up b _ e) (fun b ps e => ⟨#[], by rw [up b _ e]; simp⟩) (fun m hm => ?_) (fun b u e => ?_) I.bare
  · obtain ⟨f0, f1, f2, f3, f4, f5⟩ := hf b hb
    exact ⟨f3, f1, f4, f5⟩
  · obtain ⟨o, es, ep, ho, r⟩ := hm
    exact ⟨o, es, ep, k _ o (fun z => (hf _ z).2.1 rfl) ho, r⟩
  · by_cases hb : b = T
    · subst hb; rw [upd_same] at e; cases e; exact new
    · rw [upd_ne hb] at e
      refine (I.hok b u e).stay (fun c v hc q => k c v ?_ q) (fun c q => up c _ q) fun c xs q => up c _ q
      rcases hc with z | z
      · rw [z]; exact nit b u e
      · exact nit c _ z
end

/-- what zip(a, b) yields: pairs, each a new tuple -/
def Itz (G1 G2 : Hp → List V → Prop) : It :=
  ⟨fun i H => ∃ xs ys x y, G1 H xs ∧ G2 H ys ∧ xs[i]? = some x ∧ ys[i]? = some y, fun i H v H' => ∃ T, v = .ref T ∧ H T = none ∧ ∀ xs ys x y, G1 H xs → G2 H ys → xs[i]? = some x → ys[i]? = some y → H' = upd H T (.tup [x, y]),
    fun i H => ∃ xs ys, G1 H xs ∧ G2 H ys ∧ (xs.length ≤ i ∨ ys.length ≤ i)⟩
/-- a sequence as a zip's part: what of the abstract heap tells its items -/
structure Part (K : PySem.W.Frag) (G : Hp → List V → Prop) (Si : Addr → Nat → Heap → Prop) (R : Heap → (Nat → Option Value) → Prop) (own : Addr) : Prop where
  sub : ∀ (P : Program) (w : World) (i : Addr), Sub P w i (Si i) R
  ready : ∀ (X : Cx), X.K = K → ∀ (pins : List (Addr × Obj)) (σ : St) (H : Hp) (s : Shared) (xs : List V), Inv X pins σ H s → G H xs → ∃ us : List Value, Vals xs us ∧ R s.heap (fun k => us[k]?)
  inj : ∀ (X : Cx), X.K = K → ∀ (pins : List (Addr × Obj)) (σ : St) (H : Hp) (s : Shared) (xs ys : List V), Inv X pins σ H s → G H xs → G H ys → xs = ys
  keep : ∀ h h' g, R h g → (∀ o, h.get? own = some o → h'.get? own = some o) → R h' g
theorem part_list {K : PySem.W.Frag} (a : Addr) : Part K (fun H xs => SqL K H a xs) (fun i k h => h.IsListIter i a k) (fun h get => ∃ items : Array Value, h.IsList a items ∧ ∀ k, get k = items[k]?) a where
  sub := fun P w i => sub_list i a
  ready := fun X hK pins σ H s xs I hq => by
    subst hK
    obtain ⟨its, r, ht, _⟩ := I.list hq
    exact ⟨its, r, its.toArray, ht.isList, fun k => by simp⟩
  inj := fun X hK pins σ H s xs ys I h1 h2 => by subst hK; exact I.list_inj h1 h2
  keep := fun h h' g ⟨items, ⟨o, e, r⟩, q⟩ k => ⟨items, ⟨o, k o e, r⟩, q⟩
theorem turn_zip {P : Program} {w : World} {K : PySem.W.Frag} {elts : List Expr} {kk : Nat} {pos : Pos} {G1 G2 : Hp → List V → Prop} {S1 S2 : Addr → Nat → Heap → Prop} {R1 R2 : Heap → (Nat → Option Value) → Prop} {a1 a2 : Addr}
    (p1 : Part K G1 S1 R1 a1) (p2 : Part K G2 S2 R2 a2) {z TI TO i1 i2 : Addr} (D : ZApart z TI TO i1 i2) (n1 : a1 ∉ [z, TO, i1, i2]) (n2 : a2 ∉ [z, TO, i1, i2]) :
    Turn P w K (.Tuple elts kk pos) (Itz G1 G2) [z, TI, TO, i1, i2] z (fun i h => IsZip h z TI TO .none ∧ IsPair h TI (.ref i1) (.ref i2) ∧ (∃ a b, IsPair h TO a b) ∧ S1 i1 i h ∧ S2 i2 i h) where
  mem := by simp
  obj := fun i h ⟨hz, hTI, ⟨a, b, hTO⟩, h1, h2⟩ c hc => by
    simp only [List.mem_cons, List.not_mem_nil, or_false] at hc
    rcases hc with rfl | rfl | rfl | rfl | rfl
    · exact ⟨_, hz, fun v e => by cases e⟩
    · exact ⟨_, hTI, fun v e => by cases e⟩
    · exact ⟨_, hTO, fun v e => by cases e⟩
    · exact (p1.sub P w _).obj _ _ h1
    · exact (p2.sub P w _).obj _ _ h2
  keep := fun i h h' ⟨hz, hTI, ⟨a, b, hTO⟩, h1, h2⟩ q =>
    ⟨q z (by simp) _ hz, q TI (by simp) _ hTI, ⟨a, b, q TO (by simp) _ hTO⟩, (p1.sub P w i1).keep _ _ _ h1 (q i1 (by simp)), (p2.sub P w i2).keep _ _ _ h2 (q i2 (by simp))⟩
  item := by
    intro X hP hw hK hc i pins s σ H E I hf ⟨hz, hTI, ⟨a, b, hTO⟩, h1, h2⟩ hg
    subst hP hw
    obtain ⟨xs, ys, x, y, g1, g2, hx, hy⟩ := hg
    obtain ⟨us1, r1, rd1⟩ := p1.ready X hK pins σ H s xs I g1
    obtain ⟨us2, r2, rd2⟩ := p2.ready X hK pins σ H s ys I g2
    obtain ⟨u, hu, ru⟩ := r1.get hx
    obtain ⟨v, hv, rv⟩ := r2.get hy
    have out : ∀ c, c ≠ z → c ≠ TO → c ≠ i1 → c ≠ i2 → c ∉ [z, TO, i1, i2] := fun c c1 c2 c3 c4 hm => by
      simp only [List.mem_cons, List.not_mem_nil, or_false] at hm
      rcases hm with e | e | e | e <;> contradiction
    have sep : ∀ {c : Addr}, c ∉ [z, TO, i1, i2] → c ≠ z ∧ c ≠ TO ∧ c ≠ i1 ∧ c ≠ i2 := fun hm => ⟨fun e => hm (by simp [e]), fun e => hm (by simp [e]), fun e => hm (by simp [e]), fun e => hm (by simp [e])⟩
    obtain ⟨m1, m2, m3, m4⟩ := sep n1
    obtain ⟨m5, m6, m7, m8⟩ := sep n2
    refine zip_item (k := i) D (p1.sub _ _ i1) (p2.sub _ _ i2) (fun h h' g r q => p1.keep _ _ _ r fun o e => q a1 o m1 m2 m3 m4 e) (fun h h' g r q => p2.keep _ _ _ r fun o e => q a2 o m5 m6 m7 m8 e) hz hTI hTO h1 h2 rd1 rd2 hu hv fun h' tk hz' hTO' h1' h2' hT' hsz keep => ?_
    refine ⟨_, rfl, ?_⟩
    refine wpAny_letOwnedTupleGo_zip (s := { s with heap := h', toks := tk }) hz' fun h'' hz'' sb => ?_
    have zlt : z < s.heap.objs.size := Heap.lt_size hz
    have kp : ∀ c o, c ∉ [z, TO, i1, i2] → s.heap.get? c = some o → h''.get? c = some o := fun c o hm e => by
      obtain ⟨c1, c2, c3, c4⟩ := sep hm
      exact sb.extBut c o c1 (keep c o c1 c2 c3 c4 e)
    have hT'' : IsPair h'' s.heap.objs.size u v := sb.extBut _ _ (Nat.ne_of_gt zlt) hT'
    have fp4 : ∀ c ∈ [z, TO, i1, i2], FpOk X pins H c := fun c hm => hf c (by
      simp only [List.mem_cons, List.not_mem_nil, or_false] at hm ⊢
      rcases hm with e | e | e | e <;> simp [e])
    have I' := I.turnedT (t' := tk) (h' := h'') (T := s.heap.objs.size) (vs := [x, y]) kp fp4 (Nat.le_refl _) (show ObjOk X.prog X.w _ h'' _ (.tup [x, y]) from ⟨by show 2 ≤ sizeLine; decide, [u, v], .cons ru (.cons rv .nil), _, hT'', rfl, _, rfl⟩)
    have fresh : H s.heap.objs.size = none := I.hok.fresh (Nat.le_refl _)
    refine ⟨.ref s.heap.objs.size, _, I', rfl, ⟨_, rfl, fresh, fun xs' ys' x' y' g1' g2' hx' hy' => ?_⟩, ⟨hz'', sb.extBut _ _ D.a (keep _ _ D.a D.e D.f D.g hTI), ⟨_, _, sb.extBut _ _ D.b hTO'⟩, (p1.sub X.prog X.w i1).keep _ _ _ h1' fun o e => sb.extBut _ _ D.c e, (p2.sub X.prog X.w i2).keep _ _ _ h2' fun o e => sb.extBut _ _ D.d e⟩, fun c hm => ?_⟩
    · rw [p1.inj X hK pins σ H s _ _ I g1' g1, hx] at hx'
      rw [p2.inj X hK pins σ H s _ _ I g2' g2, hy] at hy'
      cases hx'
      cases hy'
      rfl
    · have h0 := (hf c hm).1
      have clt : c < s.heap.objs.size := by
        simp only [List.mem_cons, List.not_mem_nil, or_false] at hm
        rcases hm with rfl | rfl | rfl | rfl | rfl
        · exact zlt
        · exact Heap.lt_size hTI
        · exact Heap.lt_size hTO
        · obtain ⟨o, e, _⟩ := (p1.sub X.prog X.w _).obj _ _ h1; exact Heap.lt_size e
        · obtain ⟨o, e, _⟩ := (p2.sub X.prog X.w _).obj _ _ h2; exact Heap.lt_size e
      rw [upd_ne (Nat.ne_of_lt clt)]
      exact h0
  done := by
    intro X hP hw hK hc i pins s σ H E I hf ⟨hz, hTI, ⟨a, b, hTO⟩, h1, h2⟩ hg
    subst hP hw
    obtain ⟨xs, ys, g1, g2, hend⟩ := hg
    obtain ⟨us1, r1, rd1⟩ := p1.ready X hK pins σ H s xs I g1
    obtain ⟨us2, r2, rd2⟩ := p2.ready X hK pins σ H s ys I g2
    have sep : ∀ {c : Addr}, c ∉ [z, TO, i1, i2] → c ≠ z ∧ c ≠ TO ∧ c ≠ i1 ∧ c ≠ i2 := fun hm => ⟨fun e => hm (by simp [e]), fun e => hm (by simp [e]), fun e => hm (by simp [e]), fun e => hm (by simp [e])⟩
    obtain ⟨m1, m2, m3, m4⟩ := sep n1
    obtain ⟨m5, m6, m7, m8⟩ := sep n2
    have l1 := r1.length
    have l2 := r2.length
    refine zip_end (k := i) (I.ok.hd hc) D (p1.sub _ _ i1) (p2.sub _ _ i2) (fun h h' g r q => p1.keep _ _ _ r fun o e => q a1 o m1 m2 m3 m4 e) (fun h h' g r q => p2.keep _ _ _ r fun o e => q a2 o m5 m6 m7 m8 e) hz hTI hTO h1 h2 rd1 rd2 ?_ fun h' tk keep => ?_
    · rcases hend with e | e
      · exact .inl (by simp; omega)
      · exact .inr (by simp; omega)
    · refine ⟨rfl, I.turnedL (ch := [z, TO, i1, i2]) (fun c o hm e => ?_) fun c hm => hf c (by
        simp only [List.mem_cons, List.not_mem_nil, or_false] at hm ⊢
        rcases hm with e | e | e | e <;> simp [e])⟩
      obtain ⟨c1, c2, c3, c4⟩ := sep hm
      exact keep c o c1 c2 c3 c4 e
  self := fun A i s Q E ⟨hz, _⟩ q => wpAny_pyIter_zip hz q
end L2
namespace L2
open PySem PySem.Spec PyProof.Rows
section
variable {X : Cx} {elts : List Expr} {kk : Nat} {tpos : Pos}
theorem zapart_new (n : Nat) : ZApart (n + 4) (n + 2) (n + 3) n (n + 1) := by
  constructor <;> (intro e; have e' : @Eq Nat _ _ := e; omega)
/-- zip(a, b) of two tuples, of two lists -/
def iZipT (K : PySem.W.Frag) (ta : TA) : TI := fun σ H R => ta σ H fun vs H1 => ∃ a b xs ys, vs = [.ref a, .ref b] ∧ SqT K H1 a xs ∧ SqT K H1 b ys ∧ R (Itz (fun H xs => SqT K H a xs) (fun H ys => SqT K H b ys)) H1
def iZipL (K : PySem.W.Frag) (ta : TA) : TI := fun σ H R => ta σ H fun vs H1 => ∃ a b xs ys, vs = [.ref a, .ref b] ∧ SqL K H1 a xs ∧ SqL K H1 b ys ∧ R (Itz (fun H xs => SqL K H a xs) (fun H ys => SqL K H b ys)) H1
theorem zip_pie {pins : List (Addr × Obj)} {σ : St} {H : Hp} {s : Shared} {R : It → Hp → Prop} {E : Value → Shared → Prop} {G1 G2 : Hp → List V → Prop} {S1 S2 : Addr → Nat → Heap → Prop} {R1 R2 : Heap → (Nat → Option Value) → Prop} {a b : Addr} {o1 o2 : Obj}
    (I : Inv X pins σ H s) (p1 : Part X.K G1 S1 R1 a) (p2 : Part X.K G2 S2 R2 b) (t1 : ItersTo s.heap (.ref a) o1) (t2 : ItersTo s.heap (.ref b) o2) (f1 : o1.isFreed = false) (f2 : o2.isFreed = false) (la : a < s.heap.objs.size) (lb : b < s.heap.objs.size)
    (s1 : ∀ h i, h.get? i = some o1 → S1 i 0 h) (s2 : ∀ h i, h.get? i = some o2 → S2 i 0 h) (q : R (Itz G1 G2) H) :
    wpAny (model X.prog X.w) X.A (call (.type "zip") [.ref a, .ref b]) (fun v s1 => wpAny (model X.prog X.w) X.A (pyIter v) (PIE X pins σ (.Tuple elts kk tpos) R) E s1) E s := by
  refine call_zip2 t1 t2 f1 f2 fun h' hz hTI hTO g1 g2 hsz keep => ?_
  refine wpAny_pyIter_zip hz ?_
  have I1 : Inv X pins σ H { s with heap := h' } := I.kept (t' := s.toks) keep
  refine ⟨_, [s.heap.objs.size + 4, s.heap.objs.size + 2, s.heap.objs.size + 3, s.heap.objs.size, s.heap.objs.size + 1], _, _, H, rfl, I1, turn_zip (K := X.K) p1 p2 (zapart_new s.heap.objs.size) ?_ ?_, ⟨hz, hTI, ⟨_, _, hTO⟩, s1 _ _ g1, s2 _ _ g2⟩, fun c hc => ?_, q⟩
  · intro hm
    simp only [List.mem_cons, List.not_mem_nil, or_false] at hm
    rcases hm with e | e | e | e <;> (have e' : @Eq Nat _ _ := e; have la' : @LT.lt Nat _ a s.heap.objs.size := la; have lb' : @LT.lt Nat _ b s.heap.objs.size := lb; omega)
  · intro hm
    simp only [List.mem_cons, List.not_mem_nil, or_false] at hm
    rcases hm with e | e | e | e <;> (have e' : @Eq Nat _ _ := e; have la' : @LT.lt Nat _ a s.heap.objs.size := la; have lb' : @LT.lt Nat _ b s.heap.objs.size := lb; omega)
  · have hle : s.heap.objs.size ≤ c := by
      simp only [List.mem_cons, List.not_mem_nil, or_false] at hc
      rcases hc with e | e | e | e | e <;> (have e' : @Eq Nat _ _ := e; show @LE.le Nat _ s.heap.objs.size c; omega)
    exact I.fpOk hle (I.hok.fresh hle)
theorem pi_zipL {a b : Expr} {ta : TA} {p pos : Pos} (hg : Gl X "zip") (hm : X.mg "zip" = none) (ha : PA X [a, b] ta) (hs : starEach [a, b] X.env = [(false, eval a X.env), (false, eval b X.env)] := by rfl) (hs2 : starEach [b] X.env = [(false, eval b X.env)] := by rfl) :
    PI X (.Tuple elts kk tpos) (.Call (.Name "zip" p) [a, b] [] pos) (iZipL X.K ta) := by
  intro pins s σ H R I h
  refine Call_ (ld_blt I hg hm boot_zip (PyProof.Rows.callWith_type1 (thn (ha pos pins s σ H _ I h) fun us s1 ⟨vs, H1, I1, r1, q1⟩ => ?_) (by rw [hs, hs2]) (by rw [hs2]; rfl)))
  obtain ⟨x, y, xs, ys, e, hx, hy, q⟩ := q1
  subst e
  obtain ⟨u, v, rfl, ru, rv⟩ := r1.two
  cases ru
  cases rv
  obtain ⟨i1, _, ht1, _⟩ := I1.list hx
  obtain ⟨i2, _, ht2, _⟩ := I1.list hy
  have l1 : x < s1.heap.objs.size := by obtain ⟨_, e, _⟩ := ht1.isList; exact Heap.lt_size e
  have l2 : y < s1.heap.objs.size := by obtain ⟨_, e, _⟩ := ht2.isList; exact Heap.lt_size e
  exact zip_pie I1 (part_list x) (part_list y) (itersTo_list ht1.isList) (itersTo_list ht2.isList) rfl rfl l1 l2 (fun h i e => ⟨_, e, rfl, rfl⟩) (fun h i e => ⟨_, e, rfl, rfl⟩) q
/-- .. without a test -/
theorem lc_on {J : It} {P : Hp → Prop} {xs : List V} (hJ : ItSeq J P xs) {src : List (Option Nat)} {g : TG} {te : TE} {σ : St} {H1 : Hp} {Q : VK} {D : Addr} (Pv : Nat → List V → St → Hp → Prop)
    (h0 : Pv 0 [] (capSt src σ) (upd H1 D (.lst []))) (hP : ∀ i ys σ' H', Pv i ys σ' H' → P H' ∧ H' D = some (.lst ys))
    (mono : ∀ x σ H Q Q', (∀ σ' H', Q σ' H' → Q' σ' H') → g x σ H Q → g x σ H Q')
    (step : ∀ i ys σ' H' x, xs[i]? = some x → Pv i ys σ' H' → g x σ' H' fun σ2 H4 => te σ2 H4 fun y H6 => H6 D = some (.lst ys) ∧ ys.length < sizeLine ∧ Pv (i + 1) (ys ++ [y]) σ2 (upd H6 D (.lst (ys ++ [y]))))
    (fin : ∀ ys σ' H', Pv xs.length ys σ' H' → Q (.ref D) H') : LC src J g tYes te σ H1 Q D :=
  lc_by hJ Pv h0 hP (fun i ys σ' H' x hx p => by
    refine mono _ _ _ _ _ ?_ (step i ys σ' H' x hx p)
    intro σ2 H4 q
    unfold tYes
    dsimp only
    rw [if_pos rfl]
    exact q) fin
theorem gName_mono (i : Nat) : ∀ x σ H Q Q', (∀ σ' H', Q σ' H' → Q' σ' H') → gName i x σ H Q → gName i x σ H Q' := fun _ _ _ _ _ h q => h _ _ q
/-! ### for over a text, over anything of n turns -/
end
end L2
namespace L2
open PySem PySem.Spec PyProof.Rows
/-! ### short words: the surroundings of a law as one thing, its defs by their promises -/
structure Gx where
  P : Program
  w : World
  K : PySem.W.Frag
  mg : Str → Option Value
  base : Heap
def Cx.gx (X : Cx) : Gx := ⟨X.prog, X.w, X.K, X.mg, X.base⟩
/-- a def of the top as it stands there -/
def Gx.Raw (g : Gx) (x qual : Str) (st : Stmt) (ps : List Str) : Prop := ∃ f fd, Fun g.K x qual st f fd ∧ Binds g.K fd ps [] ∧ g.mg x = some (.ref f)
/-- .. with its promise, k calls deep -/
def Gx.Fn (g : Gx) (k : Nat) (x : Str) (ps : List Str) (sp : Sp) : Prop := ∃ f fd, FnOk g.P g.w g.K g.mg g.base CX0 k f fd ps sp ∧ Binds g.K fd ps [] ∧ PySem.W.keepIn g.K (.ref f) = true ∧ g.mg x = some (.ref f)
/-- a method of the class at C -/
def Gx.RawM (g : Gx) (C : Addr) (m qual : Str) (st : Stmt) (ps : List Str) : Prop := ∃ f fd, Fun g.K m qual st f fd ∧ Binds g.K fd ps [] ∧ Meth g.K C m f
def Gx.Me (g : Gx) (k : Nat) (C : Addr) (m : Str) (ps : List Str) (sp : Sp) : Prop := ∃ f fd, FnOk g.P g.w g.K g.mg g.base CX0 k f fd ps sp ∧ Binds g.K fd ps [] ∧ Meth g.K C m f
/-- the class's own making -/
def Gx.RawI (g : Gx) (x : Str) (C : Addr) (qual : Str) (st : Stmt) (ps : List Str) : Prop := ∃ f fd, Fun g.K "__init__" qual st f fd ∧ Binds g.K fd ps [] ∧ Mk g.K C f ∧ g.mg x = some (.ref C)
def Gx.Ma (g : Gx) (k : Nat) (x : Str) (C : Addr) (ps : List Str) (sp : Sp) : Prop := ∃ f fd, FnOk g.P g.w g.K g.mg g.base CX0 k f fd ps sp ∧ Binds g.K fd ps [] ∧ Mk g.K C f ∧ g.mg x = some (.ref C)
def Gx.Con (g : Gx) (x : Str) (v : V) : Prop := ∃ u, g.mg x = some u ∧ RelV v u
/-- the body's context -/
abbrev Gx.cx (g : Gx) (N : List Str) (qual : Str) (st : Stmt) (f : Addr) (cdv : Value) (A : Around) (outer : List Env) (s : Shared) (H : Hp) (E : XK) : Cx := (cxOf CX0 g.P g.w g.K g.mg g.base N qual (defScope st) f cdv A outer s H E).nox
def Body (g : Gx) (k : Nat) (N : List Str) (qual : Str) (st : Stmt) (sp : Sp) : Prop := ∀ (f : Addr) (cdv : Value) (A : Around) (outer : List Env) (s : Shared) (H : Hp) (vs : List V) (Q : VK) (E : XK), Room k (g.cx N qual st f cdv A outer s H E).A → sp vs H Q E →
  ∃ t, PSs (g.cx N qual st f cdv A outer s H E) (defBody st) t ∧ t { nx := fun _ H' => Q .non H', rt := Q } (start N vs) H
section
variable {g : Gx} {k : Nat} {x qual m : Str} {st : Stmt} {N ps : List Str} {sp : Sp} {C : Addr}
theorem Gx.Raw.fn (R : g.Raw x qual st ps) (S : FnScope N ps (defScope st)) (len : ∀ vs H Q E, sp vs H Q E → vs.length = ps.length) (b : Body g k N qual st sp) : g.Fn (k + 1) x ps sp := by
  obtain ⟨f, fd, F, bd, hm⟩ := R
  exact ⟨f, fd, F.ok S len fun cdv A outer s H vs Q E hr h => b f cdv A outer s H vs Q E hr h, bd, F.kp, hm⟩
theorem Gx.RawM.me (R : g.RawM C m qual st ps) (S : FnScope N ps (defScope st)) (len : ∀ vs H Q E, sp vs H Q E → vs.length = ps.length) (b : Body g k N qual st sp) : g.Me (k + 1) C m ps sp := by
  obtain ⟨f, fd, F, bd, hm⟩ := R
  exact ⟨f, fd, F.ok S len fun cdv A outer s H vs Q E hr h => b f cdv A outer s H vs Q E hr h, bd, hm⟩
theorem Gx.RawI.ma (R : g.RawI x C qual st ps) (S : FnScope N ps (defScope st)) (len : ∀ vs H Q E, sp vs H Q E → vs.length = ps.length) (b : Body g k N qual st sp) : g.Ma (k + 1) x C ps sp := by
  obtain ⟨f, fd, F, bd, hm, hg⟩ := R
  exact ⟨f, fd, F.ok S len fun cdv A outer s H vs Q E hr h => b f cdv A outer s H vs Q E hr h, bd, hm, hg⟩
theorem Gx.Fn.mono {j : Nat} (F : g.Fn j x ps sp) (h : j ≤ k) : g.Fn k x ps sp := by
  obtain ⟨f, fd, F, r⟩ := F
  exact ⟨f, fd, F.mono h, r⟩
theorem Gx.Me.mono {j : Nat} (F : g.Me j C m ps sp) (h : j ≤ k) : g.Me k C m ps sp := by
  obtain ⟨f, fd, F, r⟩ := F
  exact ⟨f, fd, F.mono h, r⟩
theorem Gx.RawM.none (R : g.RawM C m qual st ps) (no : ∀ vs H Q E, ¬ sp vs H Q E) : g.Me k C m ps sp := by
  obtain ⟨f, fd, F, bd, hm⟩ := R
  exact ⟨f, fd, ⟨fun vs H Q E h => absurd h (no vs H Q E), fun A outer s H args us vs Q E _ _ _ _ h => absurd h (no vs H Q E)⟩, bd, hm⟩
end
section
variable {g : Gx} {X : Cx} {k j : Nat} {x m : Str} {ps : List Str} {sp : Sp} {C : Addr} {e o : Expr} {es : List Expr} {t : TA} {ta : TE} {p pos apos : Pos}
/-- f(e, ..) -/
theorem pe_fn (F : g.Fn j x ps sp) (hr : Room k X.A) (ha : PA X (e :: es) t) (hj : j ≤ k := by omega) (hX : X.gx = g := by rfl) (hg : Gl X x := by rfl) (hdb : (x == ("__debug__" : Str)) = false := by decide)
    (he : starEach (e :: es) X.env = (false, eval e X.env) :: starEach es X.env := by rfl) (hpl : (backTo pos (starEach es X.env)).any (·.1) = false := by rfl) : PE X (.Call (.Name x p) (e :: es) [] pos) (tCall sp [] E0 t) := by
  subst hX
  obtain ⟨f, fd, F, b, kp, hm⟩ := F
  exact pe_call F (hr.mono hj) hg hm kp b .nil pass0 ha hdb he hpl
/-- o.m(e, ..) -/
theorem pe_me {pl : Sem Bool} (F : g.Me j C m ps sp) (c : Cls g.K C) (hr : Room k X.A) (ho : PE X o ta) (ha : PA X (e :: es) t) (hj : j ≤ k := by omega) (hX : X.gx = g := by rfl)
    (hst : starEach (e :: es) X.env = (false, eval e X.env) :: starEach es X.env := by rfl) (hpl : (backTo pos (starEach es X.env)).any (·.1) = false := by rfl)
    (ht : eval (.Call (.Attribute o m apos) (e :: es) [] pos) X.env = (do
      let ov ← eval o X.env
      standAt apos.atName
      let (f, first) ← holding [ov] (getMethod ov m pl)
      callWith pos f first (backTo pos (starEach (e :: es) X.env)) (backToKw pos (keywordEach [] X.env))) := by rfl) : PE X (.Call (.Attribute o m apos) (e :: es) [] pos) (tMeth C m sp [] E0 ta t) := by
  subst hX
  obtain ⟨f, fd, F, b, hm⟩ := F
  exact pe_meth ho c hm F (hr.mono hj) b .nil pass0 ha hst hpl ht
/-- C(e, ..) -/
theorem pe_ma (F : g.Ma j x C ps sp) (hr : Room k X.A) (ha : PA X (e :: es) t) (hj : j + 1 ≤ k := by omega) (hX : X.gx = g := by rfl) (hg : Gl X x := by rfl) (hdb : (x == ("__debug__" : Str)) = false := by decide)
    (he : starEach (e :: es) X.env = (false, eval e X.env) :: starEach es X.env := by rfl) (hpl : (backTo pos (starEach es X.env)).any (·.1) = false := by rfl) : PE X (.Call (.Name x p) (e :: es) [] pos) (tMake C sp [] E0 t) := by
  subst hX
  obtain ⟨f, fd, F, b, M, hm⟩ := F
  exact pe_make M F (hr.mono hj) hg hm b .nil pass0 ha hdb he hpl
/-- a built-in function, type -/
theorem pe_bf {id : String} {r : List V → Hp → VK → Prop} (hm : g.mg x = none) (hc : CallR X (.builtin id) r) (ha : PA X (e :: es) t) (hv : bootBuiltins x = some (.builtin id) := by decide +kernel) (hX : X.gx = g := by rfl) (hg : Gl X x := by rfl) (hn : x ≠ "__name__" := by decide) (hdb : (x == ("__debug__" : Str)) = false := by decide)
    (he : starEach (e :: es) X.env = (false, eval e X.env) :: starEach es X.env := by rfl) (hpl : (backTo pos (starEach es X.env)).any (·.1) = false := by rfl) : PE X (.Call (.Name x p) (e :: es) [] pos) (tCB r t) := by
  subst hX
  exact pe_callB hc hg hm hv ha hn hdb he hpl
theorem pe_bt {T : String} {r : List V → Hp → VK → Prop} (hm : g.mg x = none) (hc : CallR X (.type T) r) (ha : PA X (e :: es) t) (hv : bootBuiltins x = some (.type T) := by decide +kernel) (hX : X.gx = g := by rfl) (hg : Gl X x := by rfl) (hn : x ≠ "__name__" := by decide) (hdb : (x == ("__debug__" : Str)) = false := by decide)
    (he : starEach (e :: es) X.env = (false, eval e X.env) :: starEach es X.env := by rfl) (hpl : (backTo pos (starEach es X.env)).any (·.1) = false := by rfl) : PE X (.Call (.Name x p) (e :: es) [] pos) (tCB r t) := by
  subst hX
  exact pe_callTy hc hg hm hv ha hn hdb he hpl
/-- a built-in type's name -/
theorem pe_bn {T : String} (hm : g.mg x = none) (hv : bootBuiltins x = some (.type T) := by decide +kernel) (hX : X.gx = g := by rfl) (hg : Gl X x := by rfl) (hn : x ≠ "__name__" := by decide) (hdb : (x == ("__debug__" : Str)) = false := by decide) : PE X (.Name x pos) (tC (.ty T)) := by
  subst hX
  exact pe_bltn hg hm hv rfl hn hdb
end
/-! ### code lists as texts -/
def S (l : List Nat) : Str := ⟨l.toArray⟩
theorem S_list (l : List Nat) : (S l).cps.toList = l := by simp [S]
theorem S_len (l : List Nat) : (S l).length = l.length := by simp [S, Str.length]
theorem S_app (a b : List Nat) : S a ++ S b = S (a ++ b) := by
  show Str.append (S a) (S b) = S (a ++ b)
  simp [Str.append, S]
def joinL (s : List Nat) : List (List Nat) → List Nat
  | [] => []
  | [x] => x
  | x :: y :: r => x ++ s ++ joinL s (y :: r)
theorem join_S (s : List Nat) : ∀ ys : List (List Nat), Txt.join (S s) (ys.map S) = S (joinL s ys) := fun ys => by
  have e : Txt.join (S s) (ys.map S) = Str.join (S s) (ys.map S) := eq_of_beq (join_plain_closes _ _)
  rw [e]
  induction ys with
  | nil => rfl
  | cons x r ih =>
    cases r with
    | nil => rfl
    | cons y r =>
      have ih' := ih (eq_of_beq (join_plain_closes _ _))
      show S x ++ S s ++ Str.join (S s) ((y :: r).map S) = _
      rw [ih', S_app, S_app]
      rfl
end L2
namespace L2
open PySem PySem.Spec PyProof.Rows
/-! ### what the top has written -/
section
variable {K : PySem.W.Frag} {h : Heap} {mg : Str → Option Value} {P : Program} {w : World} {base : Heap} {f C : Addr} {x qual m : Str} {st : Stmt} {ps : List Str} {oc kV dc pm cd ct : Value} {od an : Option Addr} {sl : Array (Option Value)}
theorem raw_mk (X : K.In h) (G : h.Ns mainGlobals mg) (ps : List Str)
    (a : PySem.W.nsIn K mainGlobals x = some (some (.ref f))) (l : K.lookup f = some ⟨oc, od, .func (PySem.W.fnOf x x (defArgs st) (defBody st) (defScope st) .none kV dc pm an cd ct), sl⟩) (c : PySem.W.codeIn K cd x = true) (k : PySem.W.keepIn K (.ref f) = true)
    (b : ∀ (kV doc pm : Value) (an : Option Addr) (cdv ct : Value) (us : List Value), us.length = ps.length → bindArgs (PySem.W.fnOf x x (defArgs st) (defBody st) (defScope st) .none kV doc pm an cdv ct) ⟨us, []⟩ = pure (ps.zip us)) :
    ∀ P w base, (Gx.mk P w K mg base).Raw x x st ps := fun P w base =>
  have F := fun_mk (st := st) l c k
  ⟨f, _, F, F.binds b, PySem.W.mg_of X G a⟩
theorem rawM_mk (X : K.In h) (G : h.Ns mainGlobals mg) (ps : List Str)
    (a : PySem.W.findIn K (.ref C) m = some (some (.ref f))) (i : PySem.W.isFn K (.ref f) = true) (l : K.lookup f = some ⟨oc, od, .func (PySem.W.fnOf m qual (defArgs st) (defBody st) (defScope st) .none kV dc pm an cd ct), sl⟩) (c : PySem.W.codeIn K cd qual = true) (k : PySem.W.keepIn K (.ref f) = true)
    (b : ∀ (kV doc pm : Value) (an : Option Addr) (cdv ct : Value) (us : List Value), us.length = ps.length → bindArgs (PySem.W.fnOf m qual (defArgs st) (defBody st) (defScope st) .none kV doc pm an cdv ct) ⟨us, []⟩ = pure (ps.zip us)) :
    ∀ P w base, (Gx.mk P w K mg base).RawM C m qual st ps := fun P w base =>
  have F := fun_mk (st := st) l c k
  ⟨f, _, F, F.binds b, ⟨a, i, k⟩⟩
theorem rawI_mk (X : K.In h) (G : h.Ns mainGlobals mg) (ps : List Str) (aC : PySem.W.nsIn K mainGlobals x = some (some (.ref C))) (mk : PySem.W.makesIn K C = true) (kc : PySem.W.keepIn K (.ref C) = true)
    (a : PySem.W.findIn K (.ref C) "__init__" = some (some (.ref f))) (i : PySem.W.isFn K (.ref f) = true) (l : K.lookup f = some ⟨oc, od, .func (PySem.W.fnOf "__init__" qual (defArgs st) (defBody st) (defScope st) .none kV dc pm an cd ct), sl⟩) (c : PySem.W.codeIn K cd qual = true) (k : PySem.W.keepIn K (.ref f) = true)
    (b : ∀ (kV doc pm : Value) (an : Option Addr) (cdv ct : Value) (us : List Value), us.length = ps.length → bindArgs (PySem.W.fnOf "__init__" qual (defArgs st) (defBody st) (defScope st) .none kV doc pm an cdv ct) ⟨us, []⟩ = pure (ps.zip us)) :
    ∀ P w base, (Gx.mk P w K mg base).RawI x C qual st ps := fun P w base =>
  have F := fun_mk (st := st) l c k
  ⟨f, _, F, F.binds b, ⟨mk, a, i, kc⟩, PySem.W.mg_of X G aC⟩
end
/-- the law's own promise -/
def spTrue (K : PySem.W.Frag) : Sp := fun vs H Q _ => ∃ (a : Addr) (ns : List Int), vs = [.ref a] ∧ SqL K H a (ns.map V.int) ∧ ns.length ≤ 63 ∧ ∀ H', Q (.bl true) H'
/-- the law's def as it stands at the top -/
def LawRaw (K : PySem.W.Frag) (mg : Str → Option Value) (st : Stmt) (x n : Str) : Prop := ∃ f fd, Fun K n n st f fd ∧ (∀ (s : Shared) (u : Value), BindsTo s fd ⟨[u], []⟩ [(x, u)]) ∧ mg n = some (.ref f)
theorem lawRaw_mk {K : PySem.W.Frag} {h : Heap} {mg : Str → Option Value} {f : Addr} {x n : Str} {st : Stmt} {oc kV dc pm cd ct : Value} {od an : Option Addr} {sl : Array (Option Value)} (X : K.In h) (G : h.Ns mainGlobals mg)
    (a : PySem.W.nsIn K mainGlobals n = some (some (.ref f))) (l : K.lookup f = some ⟨oc, od, .func (PySem.W.fnOf n n (defArgs st) (defBody st) (defScope st) .none kV dc pm an cd ct), sl⟩) (c : PySem.W.codeIn K cd n = true) (k : PySem.W.keepIn K (.ref f) = true)
    (b : ∀ (kV doc pm : Value) (an : Option Addr) (cdv ct : Value) (s : Shared) (u : Value), BindsTo s (PySem.W.fnOf n n (defArgs st) (defBody st) (defScope st) .none kV doc pm an cdv ct) ⟨[u], []⟩ [(x, u)]) : LawRaw K mg st x n :=
  ⟨f, _, fun_mk (st := st) l c k, b kV dc pm an cd ct, PySem.W.mg_of X G a⟩
/-- from the law's body to the claim -/
theorem walk_gx {l : PySem.W.OpenLaw} {q : Program} {loose : List Str} {XP : (Str → Option Value) → Heap → Prop} {YP : World → Heap → Prop} {d : DefRec} {K : Params → PySem.W.Frag} (k : Nat) (x : Str) (st : Stmt) (N : List Str) (hn : l.most = some 63) (hdf : d.params.defaults = []) (hk : Room (k + 1) callerA) (S : FnScope N [x] (defScope st))
    (hY : ∀ (w : World) (h : Heap), YP w h → (K w.params).In h)
    (F : ∀ (w : World) (mg : Str → Option Value) (h : Heap), (K w.params).In h → h.Ns mainGlobals mg → LawRaw (K w.params) mg st x d.name ∧ ∀ base, Body (Gx.mk l.prog w (K w.params) mg base) k N d.name st (spTrue (K w.params))) :
    PySem.W.WalkO q loose XP YP l.row.toRowW d [] (fun f vs => PySem.call f vs) := by
  refine L2.walk_of (n := 63) (k := k + 1) (x := x) (CX := fun _ => CX0) (sp := fun w => spTrue (K w.params)) hn (by decide) hdf hk hY (fun w mg fa h KX G hmg => ?_) (fun _ _ a ns hl _ hS => ⟨a, ns, rfl, hS, hl, fun _ => rfl⟩) fun _ _ _ _ _ z => z
  obtain ⟨⟨f, fd, Fu, hb, hm⟩, B⟩ := F w mg h KX G
  have e := hmg.symm.trans hm
  cases e
  exact ⟨fd, hb, fun base _ _ => Fu.ok S (fun vs H Q E h => by obtain ⟨a, ns, rfl, _⟩ := h; rfl) fun cdv A outer s H vs Q E hr h => B base fa cdv A outer s H vs Q E hr h⟩
end L2
namespace L2
open PySem PySem.Spec PyProof.Rows
section
variable {X : Cx}
/-- a number's bits, by a power above it -/
theorem bits_lt {a : Int} {m : Nat} (h : a.natAbs < 2 ^ m) : Builtin.Int.intBits a ≤ m := by
  unfold Builtin.Int.intBits
  split
  · omega
  · rename_i h0
    have h0 : a.natAbs ≠ 0 := by simpa using h0
    have := (Nat.log2_lt h0).mpr h
    omega
/-- a product whose bits are told -/
def CMulB (i j : Int) : Prop := ∃ m n : Nat, i.natAbs < 2 ^ m ∧ j.natAbs < 2 ^ n ∧ m + n ≤ 100000000
theorem CMulB.ok {i j : Int} (h : CMulB i j) : IntMulOk i j := by
  obtain ⟨m, n, h1, h2, h3⟩ := h
  exact IntMulOk.of_le (bits_lt h1) (bits_lt h2) (by omega)
def CDivL (i j : Int) : Prop := 0 < j ∧ j.natAbs < 2 ^ 9000
theorem op_fdivL : OpR X (binaryOp .FloorDiv) (rI CDivL fun i j => .int (i / j)) := opI fun i j _ _ _ _ _ hc q => by
  have h1 : (0 : Int) < j := hc.1
  have h2 := hc.2
  have h3 : j.natAbs ≠ 0 := by omega
  exact floordiv_int (by omega) (by rw [Int.fdiv_eq_ediv_of_nonneg i (by omega)]; exact q) (.inl (PyProof.noPylong_of_log2 ((Nat.log2_lt h3).mpr h2)))
theorem small_div {j : Int} (h : 0 < j) (h2 : j < 1073741824) {i : Int} : CDivL i j := ⟨h, Nat.lt_of_lt_of_le (show j.natAbs < 2 ^ 30 by omega) (Nat.pow_le_pow_right (by decide) (by decide))⟩
end
end L2
namespace L2
open PySem PySem.Spec PyProof.Rows
theorem cxOf_K {CX : CXT} {P : Program} {w : World} {K : PySem.W.Frag} {mg : Str → Option Value} {base : Heap} {N : List Str} {qual : Str} {scope : Scope} {f : Addr} {cd : Value} {A : Around} {outer : List Env} {s : Shared} {H : Hp} {E : XK} :
    (cxOf CX P w K mg base N qual scope f cd A outer s H E).K = K := rfl
theorem nox_K {X : Cx} : X.nox.K = X.K := rfl
/-! loops, said of the reading itself -/
section
variable {g : TG} {tb : TS} {D : Ends} {σ : St} {H : Hp}
theorem tFor_range1 {ta : TA} {n : Nat} (Pv : Nat → St → Hp → Prop) (ha : ∀ R : List V → Hp → Prop, R [.int n] H → ta σ H R) (hn : n < 2 ^ 62) (h0 : Pv 0 σ H)
    (hs : ∀ i σ H, i < n → Pv i σ H → g (.int i) σ H fun σ2 H2 => tb { D with nx := Pv (i + 1), ct := Pv (i + 1), bk := D.nx } σ2 H2) (hd : ∀ σ H, Pv n σ H → D.nx σ H) : tFor (iRng1 ta) g tb D σ H := by
  refine ha _ ⟨n, rfl, by omega, by omega, ?_⟩
  refine for_range (lo := 0) (n := n) Pv h0 (fun i σ H hi p => ?_) hd
  have e : (0 : Int) + i = i := by omega
  rw [e]; exact hs i σ H hi p
end
end L2
namespace L2
open PySem PySem.Spec PyProof.Rows
section
variable {X : Cx}
end
/-! ### enumerate over a list -/
/-- what enumerate yields: pairs of a place and a thing, each a new tuple -/
def Ite (G : Hp → List V → Prop) : It :=
  ⟨fun i H => ∃ xs x, G H xs ∧ xs[i]? = some x, fun i H v H' => ∃ T, v = .ref T ∧ H T = none ∧ ∀ xs x, G H xs → xs[i]? = some x → H' = upd H T (.tup [.int i, x]), fun i H => ∃ xs, G H xs ∧ xs.length ≤ i⟩
section
variable {X : Cx} {elts : List Expr} {kk : Nat} {tpos : Pos}
def iEnumL (K : PySem.W.Frag) (ta : TA) : TI := fun σ H R => ta σ H fun vs H1 => ∃ a xs, vs = [.ref a] ∧ SqL K H1 a xs ∧ R (Ite fun H xs => SqL K H a xs) H1
end
end L2
namespace L2
open PySem PySem.Spec PyProof.Rows
/-! ### == and != of data of any depth -/
mutual
/-- the data that a value of the heap stands for -/
inductive Den (K : PySem.W.Frag) (H : Hp) : V → PyData → Prop
  | non : Den K H .non .none
  | bl (b : Bool) : Den K H (.bl b) (.bool b)
  | int (i : Int) : Den K H (.int i) (.int i)
  | str (x : Str) (h : PyData.strOk x = true) : Den K H (.str x) (.str x)
  | lst {a : Addr} {vs : List V} {ds : List PyData} : SqL K H a vs → Dens K H vs ds → Den K H (.ref a) (.list ds)
  | tup {a : Addr} {vs : List V} {ds : List PyData} : SqT K H a vs → Dens K H vs ds → Den K H (.ref a) (.tuple ds)
inductive Dens (K : PySem.W.Frag) (H : Hp) : List V → List PyData → Prop
  | nil : Dens K H [] []
  | cons {v : V} {d : PyData} {vs : List V} {ds : List PyData} : Den K H v d → Dens K H vs ds → Dens K H (v :: vs) (d :: ds)
end
mutual
theorem Den.lay {K : PySem.W.Frag} {H : Hp} : ∀ {v : V} {d : PyData}, Den K H v d → d.canLay0 = true
  | _, _, .non => rfl
  | _, _, .bl b => rfl
  | _, _, .int i => rfl
  | _, _, .str x h => by simpa [PyData.canLay0] using h
  | _, _, .lst _ hs => by rw [PyData.canLay0]; exact hs.lay
  | _, _, .tup _ hs => by rw [PyData.canLay0]; exact hs.lay
theorem Dens.lay {K : PySem.W.Frag} {H : Hp} : ∀ {vs : List V} {ds : List PyData}, Dens K H vs ds → PyData.canLayAll0 ds = true
  | _, _, .nil => rfl
  | _, _, .cons h hs => by rw [PyData.canLayAll0, h.lay, hs.lay]; rfl
end
theorem Dens.ints {K : PySem.W.Frag} {H : Hp} : ∀ ns : List Int, Dens K H (ns.map V.int) (ns.map PyData.int)
  | [] => .nil
  | n :: ns => .cons (.int n) (.ints ns)
section
variable {X : Cx}
mutual
theorem Den.reads {pins : List (Addr × Obj)} {σ : St} {H : Hp} {s : Shared} (I : Inv X pins σ H s) : ∀ {v : V} {d : PyData} {u : Value}, Den X.K H v d → RelV v u → ∃ as, Reads s.heap u d as
  | _, _, u, .non, r => by cases (show u = .none from r); exact ⟨_, .none⟩
  | _, _, u, .bl b, r => by cases (show u = .bool b from r); exact ⟨_, .bool b⟩
  | _, _, u, .int i, r => by obtain ⟨t, rfl⟩ := r; exact ⟨_, .int i t⟩
  | _, _, u, .str x h, r => by obtain ⟨t, rfl⟩ := r; exact ⟨_, .str x t⟩
  | _, _, u, .lst (a := a) h hs, r => by
    cases (show u = .ref a from r)
    obtain ⟨its, rv, pl, hz⟩ := I.list h
    obtain ⟨as, ra⟩ := hs.reads I rv
    obtain ⟨o, e1, e2, n, e3⟩ := pl.isList
    exact ⟨_, .list e1 e2 e3 (by simpa using ra)⟩
  | _, _, u, .tup (a := a) h hs, r => by
    cases (show u = .ref a from r)
    obtain ⟨its, rv, pl, hz⟩ := I.tuple h
    obtain ⟨as, ra⟩ := hs.reads I rv
    obtain ⟨o, e1, e2, n, e3⟩ := (show s.heap.IsTuple a its.toArray from pl)
    exact ⟨_, .tuple e1 e2 e3 (by simpa using ra)⟩
theorem Dens.reads {pins : List (Addr × Obj)} {σ : St} {H : Hp} {s : Shared} (I : Inv X pins σ H s) : ∀ {vs : List V} {ds : List PyData} {us : List Value}, Dens X.K H vs ds → Vals vs us → ∃ as, ReadsAll s.heap us ds as
  | _, _, us, .nil, r => by cases r; exact ⟨_, .nil⟩
  | _, _, us, .cons h hs, r => by
    cases r with
    | cons r rr =>
      obtain ⟨as, ra⟩ := h.reads I r
      obtain ⟨bs, rb⟩ := hs.reads I rr
      exact ⟨_, .cons ra rb⟩
end
theorem op_neD (hu : X.A.units + 64 < cLine) : OpR X (compareOp .NotEq) (fun x y H Q => ∃ d e, Den X.K H x d ∧ Den X.K H y e ∧ d.depth ≤ 64 ∧ Q (.bl (!PyData.eqv d e)) H) := by
  intro pins s σ H x y v u Q I rx ry h
  obtain ⟨d, e, hd, he, dp, q⟩ := h
  obtain ⟨as, ra⟩ := hd.reads I rx
  obtain ⟨bs, rb⟩ := he.reads I ry
  exact SeqAt.compareNe_reads ra rb hd.lay he.lay (by omega) ⟨.bl _, H, I, rfl, q⟩
end
theorem depth_ints : ∀ ns : List Int, PyData.depthAll (ns.map PyData.int) ≤ 1
  | [] => by simp [PyData.depthAll]
  | n :: ns => by
    have := depth_ints ns
    rw [List.map_cons, PyData.depthAll, PyData.depth]
    omega
/-! ### comprehensions -/
theorem take_snoc {α : Type} {l : List α} {i : Nat} {x : α} (h : l[i]? = some x) : l.take (i + 1) = l.take i ++ [x] := by
  obtain ⟨hi, hc⟩ := List.getElem?_eq_some_iff.mp h
  rw [List.take_succ_eq_append_getElem hi, hc]
theorem lc_map {J : It} {P : Hp → Prop} {xs : List V} (hJ : ItSeq J P xs) {src : List (Option Nat)} {te : TE} {σ : St} {H1 : Hp} {Q : VK} {D : Addr} (ys : List V) (hP : ∀ H', Same H1 H' → P H') (hD : H1 D = none) (hl : ys.length = xs.length) (hlen : xs.length ≤ 100000)
    (step : ∀ (i : Nat) x y H', xs[i]? = some x → ys[i]? = some y → Same H1 H' → ∀ R : VK, (∀ H'', Same H' H'' → R y H'') → te (some x :: capSt src σ) H' R)
    (fin : ∀ H', Same H1 H' → H' D = some (.lst ys) → Q (.ref D) H') : LC (none :: src) J (gName 0) tYes te σ H1 Q D := by
  have h6 : 100000 < sizeLine := by decide
  refine lc_on hJ (fun i zs σ' H' => zs = ys.take i ∧ (∃ o, σ' = o :: capSt src σ) ∧ Same H1 H' ∧ H' D = some (.lst zs)) ⟨by simp, ⟨none, rfl⟩, .upd_new hD _, upd_same⟩ (fun i zs σ' H' p => ⟨hP _ p.2.2.1, p.2.2.2⟩) (gName_mono 0) ?_ ?_
  · rintro i zs σ' H' x hx ⟨rfl, ⟨o, rfl⟩, sm, hd⟩
    have hi := (List.getElem?_eq_some_iff.mp hx).1
    have hy : ys[i]? = some (ys[i]'(by omega)) := List.getElem?_eq_getElem _
    show te (some x :: capSt src σ) H' _
    refine step i x _ H' hx hy sm _ fun H'' s2 => ⟨s2 _ _ hd, ?_, (take_snoc hy).symm, ⟨_, rfl⟩, .upd_over hD (sm.trans s2) _, upd_same⟩
    rw [List.length_take]; omega
  · rintro zs σ' H' ⟨rfl, _, sm, hd⟩
    rw [← hl, List.take_length] at hd
    exact fin H' sm hd
end L2
namespace L2
open PySem PySem.Spec PyProof.Rows
/-! a block cut behind its first statements -/
section
variable {a b c d e r : TS} {D : Ends} {σ : St} {H : Hp} (M : St → Hp → Prop) (h1 : ∀ σ H, M σ H → r D σ H)
include h1
theorem cut1 (h2 : ∀ N : St → Hp → Prop, (∀ σ H, M σ H → N σ H) → a { D with nx := N } σ H) : tSeq a r D σ H := h2 (r D) h1
theorem cut2 (h2 : ∀ N : St → Hp → Prop, (∀ σ H, M σ H → N σ H) → tSeq a b { D with nx := N } σ H) : tSeq a (tSeq b r) D σ H := h2 (r D) h1
theorem cut3 (h2 : ∀ N : St → Hp → Prop, (∀ σ H, M σ H → N σ H) → tSeq a (tSeq b c) { D with nx := N } σ H) : tSeq a (tSeq b (tSeq c r)) D σ H := h2 (r D) h1
end
theorem scal_ii (i j : Int) : scal (.int i) (.int j) = true := rfl
theorem scal_ss (i j : Str) : scal (.str i) (.str j) = true := rfl
theorem cut_list {α : Type} (xs : List α) (i j : Nat) : (xs.drop (min i xs.length)).take (min j xs.length - min i xs.length) = (xs.drop i).take (j - i) := by
  by_cases hi : i ≤ xs.length
  · rw [Nat.min_eq_left hi]
    by_cases hj : j ≤ xs.length
    · rw [Nat.min_eq_left hj]
    · rw [Nat.min_eq_right (by omega), List.take_of_length_le (by rw [List.length_drop]; omega), List.take_of_length_le (by rw [List.length_drop]; omega)]
  · rw [List.drop_of_length_le (by omega), List.drop_of_length_le (show xs.length ≤ i by omega)]
    simp
theorem cutV_nn (xs : List V) (i j : Nat) : cutV xs (some (i : Int)) (some (j : Int)) = (xs.drop i).take (j - i) := by
  unfold cutV
  rw [HT.sIx_nat, HT.sIx_nat]
  exact cut_list xs i j
end L2
namespace L2
open PySem PySem.Spec PyProof.Rows
/-- while, by a word with letters of its own -/
theorem while_of {α : Type} {c : TT} {tb : TS} {D : Ends} {σ : St} {H : Hp} (Pv : α → St → Hp → Prop) (cond : α → Bool) (μ : α → Nat) (a₀ : α) (h0 : Pv a₀ σ H)
    (hc : ∀ a σ H, Pv a σ H → ∀ R : Bool → Hp → Prop, (∀ H', Pv a σ H' → R (cond a) H') → c σ H R)
    (hb : ∀ a σ H, Pv a σ H → cond a = true → tb { D with nx := fun σ' H' => ∃ a', Pv a' σ' H' ∧ μ a' < μ a, ct := fun σ' H' => ∃ a', Pv a' σ' H' ∧ μ a' < μ a, bk := D.nx } σ H)
    (hd : ∀ a σ H, Pv a σ H → cond a = false → D.nx σ H) : tWhile c tb D σ H := by
  refine ⟨fun m σ H => ∃ a, m = μ a ∧ Pv a σ H, ⟨_, a₀, rfl, h0⟩, ?_⟩
  rintro m σ H ⟨a, rfl, p⟩
  refine hc a σ H p _ fun H' p' => ?_
  cases e : cond a with
  | true => exact ⟨_, fun σ' H' ⟨a', q, l⟩ => ⟨_, l, a', rfl, q⟩, hb a σ H' p' e⟩
  | false => exact hd a σ H' p' e
section
variable {X : Cx} {tg : Expr}
def CPowB (i j : Int) : Prop := 0 ≤ j ∧ ∃ m : Nat, i.natAbs < 2 ^ m ∧ (m : Int) * j ≤ 2 ^ 27
/-- hi, hi - 1, .. (n of them) -/
def Itd (hi : Int) (n : Nat) : It := ⟨fun i _ => i < n, fun i H x H' => H' = H ∧ x = .int (hi - i), fun i _ => n ≤ i⟩
def iRngD (ta : TA) : TI := fun σ H R => ta σ H fun vs H1 => ∃ i j : Int, vs = [.int i, .int j, .int (-1)] ∧ (-(2 ^ 62) ≤ i ∧ i < 2 ^ 62 ∧ -(2 ^ 62) ≤ j ∧ j < 2 ^ 62) ∧ R (Itd i (i - j).toNat) H1
end
end L2
namespace L2
open PySem PySem.Spec PyProof.Rows
/-- for over a list that is made on the spot -/
theorem tFor_listN {g : TG} {tb : TS} {D : Ends} {σ : St} {H : Hp} {K : PySem.W.Frag} {tl : TE} {xs : List V} (Pv : Addr → Nat → St → Hp → Prop) (ha : ∀ R : V → Hp → Prop, (∀ c H1, Pv c 0 σ H1 → R (.ref c) H1) → tl σ H R) (hl : ∀ c i σ H, i ≤ xs.length → Pv c i σ H → SqL K H c xs)
    (hs : ∀ c (i : Nat) x σ H, xs[i]? = some x → Pv c i σ H → g x σ H fun σ2 H2 => tb { D with nx := Pv c (i + 1), ct := Pv c (i + 1), bk := D.nx } σ2 H2) (hd : ∀ c σ H, Pv c xs.length σ H → D.nx σ H) : tFor (iList K tl) g tb D σ H := by
  refine ha _ fun c H1 h0 => ⟨c, rfl, ⟨xs, hl c 0 σ H1 (Nat.zero_le _) h0⟩, ?_⟩
  exact for_list (Pv c) h0 (hl c) (hs c) (hd c)
end L2
namespace L2
open PySem PySem.Spec PyProof.Rows
section
variable {src : List (Option Nat)} {te : TE} {σ : St} {H : Hp} {Q : VK}
/-- .. with a test: what it leaves -/
theorem lc_filt {J : It} {P : Hp → Prop} {xs : List V} (hJ : ItSeq J P xs) {tt : TT} {H1 : Hp} {D : Addr} (p : V → Bool) (f : V → V) (hP : ∀ H', Same H1 H' → P H') (hD : H1 D = none) (hlen : xs.length ≤ 100000)
    (test : ∀ x H', x ∈ xs → Same H1 H' → ∀ R : Bool → Hp → Prop, (∀ H'', Same H' H'' → R (p x) H'') → tt (some x :: capSt src σ) H' R)
    (step : ∀ x H', x ∈ xs → p x = true → Same H1 H' → ∀ R : VK, (∀ H'', Same H' H'' → R (f x) H'') → te (some x :: capSt src σ) H' R)
    (fin : ∀ H', Same H1 H' → H' D = some (.lst ((xs.filter p).map f)) → Q (.ref D) H') : LC (none :: src) J (gName 0) tt te σ H1 Q D := by
  have h6 : 100000 < sizeLine := by decide
  refine lc_by hJ (fun i zs σ' H' => zs = ((xs.take i).filter p).map f ∧ (∃ o, σ' = o :: capSt src σ) ∧ Same H1 H' ∧ H' D = some (.lst zs)) ⟨by simp, ⟨none, rfl⟩, .upd_new hD _, upd_same⟩ (fun i zs σ' H' q => ⟨hP _ q.2.2.1, q.2.2.2⟩) ?_ ?_
  · rintro i zs σ' H' x hx ⟨rfl, ⟨o, rfl⟩, sm, hd⟩
    have hi := (List.getElem?_eq_some_iff.mp hx).1
    have hm := List.mem_of_getElem? hx
    show tt (some x :: capSt src σ) H' _
    refine test x H' hm sm _ fun H2 s2 => ?_
    cases e : p x with
    | true =>
      refine iteT ?_
      refine step x H2 hm e (sm.trans s2) _ fun H3 s3 => ⟨s3 _ _ (s2 _ _ hd), ?_, ?_, ⟨_, rfl⟩, .upd_over hD ((sm.trans s2).trans s3) _, upd_same⟩
      · have h7 := List.length_filter_le p (xs.take i)
        rw [List.length_map]
        rw [List.length_take] at h7
        omega
      · rw [take_snoc hx, List.filter_append, List.map_append]
        simp [List.filter, e]
    | false =>
      refine iteF ?_
      refine ⟨?_, ⟨_, rfl⟩, sm.trans s2, s2 _ _ hd⟩
      rw [take_snoc hx, List.filter_append]
      simp [List.filter, e]
  · rintro zs σ' H' ⟨rfl, _, sm, hd⟩
    rw [List.take_length] at hd
    exact fin H' sm hd
theorem tLC_filt {K : PySem.W.Frag} {tl : TE} {tt : TT} {xs : List V} (p : V → Bool) (f : V → V) (ha : ∀ R : V → Hp → Prop, (∀ a H1, Same H H1 → SqL K H1 a xs → R (.ref a) H1) → tl σ H R) (hlen : xs.length ≤ 100000)
    (test : ∀ x H', x ∈ xs → Same H H' → ∀ R : Bool → Hp → Prop, (∀ H'', Same H' H'' → R (p x) H'') → tt (some x :: capSt src σ) H' R)
    (step : ∀ x H', x ∈ xs → p x = true → Same H H' → ∀ R : VK, (∀ H'', Same H' H'' → R (f x) H'') → te (some x :: capSt src σ) H' R)
    (fin : ∀ D H', H D = none → Same H H' → H' D = some (.lst ((xs.filter p).map f)) → Q (.ref D) H') : tLC (none :: src) (iList K tl) (gName 0) tt te σ H Q :=
  ha _ fun a H1 s1 hS => ⟨a, rfl, ⟨xs, hS⟩, fun D hD => lc_filt (itseq_list.imp fun H' (e : Same H1 H') => e.seq hS) p f (fun _ e => e) hD hlen (fun x H' hx sm R r => test x H' hx (s1.trans sm) R r) (fun x H' hx hp sm R r => step x H' hx hp (s1.trans sm) R r) fun H' sm => fin D H' (s1.free hD) (s1.trans sm)⟩
end
end L2
namespace L2
open PySem PySem.Spec PyProof.Rows
section
variable {src : List (Option Nat)} {te : TE} {σ : St} {H : Hp} {Q : VK}
end
/-! the same within a comprehension, whose own block says the text's objects in its own words -/
section
variable {X : Cx} {K : PySem.W.Frag}
end
end L2
namespace L2
open PySem PySem.Spec PyProof.Rows
section
variable {tb : TS} {D : Ends} {σ : St} {H : Hp}
/-- for over the pairs of two lists, which may be made on the spot -/
theorem tFor_zipN {K : PySem.W.Frag} {ta : TA} (i j : Nat) {xs ys : List V} (Pv : Addr → Addr → Nat → St → Hp → Prop) (ha : ∀ R : List V → Hp → Prop, (∀ a b H1, Pv a b 0 σ H1 → R [.ref a, .ref b] H1) → ta σ H R)
    (hl : ∀ a b n σ H, n ≤ min xs.length ys.length → Pv a b n σ H → SqL K H a xs ∧ SqL K H b ys)
    (hs : ∀ a b (n : Nat) x y σ H T, xs[n]? = some x → ys[n]? = some y → Pv a b n σ H → H T = none → tb { D with nx := Pv a b (n + 1), ct := Pv a b (n + 1), bk := D.nx } ((σ.set i (some x)).set j (some y)) (upd H T (.tup [x, y])))
    (hd : ∀ a b σ H, Pv a b (min xs.length ys.length) σ H → D.nx σ H) : tFor (iZipL K ta) (gTup K 2 (gCons (gName i) (gCons (gName j) gNil))) tb D σ H := by
  refine ha _ fun a b H1 h0 => ?_
  obtain ⟨s1, s2⟩ := hl a b 0 σ H1 (Nat.zero_le _) h0
  refine ⟨a, b, xs, ys, rfl, s1, s2, ?_⟩
  refine ⟨fun n m σ H => m = min xs.length ys.length - n ∧ n ≤ min xs.length ys.length ∧ Pv a b n σ H, ⟨min xs.length ys.length, by simp, Nat.zero_le _, h0⟩, ?_⟩
  rintro n m σ H ⟨rfl, hn, p⟩
  obtain ⟨g1, g2⟩ := hl a b n σ H hn p
  by_cases hlt : n < min xs.length ys.length
  · have hx : xs[n]? = some (xs[n]'(by omega)) := List.getElem?_eq_getElem _
    have hy : ys[n]? = some (ys[n]'(by omega)) := List.getElem?_eq_getElem _
    refine .inr ⟨⟨xs, ys, _, _, g1, g2, hx, hy⟩, Pv a b (n + 1), fun σ' H' p' => ⟨min xs.length ys.length - (n + 1), by omega, rfl, hlt, p'⟩, ?_⟩
    rintro v H' ⟨T, rfl, hT, heq⟩
    have e := heq xs ys _ _ g1 g2 hx hy
    subst e
    exact ⟨T, _, rfl, SqT.of upd_same, rfl, _, _, rfl, _, _, rfl, rfl, hs a b n _ _ σ H T hx hy p hT⟩
  · have e : n = min xs.length ys.length := by omega
    subst e
    refine .inl ⟨⟨xs, ys, g1, g2, ?_⟩, hd a b σ H p⟩
    omega
end
end L2
namespace L2
open PySem PySem.Spec PyProof.Rows
section
variable {X : Cx} {e st : Expr} {te ts : TE} {pos p2 : Pos}
/-- xs[::-1] of a list: a new list -/
def tRev (K : PySem.W.Frag) (te ts : TE) : TE := fun σ H Q => te σ H fun x H1 => ts σ H1 fun y H2 => y = .int (-1) ∧ ∃ a xs, x = .ref a ∧ SqL K H2 a xs ∧ ∀ p, H2 p = none → Q (.ref p) (upd H2 p (.lst xs.reverse))
end
end L2
namespace L2
open PySem PySem.Spec PyProof.Rows
section
variable {X : Cx} {pos : Pos}
def rBits : V → List V → Hp → VK → Prop := fun x vs H Q => ∃ i, x = .int i ∧ vs = [] ∧ Q (.int (Builtin.Int.intBits i : Nat)) H
def rFind : V → List V → Hp → VK → Prop := fun x vs H Q => ∃ (z y : Str), x = .str z ∧ vs = [.str y] ∧ Q (.int (Txt.find z y)) H
def tDict0 : TE := fun _ H Q => ∀ p, H p = none → Q (.ref p) (upd H p (.dK []))
end
/-- a tuple of texts of the module's top -/
def Gx.ConT (g : Gx) (x : Str) (xs : List V) : Prop := ∃ c, g.mg x = some (.ref c) ∧ ∀ H, SqT g.K H c xs
section
variable {X : Cx} {g : Gx} {x : Str} {pos : Pos}
def tConT (K : PySem.W.Frag) (xs : List V) : TE := fun _ H Q => ∀ c, SqT K H c xs → Q (.ref c) H
end
end L2
namespace L2
open PySem PySem.Spec PyProof.Rows
theorem iteN {c A B : Prop} [Decidable c] (h : ¬ c) (hb : B) : if c then A else B := by rw [if_neg h]; exact hb
theorem iteY {c A B : Prop} [Decidable c] (h : c) (ha : A) : if c then A else B := by rw [if_pos h]; exact ha
section
variable {src : List (Option Nat)} {te : TE} {σ : St} {H : Hp} {Q : VK}
end
section
variable {X : Cx} {K : PySem.W.Frag} {o e : Expr} {es : List Expr} {to : TE} {t : TA} {name : Str} {apos cpos : Pos} {T id : String} {r : V → List V → Hp → VK → Prop}
end
section
variable {X : Cx}
def CMulC (i j : Int) : Prop := CMulB i j ∨ CMul i j
theorem op_mulC : OpR X (binaryOp .Mult) (rI CMulC fun i j => .int (i * j)) := opI fun _ _ _ _ _ _ _ hc q => mul_int q (hc.elim (fun h => h.ok) fun h => h.ok)
end
end L2
namespace L2
open PySem PySem.Spec PyProof.Rows
abbrev IsZipF (h : Heap) (z TI TO : Addr) (f0 : Value) (f1 : Bool) : Prop :=
  h.get? z = some { cls := .type "zip", dict := none, data := .fields #[f0, .bool f1, .bool false, .ref TI, .ref TO], slots := #[] }
section
variable {prog : Program} {w : World} {A : Around} {E : Value → Shared → Prop} {s : Shared} {z TI TO i1 i2 T : Addr} {S1 S2 : Nat → Heap → Prop} {R1 R2 : Heap → (Nat → Option Value) → Prop} {g1 g2 : Nat → Option Value} {k : Nat} {a b : Value} {f : Bool} {oT : Obj}
end
/-! list(zip(a, b)) of two tuples of one length -/
section
variable {prog : Program} {w : World} {A : Around} {s : Shared} {R : Result → Shared → Prop} {z TI TO i1 i2 S p1 p2 : Addr} {xs ys : List Value}
/-- the zip as it stands at turn i -/
def ZSt (h : Heap) (z TI TO i1 i2 p1 p2 : Addr) (i : Nat) (as : List Addr) : Prop :=
  IsPair h TI (.ref i1) (.ref i2) ∧ h.IsTupleIter i1 p1 i ∧ h.IsTupleIter i2 p2 i ∧ ((i = 0 ∧ IsZip h z TI TO .none ∧ ∃ a b, IsPair h TO a b) ∨ ∃ T f, T ∈ as ∧ IsZipF h z TI TO (rawInt T) f)
end
end L2
namespace L2
open PySem PySem.Calls PySem.Spec PyProof.Rows PyProof.V
section
variable {prog : Program} {w : World} {A : Around} {E : Value → Shared → Prop} {s : Shared} {z TI TO i1 i2 p1 p2 : Addr} {xs ys : List Value}
/-- what the list has at the end -/
structure ZGot (xs ys : List Value) (lo : Nat) (h : Heap) (as : List Addr) : Prop where
  len : as.length = xs.length
  rise : as.Pairwise (· < ·)
  above : ∀ a ∈ as, lo ≤ a
  pairs : ∀ (j : Nat) a x y, as[j]? = some a → xs[j]? = some x → ys[j]? = some y → IsPair h a x y
end
end L2
namespace L2
open PySem PySem.Spec PyProof.Rows
section
variable {X : Cx} {pins : List (Addr × Obj)} {σ : St} {H H' : Hp} {s : Shared} {h' : Heap}
end
section
variable {X : Cx}
/-- list(zip(a, b)) of two tuples of one length -/
def tLZ (K : PySem.W.Frag) (ta : TA) : TE := fun σ H Q => ta σ H fun vs H1 => ∃ a b xs ys, vs = [.ref a, .ref b] ∧ SqT K H1 a xs ∧ SqT K H1 b ys ∧ xs.length = ys.length ∧
  ∀ (l : Addr) (as : List Addr) (H2 : Hp), H1 l = none → Same H1 H2 → H2 l = some (.lst (as.map V.ref)) → as.length = xs.length →
    (∀ (j : Nat) a x y, as[j]? = some a → xs[j]? = some x → ys[j]? = some y → H1 a = none ∧ H2 a = some (.tup [x, y])) → Q (.ref l) H2
end
end L2
namespace L2
open PySem PySem.Spec PyProof.Rows
section
variable {src : List (Option Nat)} {te : TE} {σ : St} {H : Hp} {Q : VK}
end
end L2
namespace L2
open PySem PySem.Spec PyProof.Rows
section
variable {X : Cx}
/-- name = [.. for ..]: stored ahead of the letting go of the block's own names -/
theorem ps_setC {i : Nat} {x : Str} {pos' apos : Pos} {elt tg iter : Expr} {ifs : List Expr} {scope : Scope} {pos : Pos} {src : List (Option Nat)} {N' : List Str} {wi : TI} {g : TG} {tt : TT} {te : TE} (hN : X.N.Nodup) (hix : X.N[i]? = some x) (hlx : Loc X.env.scope x) (hcap : Cap X scope src N') (hc : X.calm = true) (hi : PI X tg iter wi)
    (hg : ∀ cl C s₀ H₀ fp pn, PG (cxC X scope N' cl C s₀ H₀ fp pn) tg g) (ht : ∀ cl C s₀ H₀ fp pn, PTs (cxC X scope N' cl C s₀ H₀ fp pn) ifs tt) (he : ∀ cl C s₀ H₀ fp pn, PE (cxC X scope N' cl C s₀ H₀ fp pn) elt te)
    (hfree : ∀ x, (x, NameKind.free) ∈ scope.names → X.env.scope.names.lookup x = some NameKind.cell ∨ X.env.scope.names.lookup x = some NameKind.free)
    (hk : scope.kind = .function := by rfl) (hcell : ∀ y ∈ scope.names, y.2 ≠ .cell := by decide) (hnames : ∀ y ∈ scope.names, y.2 = .local → scope.names.lookup y.1 = some .local := by decide +kernel)
    (hs : ∀ x, foldedSetIterable iter X.env x = pure x := by intro _; rfl) (hsw : swapsWithSole [.Name x pos'] (.ListComp elt [⟨tg, iter, ifs, 0⟩] scope pos) apos.line X.env = pure true := by rfl) (hf : X.fn x = true ∨ X.env.scope.names.lookup x = some .local := by first | exact .inl rfl | exact .inr rfl | assumption) :
    PS X (.Assign [.Name x pos'] (.ListComp elt [⟨tg, iter, ifs, 0⟩] scope pos) apos) (tAsg (tLC src wi g tt te) (gName i)) := by
  intro pins s σ H D0 I h
  have no : ∀ {E : Value → Shared → Prop}, ∀ (e : Value) (s' : Shared), False → E e s' := fun _ _ f => f.elim
  obtain ⟨cl, hcl, a, b⟩ := closure_ok X.env scope fun x hx => I.ok.has x (hfree x hx)
  rw [exec_Assign_arm]
  refine wpAny_bind (wpAny_standAt ?_)
  rw [hsw]
  refine wpAny_bind (wpAny_pure ?_)
  rw [if_pos rfl]
  refine wpAny_bind ?_
  rw [arm_evalThenUse_ListComp]
  refine wpAny_bind ?_
  refine wpAny_comprehension_free (use := some _) rfl hs hcl hk hnames (thn (hi pins s σ H _ I h) fun v s1 h1 => thn h1 fun itv s2 h2 => ?_)
  obtain ⟨it, fp, tn, J, H2, e, I2, T, st2, f2, q⟩ := h2
  subst e
  have hD : H2 s2.heap.objs.size = none := I2.hok.fresh (Nat.le_refl _)
  obtain ⟨W, ⟨m0, w0⟩, turn⟩ := q s2.heap.objs.size hD
  have I3 := I2.lnew (t' := s2.toks) (ys := []) (its := []) .nil (Nat.zero_le _)
  have fl2 : ∀ b ∈ fp, b < s2.heap.objs.size := fun b hb => by
    obtain ⟨o, e, _⟩ := T.obj _ _ st2 b hb
    exact Heap.lt_size e
  refine wpAny_newObj_type ?_
  generalize es3 : ({ s2 with heap := s2.heap.push { cls := .type "list", dict := none, data := .seq ([] : List Value).toArray } } : Shared) = s3
  have I3' : Inv X pins σ (upd H2 s2.heap.objs.size (.lst [])) s3 := es3 ▸ I3
  have keep3 : ∀ b o, s2.heap.get? b = some o → s3.heap.get? b = some o := fun b o e => by rw [← es3]; exact Heap.get?_push_of_some _ e
  have st3 : tn 0 s3.heap := T.keep _ _ _ st2 fun b _ o e => keep3 b o e
  have fl3 : ∀ b ∈ fp, b < s3.heap.objs.size := fun b hb => by
    obtain ⟨o, e, _⟩ := T.obj _ _ st3 b hb
    exact Heap.lt_size e
  have f3 : ∀ b ∈ fp, FpOk X pins (upd H2 s2.heap.objs.size (.lst [])) b := fun b hb => ⟨by rw [upd_ne (Nat.ne_of_lt (fl2 b hb))]; exact (f2 b hb).1, (f2 b hb).2⟩
  generalize eD : s2.heap.objs.size = D at *
  generalize eH3 : upd H2 D (.lst []) = H3 at *
  refine wpAny_newFunctionEnv hcell (by intro y hy; simp at hy) (fun h₁ hns₁ hsb₁ => ?_) hk
  have keep4 : ∀ b o, s3.heap.get? b = some o → h₁.get? b = some o := fun b o e => hsb₁.extBut b o (Nat.ne_of_lt (Heap.lt_size e)) (Heap.get?_push_of_some _ e)
  have I4 := inv_comp (N' := N') (src := src) (tk := s3.toks + ([] : List (Str × Value)).length) hk hcell hcap a b I3' f3 fl3 rfl keep4 hns₁
  -- the iterator's objects, through the block
  have stat : ∀ {H' : Hp}, (∀ b ∈ fp, H' b = none) → ∀ b ∈ fp, FpOk (cxC X scope N' cl s3.heap.objs.size s3 H3 fp (X.pn ++ pins)) [] H' b := fun hn b' hb => by
    obtain ⟨f0, f1, fs, fe, f4, f5⟩ := f3 b' hb
    refine ⟨hn b' hb, Nat.ne_of_lt (fl3 b' hb), fun z => ?_, .inl hb, fun x c h => f4 x c (a x c h), fun p hp => f5 p (by simpa [cxC] using hp)⟩
    rcases List.mem_cons.mp (I3'.stkSub b' z) with e | e
    · exact f1 e
    · exact fs e
  -- behind the block
  have fin : ∀ {H' : Hp} {s' : Shared} {σ' : St} {pins' : List (Addr × Obj)}, Inv (cxC X scope N' cl s3.heap.objs.size s3 H3 fp (X.pn ++ pins)) pins' σ' H' s' → ∀ h', Heap.SameBut s3.heap.objs.size s'.heap h' → Inv X pins σ H' { s' with heap := h' } := fun {H' s' σ' pins'} J' h' sb => by
    have same : ∀ b o, b ≠ s3.heap.objs.size → s'.heap.get? b = some o → h'.get? b = some o := fun b o hb e => sb.extBut b o hb e
    have u : Un (frs X.stack) fp H3 H' s3.heap s'.heap := J'.base
    refine I3'.call' (s' := { s' with heap := h' }) (ch := fp) J'.os ⟨fun b o e n hb hx => ?_, fun b o e n hb hx => ?_, u.free, fun b o e hx => ?_, u.tups, u.frzs, u.tbls⟩ (fun b o e => ?_) J'.bare fun b hb => ?_
    · exact same b o (Nat.ne_of_lt (Heap.lt_size e)) (u.keep b o e n hb hx)
    · obtain ⟨sl, z⟩ := u.slot b o e n hb hx
      exact ⟨sl, same b _ (Nat.ne_of_lt (Heap.lt_size e)) z⟩
    · obtain ⟨o', z⟩ := u.there b o e hx
      exact ⟨o', same b o' (Nat.ne_of_lt (Heap.lt_size e)) z⟩
    · have nC : ∀ c v, H' c = some v → c ≠ s3.heap.objs.size := fun c v z q => by
        have := J'.free
        rw [show (cxC X scope N' cl s3.heap.objs.size s3 H3 fp (X.pn ++ pins)).env.locals = s3.heap.objs.size from rfl, ← q, z] at this
        cases this
      refine (J'.hok b o e).stay (fun c v hc q => same c v ?_ q) (fun _ q => q) fun _ _ q => q
      rcases hc with z | z
      · rw [z]; exact nC b o e
      · exact nC c _ z
    · obtain ⟨f0, f1, fs, fe, f4, f5⟩ := f3 b hb
      exact ⟨fe, f1, f4, f5⟩
  have loop : codeAny (model X.prog X.w) X.A (.compLoop (.ListComp elt [⟨tg, iter, ifs, 0⟩] scope pos) 0 (.ref it) (.ref D) (compEnvC scope cl s3.heap.objs.size X.env))
      (compPost (model X.prog X.w) X.A X.xe (some fun v => assignAll v ((assignEach [.Name x pos'] X.env).map (·.2))) (fun _ s' => wpAny (model X.prog X.w) X.A (pure PUnit.unit) (fun _ s' => wpAny (model X.prog X.w) X.A (pure Flow.next) (SP X pins D0) X.xe s') X.xe s') (.ref D) s3.heap.objs.size) { s3 with heap := h₁, toks := s3.toks + ([] : List (Str × Value)).length } := by
    refine comp_loop (fun n s' => ∃ i ys σ' H', Inv (cxC X scope N' cl s3.heap.objs.size s3 H3 fp (X.pn ++ pins)) [] σ' H' s' ∧ tn i s'.heap ∧ (∀ b ∈ fp, H' b = none) ∧ W i n ys σ' H') ?_ m0 ⟨0, [], capSt src σ, H3, I4, T.keep _ _ _ st3 fun b _ o e => keep4 b o e, fun b hb => (f3 b hb).1, w0⟩
    rintro n s5 ⟨i, ys, σ5, H5, I5, st5, fr5, w5⟩
    obtain ⟨hDs, stop | go⟩ := turn i n ys σ5 H5 w5
    · obtain ⟨stop, qn⟩ := stop
      refine thn (T.done (cxC X scope N' cl s3.heap.objs.size s3 H3 fp (X.pn ++ pins)) rfl rfl rfl hc i [] s5 σ5 H5 _ I5 (stat fr5) st5 stop) fun r s6 ⟨hr, I6⟩ => ?_
      subst hr
      obtain ⟨m, hn, _⟩ := id I6.loc
      have IO : Inv X pins σ H5 s6 := fin I6 s6.heap (Heap.SameBut.refl _ _)
      have hCn : H5 s3.heap.objs.size = none := I6.free
      have hC : ∀ {H' : Hp}, H' s3.heap.objs.size = none → FpOk X pins H' s3.heap.objs.size := fun {H'} z => I3'.fpOk (Nat.le_refl _) z
      obtain ⟨oC, es, ep, hoC, rC⟩ := hn
      have IP := IO.pinned (fp := [s3.heap.objs.size]) (fun b hb => by rw [List.mem_singleton.mp hb]; exact hC hCn) (fun b hb => by rw [List.mem_singleton.mp hb]; exact ⟨oC, hoC, fun v z => by (rw [rC.1] at z; cases z)⟩)
      show wpAny _ _ (assign (.Name x pos') X.env (.ref D)) _ _ _
      refine thn (pg_name hN hix hlx hf _ s6 σ H5 (.ref D) (.ref D) _ IP rfl qn) fun _ s7 ⟨σ7, H7, I7, q7⟩ => ?_
      obtain ⟨g1, g2, _⟩ := I7.pin (s3.heap.objs.size, oC) (List.mem_append_right _ (List.mem_append_right _ (mem_pinsAt (List.mem_singleton.mpr rfl) hoC)))
      refine ⟨m, ⟨oC, es, ep, g1, rC⟩, fun h' sb => wpAny_pure (wpAny_pure ⟨σ7, H7, ?_, q7⟩)⟩
      exact I7.unpinned.turnedL (t' := s7.toks) (ch := [s3.heap.objs.size]) (fun b o hb e => sb.extBut b o (fun z => hb (by rw [z]; exact List.mem_singleton.mpr rfl)) e) (fun b hb => by rw [List.mem_singleton.mp hb]; exact hC g2)
    · obtain ⟨go, N, hN, step⟩ := go
      refine thn (T.item (cxC X scope N' cl s3.heap.objs.size s3 H3 fp (X.pn ++ pins)) rfl rfl rfl hc i [] s5 σ5 H5 _ I5 (stat fr5) st5 go) fun r s6 ⟨u, hr, h6⟩ => ?_
      subst hr
      refine thn h6 fun _ s7 ⟨x, H7, I7, r7, y7, st7, fr7⟩ => ?_
      have I7' := I7.pinned (stat fr7) (T.obj _ _ st7)
      have again : ∀ {s8 : Shared} {σ8 : St} {H8 : Hp} {ys' : List V}, Inv (cxC X scope N' cl s3.heap.objs.size s3 H3 fp (X.pn ++ pins)) ([] ++ pinsAt fp s7.heap) σ8 H8 s8 → (∃ m', m' < n ∧ W (i + 1) m' ys' σ8 H8) →
          ∃ m, m < n ∧ ∃ i ys σ' H', Inv (cxC X scope N' cl s3.heap.objs.size s3 H3 fp (X.pn ++ pins)) [] σ' H' s8 ∧ tn i s8.heap ∧ (∀ b ∈ fp, H' b = none) ∧ W i m ys σ' H' := fun {s8 σ8 H8 ys'} I8 ⟨m', hm, w8⟩ => by
        refine ⟨m', hm, i + 1, ys', σ8, H8, I8.unpinned, T.keep _ _ _ st7 fun b hb o e => (I8.pin (b, o) (List.mem_append_right _ (List.mem_append_right _ (mem_pinsAt hb e)))).1, fun b hb => ?_, w8⟩
        obtain ⟨o, e, d⟩ := T.obj _ _ st7 b hb
        exact (I8.pin (b, o) (List.mem_append_right _ (List.mem_append_right _ (mem_pinsAt hb e)))).2.1
      refine thn (hg cl _ s3 H3 fp _ _ s7 σ5 H7 x u _ I7' r7 (step x H7 y7)) fun _ s8 ⟨σ8, H8, I8, q8⟩ => ?_
      refine thn (ht cl _ s3 H3 fp _ _ s8 σ8 H8 _ I8 q8) fun ok s9 ⟨H9, I9, q9⟩ => ?_
      cases ok with
      | false => exact again I9 (hN _ _ _ q9)
      | true =>
        rw [if_pos rfl]
        refine thn (he cl _ s3 H3 fp _ _ s9 σ8 H9 _ I9 q9) fun y s10 ⟨yv, H10, I10, r10, q10⟩ => ?_
        obtain ⟨hDy, hlen, w10⟩ := q10
        refine thn (mt_append (X := cxC X scope N' cl s3.heap.objs.size s3 H3 fp (X.pn ++ pins)) _ s10 σ8 H10 (.ref D) [yv] (.ref D) [y] (fun _ H' => H' = upd H10 D (.lst (ys ++ [yv]))) I10 rfl (.cons r10 .nil) ⟨D, ys, yv, rfl, rfl, hDy, hlen, rfl⟩) fun _ s11 ⟨_, H11, I11, _, e11⟩ => ?_
        subst e11
        exact again I11 (hN _ _ _ w10)
  exact codeAny_compStart_list loop (T.self _ 0 _ _ _ (T.keep _ _ _ st3 fun b _ o e => keep4 b o e) loop)
end
end L2
namespace L2
open PySem PySem.Spec PyProof.Rows
/-! ### an exception of the program's own: it flies over B, which is all that stays behind it but the frames -/
structure Fly (P : Program) (w : World) (l : List Env) (H : Hp) (h : Heap) (e : Addr) (cls : Value) (H' : Hp) (h' B : Heap) : Prop where
  fl : ∃ a0, Heap.FlyingW B l e cls a0 h'
  hok : HOk P w H' B
  keep : ∀ b o, h.get? b = some o → H b = none → b ∉ frs l → B.get? b = some o
  slot : ∀ b o, h.get? b = some o → H b = none → b ∈ frs l → ∃ sl, h'.get? b = some { o with slots := sl }
  al : ∀ b o, h.get? b = some o → b ∉ frs l → ∃ o', B.get? b = some o'
  free : ∀ b o, h.get? b = some o → H b = none → H' b = none
  tups : ∀ b xs, H b = some (.tup xs) → H' b = some (.tup xs)
  frzs : ∀ b o u, H b = some (.frz o u) → H' b = some (.frz o u)
  tbls : ∀ b ps, H b = some (.tbl ps) → ∃ more, H' b = some (.tbl (ps ++ more))
section
variable {P : Program} {w : World} {l : List Env} {H H' : Hp} {h h' h'' B : Heap} {e : Addr} {cls : Value}
theorem Fly.un (F : Fly P w l H h e cls H' h' B) (hf : ∀ b ∈ frs l, H b = none) : Un (frs l) [] H H' h h' := by
  obtain ⟨a0, fl⟩ := F.fl
  refine ⟨fun b o q n hb _ => fl.1 b o (F.keep b o q n hb), fun b o q n hb _ => F.slot b o q n hb, fun b o q n _ => F.free b o q n, fun b o q _ => ?_, F.tups, F.frzs, F.tbls⟩
  by_cases hb : b ∈ frs l
  · obtain ⟨sl, z⟩ := F.slot b o q (hf b hb) hb
    exact ⟨_, z⟩
  · obtain ⟨o', z⟩ := F.al b o q hb
    exact ⟨o', fl.1 b o' z⟩
theorem Fly.held (F : Fly P w l H h e cls H' h' B) : HOk P w H' h' := by
  obtain ⟨a0, fl⟩ := F.fl
  exact F.hok.kept fl.1
theorem Fly.on (F : Fly P w l H h e cls H' h' B) (fl : ∃ a0, Heap.FlyingW B l e cls a0 h'') (nf : ∀ b ∈ frs l, ∀ o, h.get? b = some o → ∀ vs, o.data ≠ .fields vs) (sm : h'.UpToSlots h'') : Fly P w l H h e cls H' h'' B :=
  ⟨fl, F.hok, F.keep, fun b o q n hb => by
    obtain ⟨sl, z⟩ := F.slot b o q n hb
    obtain ⟨sl', z'⟩ := sm b _ z (nf b hb o q)
    exact ⟨sl', z'⟩, F.al, F.free, F.tups, F.frzs, F.tbls⟩
end
section
variable {X : Cx} {pins : List (Addr × Obj)} {σ : St} {H H' : Hp} {s s' : Shared} {h' B : Heap} {e : Addr} {cls : Value} {M : Model} {A : Around} {Q : Unit → Shared → Prop} {EE : Value → Shared → Prop}
theorem Inv.notL (I : Inv X pins σ H s) {b : Addr} {o : Obj} (q : X.s₀.heap.get? b = some o) : b ≠ X.env.locals := Nat.ne_of_lt (Nat.lt_of_lt_of_le (Heap.lt_size q) I.ok.above)
theorem Inv.notStk (I : Inv X pins σ H s) (hf : X.env.frame = some X.env.locals) {b : Addr} {o : Obj} (q : X.s₀.heap.get? b = some o) (n : b ∉ X.fs) : b ∉ frs (X.env :: X.outer) := fun z => by
  unfold frs at z
  rw [List.filterMap_cons, hf] at z
  rcases List.mem_cons.mp z with z | z
  · exact I.notL q z
  · exact n z
theorem Inv.inStk (I : Inv X pins σ H s) (hf : X.env.frame = some X.env.locals) {b : Addr} (n : b ∈ X.fs) : b ∈ frs (X.env :: X.outer) := by
  unfold frs
  rw [List.filterMap_cons, hf]
  exact List.mem_cons_of_mem _ n
/-- a new exception leaves the body -/
theorem Inv.leave_made {vs : List Value} (I : Inv X pins σ H s) (hs : X.stack = X.env :: X.outer) (hf : X.env.frame = some X.env.locals) (hex : X.ex = []) (hA : A.frames = some (X.env :: X.outer)) (hm : Heap.MadeExcOf s.heap h' e cls vs)
    (hQ : ∀ h'' B, Fly X.prog X.w X.outer X.H₀ X.s₀.heap e cls H h'' B → Q () { s with heap := h'' }) : wpAny M A (leaving X.env (.ref e)) Q EE { s with heap := h' } := by
  have nx : ∀ b : Addr, b ∉ X.ex := by
    rw [hex]
    intro b z
    cases z
  have st := I.stack
  have sf := I.stkFree
  rw [hs] at st sf
  refine wpAny_leaves_madeW (base := PySem.W.hideAll s.heap (frs (X.env :: X.outer))) (h := s.heap) hA hf (fun b o q => PySem.W.of_hideAll _ q) (PySem.W.funFrames_hide st fun env he a ha => List.mem_filterMap.mpr ⟨env, he, ha⟩) hm fun h'' t x1 x2 x3 x4 => hQ h'' (PySem.W.hideAll s.heap (frs (X.env :: X.outer))) ?_
  refine ⟨⟨_, x1⟩, fun b u q => ?_, fun b o q n nb => PySem.W.hideAll_get _ (I.base.keep b o q n nb (nx b)) (I.notStk hf q nb), fun b o q n hb => ?_, fun b o q nb => ?_, fun b o q n => I.base.free b o q n (nx b), I.base.tups, I.base.frzs, I.base.tbls⟩
  · refine (I.hok b u q).stay (fun c v hc r => PySem.W.hideAll_get _ r fun z => ?_) (fun _ z => z) fun _ _ z => z
    have n := sf c z
    rcases hc with rfl | hc
    · rw [n] at q; cases q
    · rw [n] at hc; cases hc
  · obtain ⟨sl, e1⟩ := I.base.slot b o q n hb (nx b)
    obtain ⟨_, o', e', d⟩ := I.ok.funs.mem hb
    rw [q] at e'
    cases e'
    obtain ⟨sl', e2⟩ := x4 b _ (hm.keeps b _ e1) d
    exact ⟨sl', e2⟩
  · obtain ⟨o', e1⟩ := I.base.there b o q (nx b)
    exact ⟨o', PySem.W.hideAll_get _ e1 (I.notStk hf q nb)⟩
/-- one that a callee let go leaves the body too -/
theorem Inv.leave_on (I : Inv X pins σ H s) (hs : X.stack = X.env :: X.outer) (hf : X.env.frame = some X.env.locals) (hex : X.ex = []) (hA : A.frames = some (X.env :: X.outer)) (F : Fly X.prog X.w X.stack H s.heap e cls H' s'.heap B)
    (hQ : ∀ h'', Fly X.prog X.w X.outer X.H₀ X.s₀.heap e cls H' h'' B → Q () { s' with heap := h'' }) : wpAny M A (leaving X.env (.ref e)) Q EE s' := by
  have nx : ∀ b : Addr, b ∉ X.ex := by
    rw [hex]
    intro b z
    cases z
  rw [hs] at F
  obtain ⟨a0, fl⟩ := F.fl
  refine wpAny_leaves_onW hA hf fl fun h'' x1 x2 => hQ h'' ?_
  refine ⟨⟨_, x1⟩, F.hok, fun b o q n nb => F.keep b o (I.base.keep b o q n nb (nx b)) (I.base.free b o q n (nx b)) (I.notStk hf q nb), fun b o q n hb => ?_, fun b o q nb => ?_, fun b o q n => ?_, fun b xs q => F.tups b xs (I.base.tups b xs q), fun b o u q => F.frzs b o u (I.base.frzs b o u q), fun b ps q => ?_⟩
  · obtain ⟨sl, e1⟩ := I.base.slot b o q n hb (nx b)
    obtain ⟨sl1, e2⟩ := F.slot b _ e1 (I.base.free b o q n (nx b)) (I.inStk hf hb)
    obtain ⟨_, o', e', d⟩ := I.ok.funs.mem hb
    rw [q] at e'
    cases e'
    obtain ⟨sl', e3⟩ := x2 b _ e2 d
    exact ⟨sl', e3⟩
  · obtain ⟨o', e1⟩ := I.base.there b o q (nx b)
    exact F.al b o' e1 (I.notStk hf q nb)
  · obtain ⟨o', e1⟩ := I.base.there b o q (nx b)
    exact F.free b o' e1 (I.base.free b o q n (nx b))
  · obtain ⟨m1, e1⟩ := I.base.tbls b ps q
    obtain ⟨m2, e2⟩ := F.tbls b _ e1
    exact ⟨m1 ++ m2, by rw [e2, Array.append_assoc]⟩
end
/-- how an exception lies behind a call -/
def CXF (P : Program) (w : World) : CXT := fun l H s E e s' => ∃ (a : Addr) (cls : Value) (H' : Hp) (B : Heap), e = .ref a ∧ s'.os = s.os ∧ AllBare s'.gens ∧ Fly P w l H s.heap a cls H' s'.heap B ∧ E cls none H'
/-- a body from which exceptions may go -/
abbrev Gx.cxX (g : Gx) (N : List Str) (qual : Str) (st : Stmt) (f : Addr) (cdv : Value) (A : Around) (outer : List Env) (s : Shared) (H : Hp) (E : XK) : Cx := cxOf (CXF g.P g.w) g.P g.w g.K g.mg g.base N qual (defScope st) f cdv A outer s H E
section
variable {g : Gx} {N : List Str} {qual : Str} {st : Stmt} {f : Addr} {cdv : Value} {A : Around} {outer : List Env} {s : Shared} {H : Hp} {E : XK}
theorem passF : Passes (CXF g.P g.w) (g.cxX N qual st f cdv A outer s H E) E := by
  intro pins σ H1 s1 e s' I hq
  obtain ⟨a, cls, H', B, he, os, bare, F, q⟩ := hq
  subst he
  exact I.leave_on rfl rfl rfl I.ok.frames F fun h'' F' => ⟨a, cls, H', B, rfl, os.trans I.os, bare, F', q⟩
/-- what a raise asks -/
def Raises (X : Cx) (E : XK) : Prop := ∀ (pins : List (Addr × Obj)) (σ : St) (H : Hp) (s : Shared) (h' : Heap) (e : Addr) (cls : Value) (vs : List Value), Inv X pins σ H s → Heap.MadeExcOf s.heap h' e cls vs → E cls none H → X.xe (.ref e) { s with heap := h' }
theorem raiseF : Raises (g.cxX N qual st f cdv A outer s H E) E := by
  intro pins σ H1 s1 h' e cls vs I hm q
  exact I.leave_made rfl rfl rfl I.ok.frames hm fun h'' B F => ⟨e, cls, H1, B, rfl, I.os, I.bare, F, q⟩
end
def Gx.FnX (g : Gx) (k : Nat) (x : Str) (ps : List Str) (sp : Sp) : Prop := ∃ f fd, FnOk g.P g.w g.K g.mg g.base (CXF g.P g.w) k f fd ps sp ∧ Binds g.K fd ps [] ∧ PySem.W.keepIn g.K (.ref f) = true ∧ g.mg x = some (.ref f)
def BodyX (g : Gx) (k : Nat) (N : List Str) (qual : Str) (st : Stmt) (sp : Sp) : Prop := ∀ (f : Addr) (cdv : Value) (A : Around) (outer : List Env) (s : Shared) (H : Hp) (vs : List V) (Q : VK) (E : XK), Room k (g.cxX N qual st f cdv A outer s H E).A → sp vs H Q E →
  ∃ t, PSs (g.cxX N qual st f cdv A outer s H E) (defBody st) t ∧ t { nx := fun _ H' => Q .non H', rt := Q } (start N vs) H
section
variable {g : Gx} {k : Nat} {x qual m : Str} {st : Stmt} {N ps : List Str} {sp : Sp} {C : Addr}
theorem Gx.Raw.fnX (R : g.Raw x qual st ps) (S : FnScope N ps (defScope st)) (len : ∀ vs H Q E, sp vs H Q E → vs.length = ps.length) (b : BodyX g k N qual st sp) : g.FnX (k + 1) x ps sp := by
  obtain ⟨f, fd, F, bd, hm⟩ := R
  refine ⟨f, fd, ?_, bd, F.kp, hm⟩
  obtain ⟨oc, od, kV, doc, pm, an, cdv, ct, osl, rfl, lk, hcd⟩ := F.ex
  exact fn_of lk hcd S len fun A outer s H vs Q E hr h => b f cdv A outer s H vs Q E hr h
theorem Gx.FnX.mono {j : Nat} (F : g.FnX j x ps sp) (h : j ≤ k) : g.FnX k x ps sp := by
  obtain ⟨f, fd, F, r⟩ := F
  exact ⟨f, fd, F.mono h, r⟩
end
section
variable {g : Gx} {X : Cx} {k j : Nat} {x : Str} {ps : List Str} {sp : Sp} {E : XK} {e : Expr} {es : List Expr} {t : TA} {p pos cpos np : Pos}
/-- f(e, ..), f may raise: what it raises goes on -/
theorem pe_fnX (F : g.FnX j x ps sp) (hr : Room k X.A) (hp : Passes (CXF g.P g.w) X E) (ha : PA X (e :: es) t) (hj : j ≤ k := by omega) (hX : X.gx = g := by rfl) (hg : Gl X x := by rfl) (hdb : (x == ("__debug__" : Str)) = false := by decide)
    (he : starEach (e :: es) X.env = (false, eval e X.env) :: starEach es X.env := by rfl) (hpl : (backTo pos (starEach es X.env)).any (·.1) = false := by rfl) : PE X (.Call (.Name x p) (e :: es) [] pos) (tCall sp [] E t) := by
  subst hX
  obtain ⟨f, fd, F, b, kp, hm⟩ := F
  exact pe_call F (hr.mono hj) hg hm kp b .nil hp ha hdb he hpl
theorem PS.nox {st : Stmt} {t : TS} (h : PS X.nox st t) : PS X st t := fun pins s σ H D I hw =>
  wpAny_mono (h pins s σ H D (I.wish _) hw) (fun _ _ q => q.unwish) fun _ _ z => False.elim z
/-- the built-in line that our classes stand in -/
abbrev veLine : List Value := [.type "ValueError", .type "Exception", .type "BaseException", .type "object"]
/-- an exception class of the text, without an __init__ of its own -/
structure Gx.Exc (g : Gx) (x : Str) (C : Addr) : Prop where
  bound : g.mg x = some (.ref C)
  own : PySem.W.excIn g.K C veLine "ValueError.__new__" = true
theorem exc_obj {K : PySem.W.Frag} {h : Heap} {C : Addr} {tl : List Value} {nw : String} (In : K.In h) (q : PySem.W.excIn K C tl nw = true) :
    ∃ (bm : List Value) (ns : Addr) (nm qn : Str) (bs : List Value) (hd : Bool) (sn : List Str) (sub : List Value) (ab : Bool) (col : Option Bool) (dd : Option Addr) (k0 k1 k2 k3 k5 : Option Value) (mN : Str → Option Value),
      h.get? C = some (excClassObj nm qn C ns bs bm hd sn sub ab col dd k0 k1 k2 k3 k5 nw) ∧ h.Ns ns mN ∧ mN "__init__" = none ∧ OwnTail h tl bm := by
  unfold PySem.W.excIn at q
  split at q
  case h_2 => exact absurd q (by decide)
  case h_1 dd cd sl lk =>
    split at q
    case h_2 => exact absurd q (by decide)
    case h_1 c2 bm k0 k1 k2 k3 n k5 em es =>
      simp only [beq_iff_eq, Bool.and_eq_true, Bool.not_eq_true'] at q
      obtain ⟨⟨⟨⟨⟨q1, q2⟩, q3⟩, q4⟩, q5⟩, q6⟩ := q
      obtain ⟨nm, bs, mro, ns, qn, hd, sn, sub, ab, col, del⟩ := cd
      obtain ⟨lst⟩ := sl
      dsimp only at em q3 q5 q6 es
      subst q1 q2 em q3 es
      exact ⟨bm, ns, nm, qn, bs, hd, sn, sub, ab, col, dd, k0, k1, k2, k3, k5, _, In _ _ lk, .of_isNs (PySem.W.isNs_of_in In q5), PySem.W.nsMap_none_of_in In q5 q6, PySem.W.tail_of_in In q4⟩
def tRaise (C : Addr) (E : XK) (t : TA) : TS := fun _ σ H => t σ H fun vs H1 => vs.length ≤ sizeLine ∧ E (.ref C) none H1
/-- raise C(e, ..) -/
theorem ps_raise {C : Addr} (hC : g.Exc x C) (hR : Raises X E) (ha : PA X (e :: es) t) (hc : X.calm = true := by rfl) (hX : X.gx = g := by rfl) (hg : Gl X x := by rfl) (hdb : (x == ("__debug__" : Str)) = false := by decide)
    (he : starEach (e :: es) X.env = (false, eval e X.env) :: starEach es X.env := by rfl) (hpl : (backTo cpos (starEach es X.env)).any (·.1) = false := by rfl) :
    PS X (.Raise (some (.Call (.Name x np) (e :: es) [] cpos)) none pos) (tRaise C E t) := by
  subst hX
  intro pins s σ H D I h
  obtain ⟨bm, ns, nm, qn, bs, hd, sn, sub, ab, col, dd, k0, k1, k2, k3, k5, mN, hO, hN, hni, T⟩ := exc_obj I.mod.kin hC.own
  refine wpAny_Raise_call_subT (C := C) (nm := nm) (q := qn) (N := ns) (bs := bs) (bm := bm) (hdct := hd) (sn := sn) (sub := sub) (ab := ab) (col := col) (dd := dd) (k0 := k0) (k1 := k1) (k2 := k2) (k3 := k3) (k5 := k5)
    F.excBase_ValueError (mN := mN) (T.hasType F.excBase_ValueError.hasBase) (I.ok.hd hc) ?_ hni (ld_glob I hg hC.bound ⟨rfl, ?_⟩ hdb)
  · rw [he]
    show (false || (backTo cpos (starEach es X.env)).any (·.1)) = false
    rw [hpl]; rfl
  · have a1 := ha cpos pins s σ H _ I h
    rw [he] at a1 ⊢
    refine Calls.evalArgs_plain (wpAny_mono a1 (fun us s2 hz => ?_) fun _ _ y => y)
    obtain ⟨vs, H2, I2, r, q1, q2⟩ := hz
    exact ⟨rfl, by rw [← r.length]; exact q1, I2.bk _ _ hO, hN.keeps I2.bk, T.keeps I2.bk, fun h' e hm => hR pins σ H2 s2 h' e _ us I2 hm q2⟩
end
/-! ### try: x = f(..) except C: suite -/
abbrev Cx.caught (X : Cx) (e : Addr) : Cx := { X with A := X.A.mark (some (.ref e)), calm := false, xe := fun _ _ => False }
section
variable {X : Cx} {pins : List (Addr × Obj)} {σ : St} {H H' H1 : Hp} {s s1 s' : Shared} {e : Value} {D : Ends} {ts : TS} {b₀ : Stmt} {suite : List Stmt} {c : Str} {cv : Value} {cp hpos : Pos}
theorem Inv.caught (I : Inv X pins σ H s) (a : Addr) : Inv (X.caught a) pins σ H s :=
  ⟨⟨I.ok.mod, I.ok.kind, I.ok.glob, I.ok.blt, I.ok.above, I.ok.inj, I.ok.has, I.ok.cab, fun z => (by cases z), I.ok.frames, I.ok.stk, I.ok.exf, I.ok.bs, I.ok.bsz, I.ok.noex, I.ok.exfs, I.ok.funs, I.ok.frf⟩, I.os, I.bare, I.base, I.loc, I.cell, I.free, I.freeC, I.pin, I.hok, I.len⟩
theorem Inv.uncaught {a : Addr} (hd : X.calm = true → X.A.handled = none) (I : Inv (X.caught a) pins σ H s) : Inv X pins σ H s :=
  ⟨⟨I.ok.mod, I.ok.kind, I.ok.glob, I.ok.blt, I.ok.above, I.ok.inj, I.ok.has, I.ok.cab, hd, I.ok.frames, I.ok.stk, I.ok.exf, I.ok.bs, I.ok.bsz, I.ok.noex, I.ok.exfs, I.ok.funs, I.ok.frf⟩, I.os, I.bare, I.base, I.loc, I.cell, I.free, I.freeC, I.pin, I.hok, I.len⟩
/-- a flying exception, seen from the body that called: the body's state -/
theorem Inv.seen {a : Addr} {cls : Value} {B : Heap} (I : Inv X pins σ H1 s1) (F : Fly X.prog X.w X.stack H1 s1.heap a cls H' s'.heap B) (os : s'.os = s1.os) (bare : AllBare s'.gens) : Inv X pins σ H' s' :=
  I.call' (ch := []) os (F.un I.stkFree) F.held bare fun b z => nomatch z
theorem Inv.stkData (I : Inv X pins σ H1 s1) : ∀ b ∈ frs X.stack, ∀ o, s1.heap.get? b = some o → ∀ vs, o.data ≠ .fields vs := fun b hb o q => by
  obtain ⟨_, o', e', d⟩ := I.stack.mem hb
  rw [q] at e'
  cases e'
  exact d
end
def tTry (K : PySem.W.Frag) (cv : Value) (sp : Sp) (t : TA) (i : Nat) (ts : TS) : TS := fun D σ H => t σ H fun vs H1 => sp (vs ++ []) H1 (fun v H2 => D.nx (σ.set i (some v)) H2) (fun cls _ H2 => PySem.W.exmOne K cls cv = some true ∧ ts D σ H2)
section
variable {g : Gx} {X : Cx} {k j i : Nat} {x f c : Str} {ps : List Str} {sp : Sp} {e : Expr} {es : List Expr} {t : TA} {ts : TS} {b₀ : Stmt} {suite : List Stmt} {cv : Value} {fp px cp hpos apos cpos pos : Pos}
end
end L2
namespace L2
open PySem PySem.Spec PyProof.Rows
/-! ### enumerate, over a tuple, or from a number on -/
def Ite' (k : Nat) (G : Hp → List V → Prop) : It :=
  ⟨fun i H => ∃ xs x, G H xs ∧ xs[i]? = some x, fun i H v H' => ∃ T, v = .ref T ∧ H T = none ∧ ∀ xs x, G H xs → xs[i]? = some x → H' = upd H T (.tup [.int ((i + k : Nat) : Int), x]), fun i H => ∃ xs, G H xs ∧ xs.length = i⟩
section
variable {prog : Program} {w : World} {A : Around} {E : Value → Shared → Prop} {s : Shared}
open AutoSeq1 (wpAny_loadPart') in
end
section
variable {X : Cx} {elts : List Expr} {kk : Nat} {tpos : Pos}
def iEnumT (K : PySem.W.Frag) (ta : TA) : TI := fun σ H R => ta σ H fun vs H1 => ∃ a xs, vs = [.ref a] ∧ SqT K H1 a xs ∧ R (Ite' 0 fun H xs => SqT K H a xs) H1
end
/-! ### loops over it -/
section
variable {g : TG} {tb : TS} {D : Ends} {σ : St} {H : Hp}
end
end L2
namespace L2
open PySem PySem.Spec PyProof.Rows
/-! ### enumerate(xs, start=1) -/
section
variable {prog : Program} {w : World} {A : Around} {E : Value → Shared → Prop} {s : Shared}
open AutoSeq1 (wpAny_loadPart') in
end
end L2
namespace L2
open PySem PySem.Spec PyProof.Rows
section
variable {X : Cx} {elts : List Expr} {kk : Nat} {tpos : Pos}
def iEnum1 (K : PySem.W.Frag) (ta : TA) : TI := fun σ H R => ta σ H fun vs H1 => ∃ a xs, vs = [.ref a] ∧ SqL K H1 a xs ∧ R (Ite' 1 fun H xs => SqL K H a xs) H1
end
section
variable {g : TG} {tb : TS} {D : Ends} {σ : St} {H : Hp}
end
/-! ### range(a, b, c), c above 0 -/
section
variable {X : Cx} {tg : Expr}
/-- lo, lo + c, .., n of them -/
def Itu (lo c : Int) (n : Nat) : It := ⟨fun i _ => i < n, fun i H v H' => v = .int (lo + i * c) ∧ H' = H, fun i _ => n ≤ i⟩
def iRngU (ta : TA) : TI := fun σ H R => ta σ H fun vs H1 => ∃ i j c : Int, vs = [.int i, .int j, .int c] ∧ (-(2 ^ 60) ≤ i ∧ i < 2 ^ 60 ∧ -(2 ^ 60) ≤ j ∧ j < 2 ^ 60 ∧ 0 < c ∧ c < 2 ^ 29) ∧ R (Itu i c (Builtin.Range.rangeSize i j c).toNat) H1
end
end L2
namespace L2
open PySem PySem.Spec PyProof.Rows
/-! ### an exception that was caught by a name: a thing of the heap -/
def ExcO (a : Addr) (cls : Value) : HO := .ext fun h => ∃ o vs, h.get? a = some o ∧ o.cls = cls ∧ o.data = .fields vs
section
variable {P : Program} {w : World} {l : List Env} {H H' : Hp} {h h' h'' B : Heap} {a e : Addr} {cls : Value} {o : HO}
theorem ObjOk.alive (x : ObjOk P w H h a o) : ∃ u, h.get? a = some u := by
  cases o with
  | lst xs => obtain ⟨_, _, _, _, e⟩ := x; exact ⟨_, e⟩
  | tup xs => obtain ⟨_, _, _, u, e, _⟩ := x; exact ⟨_, e⟩
  | dK kvs => obtain ⟨_, _, _, _, o, _, _, e, _⟩ := x; exact ⟨_, e⟩
  | dT kvs => obtain ⟨_, _, _, _, o, _, _, e, _⟩ := x; exact ⟨_, e⟩
  | set S n => obtain ⟨o, _, _, _, e, _⟩ := x; exact ⟨_, e⟩
  | ins C dx fs => obtain ⟨_, _, _, e, _⟩ := x; exact ⟨_, e⟩
  | own y => exact x
  | xd fs => obtain ⟨_, ⟨_, _, _, e, _⟩, _⟩ := x; exact ⟨_, e⟩
  | rng lo hi => obtain ⟨_, _, _, e⟩ := x; exact ⟨_, e⟩
  | frz ob u => obtain ⟨e, _⟩ := x; exact ⟨_, e⟩
  | tbl ps => exact ⟨_, (show h.get? a = some _ from x)⟩
  | met f y => exact ⟨_, (show h.get? a = some _ from x)⟩
  | ext φ => exact x.2.1
theorem Fly.new (F : Fly P w l H h e cls H' h' B) (hf : ∀ b ∈ frs l, H b = none) (nf : ∀ b ∈ frs l, ∀ o, h.get? b = some o → ∀ vs, o.data ≠ .fields vs) : h.get? e = none := by
  obtain ⟨a0, fl⟩ := F.fl
  cases q : h.get? e with
  | none => rfl
  | some o =>
    by_cases hb : e ∈ frs l
    · obtain ⟨sl, z⟩ := F.slot e o q (hf e hb) hb
      obtain ⟨oe, vs, z', _, d, _⟩ := fl.first
      rw [z] at z'
      cases z'
      exact absurd d (nf e hb o q vs)
    · obtain ⟨o', z⟩ := F.al e o q hb
      rw [fl.2.1] at z
      cases z
theorem Fly.out (F : Fly P w l H h e cls H' h' B) : H' e = none := by
  obtain ⟨a0, fl⟩ := F.fl
  cases q : H' e with
  | none => rfl
  | some u =>
    obtain ⟨o, z⟩ := (F.hok e u q).alive
    rw [fl.2.1] at z
    cases z
theorem Fly.track (F : Fly P w l H h e cls H' h' B) (hf : ∀ b ∈ frs l, H b = none) (nf : ∀ b ∈ frs l, ∀ o, h.get? b = some o → ∀ vs, o.data ≠ .fields vs) :
    Un (frs l) [] H (upd H' e (ExcO e cls)) h h' ∧ HOk P w (upd H' e (ExcO e cls)) h' := by
  have n1 := F.new hf nf
  have n2 := F.out
  have u := F.un hf
  have ok := F.held
  obtain ⟨a0, fl⟩ := F.fl
  refine ⟨⟨u.keep, u.slot, fun b o q n hx => ?_, u.there, fun b xs q => ?_, fun b o x q => ?_, fun b ps q => ?_⟩, fun b x q => ?_⟩
  · rw [upd_ne (fun z => by rw [z, n1] at q; cases q)]
    exact u.free b o q n hx
  · rw [upd_ne (ne_of_none (u.tups b xs q) n2)]
    exact u.tups b xs q
  · rw [upd_ne (ne_of_none (u.frzs b o x q) n2)]
    exact u.frzs b o x q
  · obtain ⟨m, z⟩ := u.tbls b ps q
    exact ⟨m, by rw [upd_ne (ne_of_none z n2)]; exact z⟩
  · by_cases hb : b = e
    · subst hb
      rw [upd_same] at q
      cases q
      obtain ⟨oe, vs, z1, z2, z3, _⟩ := fl.first
      exact ⟨⟨oe, vs, z1, z2, z3⟩, ⟨oe, z1⟩, fun h1 h2 p k => by obtain ⟨o, vs, y1, y2, y3⟩ := p; exact ⟨o, vs, k o y1, y2, y3⟩⟩
    · rw [upd_ne hb] at q
      exact (ok b x q).stay (fun c v _ r => r) (fun c r => by rw [upd_ne (ne_of_none r n2)]; exact r) fun c xs r => by rw [upd_ne (ne_of_none r n2)]; exact r
end
section
variable {X : Cx} {pins : List (Addr × Obj)} {σ : St} {H H' H1 : Hp} {s s1 s' : Shared}
/-- the name of an except clause is let go -/
theorem goes_ok {M : Model} {A : Around} {E : Value → Shared → Prop} {j : Nat} {n : Str} {pos : Pos} {Q : Unit → Shared → Prop} (I : Inv X pins σ H s) (hN : X.N.Nodup) (hj : X.N[j]? = some n) (hk : X.env.scope.names.lookup n = some .local)
    (h : ∀ s', Inv X pins (σ.set j none) H s' → Q () s') : wpAny M A (do bindName X.env n .none; unbindBehindTheSuite X.env n pos) Q E s := by
  obtain ⟨m, hn, hl⟩ := id I.loc
  have hcls : (X.env.scope.kind == .class || (X.env.scope.kind == .module && X.env.locals != X.env.globals)) = false := by rw [I.ok.kind]; rfl
  have cne := I.cne
  have tracked : ∀ {a : Addr} {h' : Heap}, (∃ o, s.heap.get? a = some o ∧ H a = none) → Heap.SameBut a s.heap h' → HOk X.prog X.w H h' := fun {a h'} ha hs b ob e => by
    obtain ⟨_, _, hfree⟩ := ha
    refine (I.hok b ob e).stay (fun c w' hc q => (hs.2 c ?_).trans q) (fun _ q => q) fun _ _ q => q
    rintro rfl
    rcases hc with rfl | hc
    · rw [hfree] at e; cases e
    · rw [hfree] at hc; cases hc
  refine wpAny_nameGoes_keeps hk hn hcls fun h' v hn' hs => ?_
  obtain ⟨oL, _, _, hoL, _⟩ := id hn
  refine h _ ⟨I.ok, I.os, I.bare, ⟨fun b o e n hb hx => ?_, fun b o e n hb hx => ?_, I.base.free, fun b o e hx => ?_, I.base.tups, I.base.frzs, I.base.tbls⟩, ⟨_, hn', fun i y v' e1 e2 e3 => ?_⟩, fun y c e => ?_, I.free, I.freeC, fun p hp => ?_, tracked ⟨oL, hoL, I.free⟩ hs, by simpa using I.len⟩
  · exact (hs.2 b (I.notL e)).trans (I.base.keep b o e n hb hx)
  · obtain ⟨sl, e1⟩ := I.base.slot b o e n hb hx
    exact ⟨sl, (hs.2 b (I.notL e)).trans e1⟩
  · obtain ⟨o', e1⟩ := I.base.there b o e hx
    exact ⟨o', (hs.2 b (I.notL e)).trans e1⟩
  · by_cases hji : i = j
    · subst hji
      rw [List.getElem?_set] at e2
      split at e2
      · split at e2 <;> cases e2
      · rename_i z; exact absurd rfl z
    · rw [List.getElem?_set_ne (Ne.symm hji)] at e2
      obtain ⟨u', r', q⟩ := hl i y v' e1 e2 e3
      refine ⟨u', r', ?_⟩
      rcases q with ⟨k, e⟩ | ⟨k, c, e, z⟩
      · refine .inl ⟨k, ?_⟩
        have : y ≠ n := fun e => hji (nodup_ix hN e1 (e ▸ hj))
        simp [this, e]
      · exact .inr ⟨k, c, e, z.sameBut hs (cne y c e)⟩
  · obtain ⟨w', z⟩ := I.cell y c e
    exact ⟨w', z.sameBut hs (cne y c e)⟩
  · obtain ⟨e, n, ne, nf, d⟩ := I.pin p hp
    exact ⟨(hs.2 p.1 ne).trans e, n, ne, nf, d⟩
end
/-- behind an except clause by a name: the name stands for nothing -/
def Ends.gone (D : Ends) (j : Nat) : Ends := { nx := fun σ H => D.nx (σ.set j none) H, rt := D.rt, bk := fun σ H => D.bk (σ.set j none) H, ct := fun σ H => D.ct (σ.set j none) H }
section
variable {X : Cx} {pins : List (Addr × Obj)} {σ : St} {H H' H1 : Hp} {s s1 s' : Shared} {e : Value} {D : Ends} {ts : TS} {b₀ : Stmt} {suite : List Stmt} {c n : Str} {cv : Value} {cp hpos : Pos} {j : Nat}
theorem Inv.catchAs (I : Inv X pins σ H1 s1) (hs : X.stack = X.env :: X.outer) (hf : X.env.frame = some X.env.locals) (hN : X.N.Nodup) (hj : X.N[j]? = some n) (hk : X.env.scope.names.lookup n = some .local)
    (hq : CXF X.prog X.w X.stack H1 s1 (fun cls _ H2 => PySem.W.exmOne X.K cls cv = some true ∧ ∀ a, H2 a = none → ts (D.gone j) (σ.set j (some (.ref a))) (upd H2 a (ExcO a cls))) e s')
    (hsu : ∀ a, PSs (X.caught a) (b₀ :: suite) ts) (hc : Gl X c) (hcm : X.mg c = some cv) (hdb : (c == ("__debug__" : Str)) = false) :
    wpAny (model X.prog X.w) X.A (noteFrame e X.env) (fun _ s₂ => wpAny (model X.prog X.w) X.A (setFlight e none) (fun _ s₃ => wpAny (model X.prog X.w) X.A (handleBy e X.env [.ExceptHandler (some (.Name c cp)) (some n) (b₀ :: suite) hpos]) (SP X pins D) X.xe s₃) X.xe s₂) X.xe s' := by
  obtain ⟨a, cls, H2, B, rfl, os, bare, F, hm, ht⟩ := hq
  obtain ⟨a0, fl⟩ := F.fl
  have nf := I.stkData
  have fl' := fl
  rw [hs] at fl'
  have hfr := I.ok.frames
  rw [hs] at hfr
  refine wpAny_looks_onW hfr hf fl' fun h₄ held sm4 => wpAny_landsW held fun h₅ fl5 sm5 => ?_
  rw [← hs] at fl5
  have F5 := F.on ⟨a0, fl5⟩ nf (sm4.trans sm5)
  have I5 : Inv X pins σ H2 { s' with heap := h₅ } := I.seen (s' := { s' with heap := h₅ }) F5 os bare
  have I5c := I5.caught a
  refine wpAny_handleBy_cons (codeAny_handlers_test (ld_glob I5c hc hcm ?_ hdb)) (by intro q; cases q)
  obtain ⟨ob, hob, hcl⟩ := fl5.there
  have LT : PySem.W.Looks (model X.prog X.w) h₅ (typeOf (.ref a)) cls := by
    subst hcl
    exact (PySem.W.Looks.ld hob).andThen .now
  refine PySem.W.exm_one (K := X.K) (h := h₅) I5.kIn LT hm _ _ _ _ (fun _ _ z => z) ?_
  refine codeAny_handlers_suite_as ?_
  refine lands_againW fl5 fun h₆ fl6 sm6 => ?_
  have F6 := F5.on ⟨a0, fl6⟩ nf sm6
  obtain ⟨u6, ok6⟩ := F6.track I.stkFree nf
  have I6 : Inv X pins σ (upd H2 a (ExcO a cls)) { s' with heap := h₆ } := I.call' (s' := { s' with heap := h₆ }) (ch := []) os u6 ok6 bare fun b z => nomatch z
  have I6c := I6.caught a
  refine store_ok (X := X.caught a) I6c hN hj (.inl hk) (v := .ref a) rfl (fun s7 I7 => ?_) (.inr hk)
  refine wpAny_mono (hsu a pins _ _ _ (D.gone j) I7 (ht a F6.out)) (fun f s8 z => ?_) fun _ _ z => z.elim
  have key : ∀ {σ' : St} {H' : Hp} {Q : St → Hp → Prop}, Inv (X.caught a) pins σ' H' s8 → Q (σ'.set j none) H' → ∀ {R : Unit → Shared → Prop}, (∀ s9, Inv X pins (σ'.set j none) H' s9 → R () s9) → wpAny (model X.prog X.w) X.A (do bindName X.env n .none; unbindBehindTheSuite X.env n hpos) R X.xe s8 :=
    fun {σ' H' Q} J _ {R} hR => goes_ok (J.uncaught I.ok.hd) hN hj hk hR
  cases f with
  | next => obtain ⟨σ', H', J, q⟩ := z; exact key (Q := fun _ _ => True) J trivial fun s9 J9 => ⟨_, _, J9, q⟩
  | brk => obtain ⟨σ', H', J, q⟩ := z; exact key (Q := fun _ _ => True) J trivial fun s9 J9 => ⟨_, _, J9, q⟩
  | cont => obtain ⟨σ', H', J, q⟩ := z; exact key (Q := fun _ _ => True) J trivial fun s9 J9 => ⟨_, _, J9, q⟩
  | ret u => obtain ⟨v, σ', H', J, r, q⟩ := z; exact key (Q := fun _ _ => True) J trivial fun s9 J9 => ⟨v, _, _, J9, r, q⟩
end
end L2
namespace L2
open PySem PySem.Spec PyProof.Rows
/-! ### try by a name; a def that is called within an except suite -/
def tTryAs (K : PySem.W.Frag) (cv : Value) (sp : Sp) (t : TA) (i j : Nat) (ts : TS) : TS := fun D σ H => t σ H fun vs H1 => sp (vs ++ []) H1 (fun v H2 => D.nx (σ.set i (some v)) H2) (fun cls _ H2 => PySem.W.exmOne K cls cv = some true ∧ ∀ a, H2 a = none → ts (D.gone j) (σ.set j (some (.ref a))) (upd H2 a (ExcO a cls)))
section
variable {g : Gx} {X : Cx} {k jj i j : Nat} {x f c n : Str} {ps : List Str} {sp : Sp} {e : Expr} {es : List Expr} {t : TA} {ts : TS} {b₀ : Stmt} {suite : List Stmt} {cv : Value} {fp px cp hpos apos cpos pos : Pos}
end
/-- room, whatever is handled -/
structure RoomM (k : Nat) (A : Around) : Prop where
  dp : A.depth + 3 * k + 5 < recursionLimit
  un : A.units + 16 * k + 200 < cLine
structure FnOkM (P : Program) (w : World) (K : PySem.W.Frag) (mg : Str → Option Value) (base : Heap) (k : Nat) (f : Addr) (fd : FuncData) (ps : List Str) (sp : Sp) : Prop where
  len : ∀ vs H Q E, sp vs H Q E → vs.length = ps.length
  run : ∀ (A : Around) (outer : List Env) (s : Shared) (H : Hp) (args : Args) (us : List Value) (vs : List V) (Q : VK) (E : XK), RoomM k A → Env0 P w K mg base A outer s H → BindsTo s fd args (ps.zip us) → Vals vs us → sp vs H Q E →
    codeAny (model P w) A (.call (.ref f) args) (CR CX0 outer P w H s Q E) s
def Gx.FnM (g : Gx) (k : Nat) (x : Str) (ps : List Str) (sp : Sp) : Prop := ∃ f fd, FnOkM g.P g.w g.K g.mg g.base k f fd ps sp ∧ Binds g.K fd ps [] ∧ PySem.W.keepIn g.K (.ref f) = true ∧ g.mg x = some (.ref f)
abbrev Gx.cxM (g : Gx) (N : List Str) (qual : Str) (st : Stmt) (f : Addr) (cdv : Value) (A : Around) (outer : List Env) (s : Shared) (H : Hp) (E : XK) : Cx := { cxOf CX0 g.P g.w g.K g.mg g.base N qual (defScope st) f cdv A outer s H E with calm := false, xe := fun _ _ => False }
def BodyM (g : Gx) (k : Nat) (N : List Str) (qual : Str) (st : Stmt) (sp : Sp) : Prop := ∀ (f : Addr) (cdv : Value) (A : Around) (outer : List Env) (s : Shared) (H : Hp) (vs : List V) (Q : VK) (E : XK), RoomM k (g.cxM N qual st f cdv A outer s H E).A → sp vs H Q E →
  ∃ t, PSs (g.cxM N qual st f cdv A outer s H E) (defBody st) t ∧ t { nx := fun _ H' => Q .non H', rt := Q } (start N vs) H
section
variable {g : Gx} {k : Nat} {x qual : Str} {st : Stmt} {N ps : List Str} {sp : Sp}
end
section
variable {g : Gx} {X : Cx} {k j : Nat} {x : Str} {ps : List Str} {sp : Sp} {e : Expr} {es : List Expr} {t : TA} {p pos : Pos}
end
end L2
namespace PySem.W
open PySem PySem.Calls PyProof.Rows Builtin Builtin.ObjectAttr Builtin.Getset_descriptor
section
variable {prog : Program} {w : World} {A : Around} {E : Value → Shared → Prop} {K : Frag} {x C : Addr} {ox : Obj} {hh : Heap} {g : Array GenState} {d : Drawn} {t : Nat} {os : OsState}
theorem bexc_bind (v : Value) : bindSpecial (.builtin "BaseException.__getattribute__") v = pure (.builtin "BaseException.__getattribute__", [v]) := by
  have h1 : withoutEnding? "BaseException.__getattribute__" "#opaque" = none := by decide +kernel
  have h2 : withoutEnding? "BaseException.__getattribute__" "#data" = none := by decide +kernel
  have h3 : builtinKind "BaseException.__getattribute__" = some .slot := by decide +kernel
  simp only [bindSpecial, typeOf, builtinType, h1, h2, h3]
  rfl
theorem excls_get {tp : Value} {R : Result → Shared → Prop} (In : K.In hh) (hx : hh.get? x = some ox) (hc : ox.cls = .ref C) (hm : mroIn K C (.type "object") = some true)
    (h : R (.ok (.ret (.ref C))) ⟨hh, g, d, t, os⟩) : codeAny (model prog w) A (.call (.builtin "getset_descriptor.__get__") ⟨[.builtin "object.__class__", .ref x, tp], []⟩) R ⟨hh, g, d, t, os⟩ := by
  have L0 : Looks (model prog w) hh (typeOf (.ref x)) (.ref C) := by rw [← hc]; exact (Looks.ld hx).andThen .now
  have L1 := looks_mroIn (M := model prog w) In hm
  refine codeAny_call_builtin KF.slot_gs.plain KF.entry_gs (KF.slot_gs.check _ _ _ _ _ _ _ _ KF.type_class (KF.args_gs _ _ _) ?_)
  unfold Builtin.«getset_descriptor.__get__»
  unfold descrGet
  rw [dga_obj]
  refine wpAny_bind (wpAny_pure ?_)
  unfold descrGetter
  unfold descrCheckInstance descrNameAndClass
  unfold isInstance
  simp only [KF.owner_class]
  repeat lk
  refine ⟨Code.quiet_builtin _ (by decide +kernel), codeAny_builtin KF.entry_class ?_⟩
  unfold Builtin.«object.__class__»
  unfold shownTypeOf
  repeat lk
  exact h
theorem excls_entry {tk : Tok} {Q : Fin → Shared → Prop} (In : K.In hh) (hx : hh.get? x = some ox) (hc : ox.cls = .ref C) (hm : mroIn K C (.type "object") = some true) (ha : findIn K (.ref C) "__class__" = some (some (.builtin "object.__class__")))
    (hq : Q (.done (.ret (.ref C))) ⟨hh, g, d, t, os⟩) : wpAny (model prog w) A (Builtin.«object.__getattribute__» ⟨[.ref x, .str "__class__" tk], []⟩) Q E ⟨hh, g, d, t, os⟩ := by
  have hT5 : (⟨hh, g, d, t, os⟩ : Shared).TypeIs (.builtin "object.__class__") "getset_descriptor" := F.typeOf_object_class
  have f5 := F.typeOf_object_class
  have f6 := F.slot_gs_get.lookup
  have f7 := F.slot_gs_set.lookup
  have L3 := looks_findIn (M := model prog w) In ha
  repeat (any_goals (first | assumption | (with_reducible refine wpAny_loadPart_at hx ?_; rw [hc]) | with_reducible refine L3.at ?_ | wp_step))
  refine excls_get In hx hc hm ?_
  repeat (any_goals (first | assumption | wp_step))
theorem excls_check {nv : Value} {Q : Unit → Shared → Prop} (In : K.In hh) (hx : hh.get? x = some ox) (hc : ox.cls = .ref C) (hb : mroIn K C (.type "BaseException") = some true) (hq : Q () ⟨hh, g, d, t, os⟩) :
    wpAny (model prog w) A (checkBuiltinCall "BaseException.__getattribute__" ⟨[.ref x, nv], []⟩) Q E ⟨hh, g, d, t, os⟩ := by
  have k1 : builtinKind "BaseException.__getattribute__" = some .slot := by decide +kernel
  have k2 : splitId "BaseException.__getattribute__" = some ("BaseException", "__getattribute__") := by decide +kernel
  have k3 := F.args_bexc_ga (.ref x) nv
  have L1 := looks_mroIn (M := model prog w) In hb
  simp only [checkBuiltinCall, k1, k2]
  refine wpAny_bind ?_
  unfold isInstance
  repeat (first | (with_reducible refine wpAny_loadPart_at hx ?_; rw [hc]) | with_reducible refine L1.at ?_ | wp_step)
  exact hq
theorem excls_call {tk : Tok} {R : Result → Shared → Prop} (In : K.In hh) (hx : hh.get? x = some ox) (hc : ox.cls = .ref C) (hm : mroIn K C (.type "object") = some true) (hb : mroIn K C (.type "BaseException") = some true) (ha : findIn K (.ref C) "__class__" = some (some (.builtin "object.__class__")))
    (hq : R (.ok (.ret (.ref C))) ⟨hh, g, d, t, os⟩) : codeAny (model prog w) A (.call (.builtin "BaseException.__getattribute__") ⟨[.ref x, .str "__class__" tk], []⟩) R ⟨hh, g, d, t, os⟩ :=
  codeAny_call_builtin (by decide +kernel) F.entry_bexc_ga (excls_check In hx hc hb (excls_entry In hx hc hm ha hq))
theorem excls_by {tk : Tok} {Q : Value → Shared → Prop} (In : K.In hh) (hx : hh.get? x = some ox) (hc : ox.cls = .ref C) (hm : mroIn K C (.type "object") = some true) (hb : mroIn K C (.type "BaseException") = some true) (ha : findIn K (.ref C) "__class__" = some (some (.builtin "object.__class__")))
    (hga : findIn K (.ref C) "__getattribute__" = some (some (.builtin "BaseException.__getattribute__"))) (hgt : findIn K (.ref C) "__getattr__" = some none) (hbd : bindSpecial (.builtin "BaseException.__getattribute__") (.ref x) = pure (.builtin "BaseException.__getattribute__", [.ref x])) (hq : Q (.ref C) ⟨hh, g, d, t, os⟩) :
    wpAny (model prog w) A (getAttrBy (.ref x) (.str "__class__" tk) false) Q E ⟨hh, g, d, t, os⟩ := by
  have e2 : (Value.builtin "BaseException.__getattribute__" == Value.builtin "object.__getattribute__") = false := by decide +kernel
  have e1 : (onTheHeap (Value.ref C) && Value.builtin "BaseException.__getattribute__" == Value.builtin "object.__getattribute__") = false := by rw [e2]; rfl
  have e0 : (false && onTheHeap (Value.builtin "BaseException.__getattribute__")) = false := rfl
  have L1 := looks_findIn (M := model prog w) In hga
  have L2 := looks_findIn (M := model prog w) In hgt
  repeat (any_goals (first | assumption | (with_reducible refine wpAny_loadPart_at hx ?_; rw [hc]) | with_reducible refine L1.at ?_ | with_reducible refine L2.at ?_ | wp_step))
  refine excls_call In hx hc hm hb ha ?_
  repeat (any_goals (first | assumption | wp_step))
theorem excls_attr {Q : Option Value → Shared → Prop} (In : K.In hh) (hx : hh.get? x = some ox) (hc : ox.cls = .ref C) (hm : mroIn K C (.type "object") = some true) (hb : mroIn K C (.type "BaseException") = some true) (ha : findIn K (.ref C) "__class__" = some (some (.builtin "object.__class__")))
    (hga : findIn K (.ref C) "__getattribute__" = some (some (.builtin "BaseException.__getattribute__"))) (hgt : findIn K (.ref C) "__getattr__" = some none) (hq : Q (some (.ref C)) ⟨hh, g, d, t + 1, os⟩) :
    wpAny (model prog w) A (getAttr? (.ref x) "__class__") Q E ⟨hh, g, d, t, os⟩ := by
  unfold getAttr? getAttrBy?
  refine wpAny_bind (wpAny_mkText (wpAny_bind (wpAny_attempt (excls_by In hx hc hm hb ha hga hgt ?_ (wpAny_pure hq)))))
  exact bexc_bind (.ref x)
theorem kitx_exc (hd : hasDictIn K C = true) (hm : mroIn K C (.type "object") = some true) (hb : mroIn K C (.type "BaseException") = some true) (ha : findIn K (.ref C) "__class__" = some (some (.builtin "object.__class__")))
    (hga : findIn K (.ref C) "__getattribute__" = some (some (.builtin "BaseException.__getattribute__"))) (hgt : findIn K (.ref C) "__getattr__" = some none) : KitX K (.ref x) (.ref C) (fun h => ∃ o, h.get? x = some o ∧ o.cls = .ref C) where
  ty := fun M h _ ⟨o, hx, hc⟩ => by rw [← hc]; exact (Looks.ld hx).andThen .now
  it := fun M h In _ => by
    obtain ⟨cd, e, _⟩ := any_some hd
    unfold clsIn at e
    split at e
    case h_2 => cases e
    case h_1 q =>
      intro A' Q' E' s' k z
      unfold isType
      unfold loadHead
      exact wpAny_bind (wpAny_loadPart (k _ _ (In _ _ q)) (wpAny_pure z))
  ne := fun h tp dd its n sl In htp => by
    obtain ⟨cd, e, _⟩ := any_some hd
    refine Bool.eq_false_iff.mpr fun z => ?_
    have z1 : C = tp := Value.ref.inj (beq_iff_eq.mp z)
    subst z1
    unfold clsIn at e
    split at e
    case h_2 => cases e
    case h_1 q =>
      have y := (In _ _ q).symm.trans htp
      cases y
  ca := fun {prog w A E Q s} In ⟨o, hx, hc⟩ k => by
    obtain ⟨hh, g, d, t, os⟩ := s
    exact excls_attr In hx hc hm hb ha hga hgt k
end
end PySem.W
namespace L2
open PySem PySem.Spec PyProof.Rows
/-- what the text's exception class has from its line -/
structure ExcT (K : PySem.W.Frag) (C : Addr) : Prop where
  hd : PySem.W.hasDictIn K C = true
  hm : PySem.W.mroIn K C (.type "object") = some true
  hb : PySem.W.mroIn K C (.type "BaseException") = some true
  ha : PySem.W.findIn K (.ref C) "__class__" = some (some (.builtin "object.__class__"))
  hga : PySem.W.findIn K (.ref C) "__getattribute__" = some (some (.builtin "BaseException.__getattribute__"))
  hgt : PySem.W.findIn K (.ref C) "__getattr__" = some none
section
variable {X : Cx}
/-- isinstance of a caught exception -/
theorem call_isinstX {C : Addr} (T : ExcT X.K C) : CallR X (.builtin "isinstance") (fun xs H Q => ∃ a c cv b, xs = [.ref a, c] ∧ clsV c = some cv ∧ H a = some (ExcO a (.ref C)) ∧ PySem.W.kitOne X.K (.ref C) cv = some b ∧ Q (.bl b) H) := by
  intro pins s σ H xs us Q I r h
  obtain ⟨a, c, cv, b, rfl, ec, ha, e, q⟩ := h
  obtain ⟨u, w', rfl, ru, rw'⟩ := vals2 r
  have ew : w' = cv := by
    cases c with
    | ty n => cases (show w' = Value.type n from rw'); simpa [clsV] using ec
    | ref a => cases (show w' = Value.ref a from rw'); simpa [clsV] using ec
    | _ => simp [clsV] at ec
  subst ew
  cases (show u = Value.ref a from ru)
  obtain ⟨⟨o, vs, h1, h2, _⟩, _⟩ := (show ObjOk X.prog X.w H s.heap a (ExcO a (.ref C)) from I.hok a _ ha)
  exact PySem.W.kia_one (PySem.W.kitx_exc T.hd T.hm T.hb T.ha T.hga T.hgt) I.kIn ⟨o, h1, h2⟩ e (fun z => nomatch z) fun tk => ⟨.bl b, H, I.tok tk, rfl, q⟩
theorem call_isinstXK {K : PySem.W.Frag} {C : Addr} (T : ExcT K C) (h : X.K = K := by rfl) : CallR X (.builtin "isinstance") (fun xs H Q => ∃ a c cv b, xs = [.ref a, c] ∧ clsV c = some cv ∧ H a = some (ExcO a (.ref C)) ∧ PySem.W.kitOne K (.ref C) cv = some b ∧ Q (.bl b) H) := by subst h; exact call_isinstX T
/-- a class of the text, as a value -/
theorem pe_cla {g : Gx} {x : Str} {C : Addr} {pos : Pos} (h : g.mg x = some (.ref C)) (hX : X.gx = g := by rfl) (hg : Gl X x := by rfl) (hd : (x == ("__debug__" : Str)) = false := by decide) : PE X (.Name x pos) (tC (.ref C)) := by
  subst hX
  exact pe_glob hg h rfl hd
end
theorem caught_K {X : Cx} {a : Addr} : (X.caught a).K = X.K := rfl
end L2
namespace L2
open PySem PySem.Spec PyProof.Rows
theorem noattr_mk {K : PySem.W.Frag} {C : Addr} {f : Str} (h : PySem.W.findIn K (.ref C) f = some none) : NoAttr K C f := h
end L2
namespace L2
open PySem PySem.Spec PyProof.Rows
section
variable {src : List (Option Nat)} {te : TE} {σ : St} {H : Hp} {Q : VK}
end
end L2
namespace L2
open PySem PySem.Spec PyProof.Rows
section
variable {X : Cx}
end
end L2
namespace L2
open PySem PySem.Spec PyProof.Rows
section
variable {src : List (Option Nat)} {te : TE} {σ : St} {H : Hp} {Q : VK}
end
end L2
namespace L2
open PySem PySem.Spec PyProof.Rows
/-! the script itself as a list that + may read -/
def SqX (K : PySem.W.Frag) (H : Hp) (a : Addr) (xs : List V) : Prop := Rd H a (.lst xs) ∨ ∃ (its : Array Value) (n : Nat), K.lookup a = some { cls := .type "list", data := .seq its n } ∧ its.size ≤ sizeLine ∧ Vals xs its.toList
section
variable {X : Cx}
def rCatX (K : PySem.W.Frag) : R2 := fun x y H Q => ∃ l b xs zs, x = .ref l ∧ y = .ref b ∧ SqX K H l xs ∧ SqX K H b zs ∧ xs.length + zs.length ≤ sizeLine ∧ ∀ p, H p = none → Q (.ref p) (upd H p (.lst (xs ++ zs)))
end
def spTrueX (K : PySem.W.Frag) : Sp := fun vs H Q _ => ∃ (a : Addr) (ns : List Int), vs = [.ref a] ∧ SqX K H a (ns.map V.int) ∧ ns.length ≤ 63 ∧ ∀ H', Q (.bl true) H'
end L2
namespace L2
open PySem PySem.Spec PyProof.Rows
/-! defs as values: a def's name as an argument, a call of what a name of one's own holds -/
def Gx.FnV (g : Gx) (k : Nat) (f : Addr) (ps : List Str) (sp : Sp) : Prop := ∃ fd, FnOk g.P g.w g.K g.mg g.base CX0 k f fd ps sp ∧ Binds g.K fd ps [] ∧ PySem.W.keepIn g.K (.ref f) = true
def tFn (g : Gx) (k : Nat) (ps : List Str) (sp : Sp) : TE := fun _ H Q => ∀ f, g.FnV k f ps sp → Q (.ref f) H
def tCallV (g : Gx) (k i : Nat) (t : TA) : TE := fun σ H Q => ∃ f ps sp, σ[i]? = some (some (.ref f)) ∧ g.FnV k f ps sp ∧ t σ H fun vs H1 => sp vs H1 Q E0
section
variable {X : Cx} {g : Gx} {k j i : Nat} {x : Str} {ps : List Str} {sp : Sp} {p pos : Pos} {e : Expr} {es : List Expr} {t : TA}
end
/-! the arguments of a call, one by one: for tuples and lists, said once (by rfl at the place it costs minutes) -/
theorem star_tup (es : List Expr) (x : Nat) (p : Pos) (es' : List Expr) (env : Env) : starEach (.Tuple es x p :: es') env = (false, eval (.Tuple es x p) env) :: starEach es' env := rfl
theorem star_lst (es : List Expr) (p : Pos) (es' : List Expr) (env : Env) : starEach (.List es p :: es') env = (false, eval (.List es p) env) :: starEach es' env := rfl
end L2
namespace L2
open PySem PySem.Spec PyProof.Rows
/-! isinstance(x, (T, U)); comprehensions over the pairs of two lists, two tuples, either -/
section
variable {X : Cx} {pins : List (Addr × Obj)} {σ : St} {H : Hp} {s : Shared} {A : Around} {E Q : Value → Shared → Prop}
end
section
variable {X : Cx}
end
section
variable {src : List (Option Nat)} {te : TE} {σ : St} {Q : VK}
variable {X : Cx} {H : Hp}
/-- an iteration over either of two kinds -/
def iOr (a b : TI) : TI := fun σ H R => a σ H R ∨ b σ H R
end
end L2
namespace L2
open PySem PySem.Spec PyProof.Rows
/-! ### < of data: ints and tuples of them, to any depth -/
mutual
/-- d < e, of which this is the answer -/
inductive LtR : PyData → PyData → Bool → Prop
  | int (i j : Int) : LtR (.int i) (.int j) (decide (i < j))
  | tup {ds es : List PyData} {b : Bool} : LtA ds es b → LtR (.tuple ds) (.tuple es) b
inductive LtA : List PyData → List PyData → Bool → Prop
  | nn : LtA [] [] false
  | nc {e : PyData} {es : List PyData} : LtA [] (e :: es) true
  | cn {d : PyData} {ds : List PyData} : LtA (d :: ds) [] false
  | eq {d e : PyData} {ds es : List PyData} {b : Bool} : PyData.eqv d e = true → LtA ds es b → LtA (d :: ds) (e :: es) b
  | ne {d e : PyData} {ds es : List PyData} {b : Bool} : PyData.eqv d e = false → LtR d e b → LtA (d :: ds) (e :: es) b
end
def LtAt (A : Around) (s : Shared) (u v : Value) (b : Bool) : Prop := ∀ (prog : Program) (w : World) (E : Value → Shared → Prop) (Q : Value → Shared → Prop), Q (.bool b) s → wpAny (model prog w) A (richCompare .Lt u v) Q E s
section
open PySem.SeqAt
open PySem.AutoSeq1 (wpAny_loadPart')
open PySem.MeetsSeq PySem.MeetsSeq2 PySem.MeetsSeq3
/-- pairs of items: equal by the data, or comparable -/
inductive Two (A : Around) (s : Shared) : List Value → List Value → Bool → Prop
  | nn : Two A s [] [] false
  | nc {v : Value} {vs : List Value} : Two A s [] (v :: vs) true
  | cn {v : Value} {vs : List Value} : Two A s (v :: vs) [] false
  | eq {u v : Value} {us vs : List Value} {b : Bool} : EqAt A s u v true → Two A s us vs b → Two A s (u :: us) (v :: vs) b
  | ne {u v : Value} {us vs : List Value} {b : Bool} : EqAt A s u v false → LtAt A s u v b → Two A s (u :: us) (v :: vs) b
variable {X : Cx}
end
end L2
namespace L2
open PySem PySem.Spec PyProof.Rows
/-! ### <= of data: ints and tuples of them, to any depth -/
mutual
/-- d <= e, of which this is the answer -/
inductive LeR : PyData → PyData → Bool → Prop
  | int (i j : Int) : LeR (.int i) (.int j) (decide (i ≤ j))
  | tup {ds es : List PyData} {b : Bool} : LeA ds es b → LeR (.tuple ds) (.tuple es) b
inductive LeA : List PyData → List PyData → Bool → Prop
  | nn : LeA [] [] true
  | nc {e : PyData} {es : List PyData} : LeA [] (e :: es) true
  | cn {d : PyData} {ds : List PyData} : LeA (d :: ds) [] false
  | eq {d e : PyData} {ds es : List PyData} {b : Bool} : PyData.eqv d e = true → LeA ds es b → LeA (d :: ds) (e :: es) b
  | ne {d e : PyData} {ds es : List PyData} {b : Bool} : PyData.eqv d e = false → LeR d e b → LeA (d :: ds) (e :: es) b
end
def LeAt (A : Around) (s : Shared) (u v : Value) (b : Bool) : Prop := ∀ (prog : Program) (w : World) (E : Value → Shared → Prop) (Q : Value → Shared → Prop), Q (.bool b) s → wpAny (model prog w) A (richCompare .LtE u v) Q E s
section
open PySem.SeqAt
open PySem.AutoSeq1 (wpAny_loadPart')
open PySem.MeetsSeq PySem.MeetsSeq2 PySem.MeetsSeq3
/-- pairs of items: equal by the data, or comparable -/
inductive TwoE (A : Around) (s : Shared) : List Value → List Value → Bool → Prop
  | nn : TwoE A s [] [] true
  | nc {v : Value} {vs : List Value} : TwoE A s [] (v :: vs) true
  | cn {v : Value} {vs : List Value} : TwoE A s (v :: vs) [] false
  | eq {u v : Value} {us vs : List Value} {b : Bool} : EqAt A s u v true → TwoE A s us vs b → TwoE A s (u :: us) (v :: vs) b
  | ne {u v : Value} {us vs : List Value} {b : Bool} : EqAt A s u v false → LeAt A s u v b → TwoE A s (u :: us) (v :: vs) b
variable {X : Cx}
variable {K : PySem.W.Frag}
end
end L2
namespace L2
open PySem
/-! keys: ints and tuples of keys; their order -/
mutual
inductive KD : PyData → Prop
  | int (i : Int) : KD (.int i)
  | tup {ds : List PyData} : KDs ds → KD (.tuple ds)
inductive KDs : List PyData → Prop
  | nil : KDs []
  | cons {d : PyData} {ds : List PyData} : KD d → KDs ds → KDs (d :: ds)
end
mutual
/-- the order of keys, ints ahead of tuples -/
inductive KLt : PyData → PyData → Prop
  | int {i j : Int} : i < j → KLt (.int i) (.int j)
  | mix {i : Int} {ds : List PyData} : KLt (.int i) (.tuple ds)
  | tup {ds es : List PyData} : KLs ds es → KLt (.tuple ds) (.tuple es)
inductive KLs : List PyData → List PyData → Prop
  | nil {e : PyData} {es : List PyData} : KLs [] (e :: es)
  | here {d e : PyData} {ds es : List PyData} : KLt d e → KLs (d :: ds) (e :: es)
  | there {d : PyData} {ds es : List PyData} : KLs ds es → KLs (d :: ds) (d :: es)
end
/-! where < answers, it answers by the order -/
/-! two keys that < can be asked of: of one make where they first differ -/
mutual
inductive Sim : PyData → PyData → Prop
  | int (i j : Int) : Sim (.int i) (.int j)
  | tup {ds es : List PyData} : Sims ds es → Sim (.tuple ds) (.tuple es)
inductive Sims : List PyData → List PyData → Prop
  | nil {es : List PyData} : Sims [] es
  | end_ {ds : List PyData} : Sims ds []
  | cons {d e : PyData} {ds es : List PyData} : Sim d e → (d = e → Sims ds es) → Sims (d :: ds) (e :: es)
end
end L2
namespace L2
open PySem
section
variable {src : List (Option Nat)} {te : TE} {σ : St} {H : Hp} {Q : VK}
/-- a comprehension whose things keep a promise each, apart from its own list -/
theorem lc_relD {J : It} {P : Hp → Prop} {xs : List V} (hJ : ItSeq J P xs) {H1 : Hp} {D : Addr} (Rl : Nat → V → Hp → Prop) (st : ∀ i y H H', Rl i y H → Same H H' → Rl i y H') (su : ∀ i y H zs zs', Rl i y H → H D = some (.lst zs) → Rl i y (upd H D (.lst zs')))
    (hP : ∀ H', Same H1 H' → P H') (hD : H1 D = none) (hlen : xs.length ≤ 100000)
    (step : ∀ (i : Nat) x H' zs, xs[i]? = some x → Same H1 H' → H' D = some (.lst zs) → ∀ R : VK, (∀ y H'', Same H' H'' → Rl i y H'' → R y H'') → te (some x :: capSt src σ) H' R)
    (fin : ∀ (ys : List V) H', Same H1 H' → H' D = some (.lst ys) → ys.length = xs.length → (∀ (j : Nat) y, ys[j]? = some y → Rl j y H') → Q (.ref D) H') : LC (none :: src) J (gName 0) tYes te σ H1 Q D := by
  have h6 : 100000 < sizeLine := by decide
  refine lc_on hJ (fun i zs σ' H' => zs.length = i ∧ (∃ o, σ' = o :: capSt src σ) ∧ Same H1 H' ∧ H' D = some (.lst zs) ∧ ∀ (j : Nat) y, zs[j]? = some y → Rl j y H')
    ⟨rfl, ⟨none, rfl⟩, .upd_new hD _, upd_same, fun j y h => by simp at h⟩ (fun i zs σ' H' ⟨_, _, p1, p2, _⟩ => ⟨hP _ p1, p2⟩) (gName_mono 0) ?_ ?_
  · rintro i zs σ' H' x hx ⟨hi', ⟨o, rfl⟩, sm, hd, hts⟩
    have hi := (List.getElem?_eq_some_iff.mp hx).1
    show te (some x :: capSt src σ) H' _
    refine step i x H' zs hx sm hd _ fun y H'' s2 hy => ⟨s2 _ _ hd, by omega, by simp [hi'], ⟨_, rfl⟩, .upd_over hD (sm.trans s2) _, upd_same, fun j z hj => su _ _ _ _ _ ?_ (s2 _ _ hd)⟩
    rcases Nat.lt_trichotomy j zs.length with h1 | h1 | h1
    · rw [List.getElem?_append_left h1] at hj
      exact st _ _ _ _ (hts j z hj) s2
    · have hb : y = z := by subst h1; simpa using hj
      subst hb
      rw [h1, hi']
      exact hy
    · rw [List.getElem?_eq_none (by rw [List.length_append, List.length_singleton]; omega)] at hj; cases hj
  · rintro zs σ' H' ⟨hn, _, sm, hd, hts⟩
    exact fin zs H' sm hd hn hts
end
end L2
namespace L2
open PySem
/-! values with the lists that stand in them, in their order -/
mutual
inductive VL (H : Hp) : V → PyData → List Addr → Prop
  | int (i : Int) : VL H (.int i) (.int i) []
  | str (x : Str) (h : PyData.strOk x = true) : VL H (.str x) (.str x) []
  | lst {a : Addr} {vs : List V} {ds : List PyData} {L : List Addr} : H a = some (.lst vs) → vs.length ≤ 10000 → VLs H vs ds L → VL H (.ref a) (.list ds) (a :: L)
  | tup {a : Addr} {vs : List V} {ds : List PyData} {L : List Addr} : H a = some (.tup vs) → vs.length ≤ 10000 → VLs H vs ds L → VL H (.ref a) (.tuple ds) L
inductive VLs (H : Hp) : List V → List PyData → List Addr → Prop
  | nil : VLs H [] [] []
  | cons {v : V} {d : PyData} {L : List Addr} {vs : List V} {ds : List PyData} {L' : List Addr} : VL H v d L → VLs H vs ds L' → VLs H (v :: vs) (d :: ds) (L ++ L')
end
/-- tuples stay -/
def Tps (H H' : Hp) : Prop := ∀ a vs, H a = some (.tup vs) → H' a = some (.tup vs)
/-- its lists are all new, each but once -/
structure Own (H0 H : Hp) (v : V) (d : PyData) (L : List Addr) : Prop where
  vl : VL H v d L
  nd : L.Nodup
  new : ∀ a ∈ L, H0 a = none
structure Owns (H0 H : Hp) (vs : List V) (ds : List PyData) (L : List Addr) : Prop where
  vl : VLs H vs ds L
  nd : L.Nodup
  new : ∀ a ∈ L, H0 a = none
section
variable {src : List (Option Nat)} {te : TE} {σ : St} {H : Hp} {Q : VK}
/-- so many turns of range(0, n, c) -/
def UpTo (n c m : Nat) : Prop := (∀ i, i < m → i * c < n) ∧ n ≤ m * c
/-- what is left of a list by the places -/
def sel (p : Nat → Bool) (ds : List PyData) (n : Nat) : List PyData := ((List.range n).filter p).filterMap (ds[·]?)
end
end L2
namespace L2
open PySem PySem.Spec PyProof.Rows
section
variable {X : Cx} {pos : Pos}
def rStarts : V → List V → Hp → VK → Prop := fun x vs H Q => ∃ (z y : Str), x = .str z ∧ vs = [.str y] ∧ Q (.bl (Txt.startswith z y)) H
end
/-- the signs of a number's text -/
def dg (i : Int) : List Nat := (Str.ofString (toString i)).cps.toList
theorem dg_nat (n : Nat) : dg (n : Int) = (Nat.toDigits 10 n).map Char.toNat := PySem.W.KIN.signs_num n
theorem dg_len {n k : Nat} (hk : 0 < k) (h : n < 10 ^ k) : (dg (n : Int)).length ≤ k := by
  rw [dg_nat, List.length_map]
  have := (Nat.length_repr_le_iff hk).mpr h
  rwa [← String.length_toList, Nat.toList_repr] at this
end L2
namespace L2
open PySem
section
variable {src : List (Option Nat)} {te : TE} {σ : St} {H : Hp} {Q : VK}
/-- a comprehension over range(n) with a promise of its own, that need not keep the heap -/
theorem tLC_rangeI {ta : TA} {n : Nat} (I : Addr → Nat → List V → Hp → Prop) (ha : ∀ R : List V → Hp → Prop, R [.int n] H → ta σ H R) (hlen : n ≤ 100000)
    (i0 : ∀ D, H D = none → I D 0 [] (upd H D (.lst []))) (dl : ∀ D i zs H', I D i zs H' → zs.length = i ∧ H' D = some (.lst zs))
    (step : ∀ D (i : Nat) zs H', H D = none → i < n → I D i zs H' → ∀ R : VK, (∀ y H'', H'' D = some (.lst zs) → I D (i + 1) (zs ++ [y]) (upd H'' D (.lst (zs ++ [y]))) → R y H'') → te (some (.int i) :: capSt src σ) H' R)
    (fin : ∀ D zs H', H D = none → I D n zs H' → Q (.ref D) H') : tLC (none :: src) (iRng1 ta) (gName 0) tYes te σ H Q := by
  refine ha _ ⟨n, rfl, by omega, by omega, fun D hD => ?_⟩
  have h6 : 100000 < sizeLine := by decide
  refine lc_on (itseq_range (lo := 0) (n := n) (P := fun _ => True)) (fun i zs σ' H' => (∃ o, σ' = o :: capSt src σ) ∧ i ≤ n ∧ I D i zs H') ⟨⟨none, rfl⟩, Nat.zero_le _, i0 D hD⟩ (fun i zs σ' H' q => ⟨trivial, (dl _ _ _ _ q.2.2).2⟩) (gName_mono 0) ?_ ?_
  · rintro i zs σ' H' x hx ⟨⟨o, rfl⟩, _, hI⟩
    have hi : i < n := by have := (List.getElem?_eq_some_iff.mp hx).1; simpa using this
    rw [List.getElem?_map, List.getElem?_range hi] at hx
    have e : V.int (0 + (i : Int)) = x := Option.some.inj hx
    rw [Int.zero_add] at e
    subst e
    have hl := (dl _ _ _ _ hI).1
    show te (some (.int i) :: capSt src σ) H' _
    exact step D i zs H' hD hi hI _ fun y H'' hd hI' => ⟨hd, by omega, ⟨_, rfl⟩, hi, hI'⟩
  · rintro zs σ' H' ⟨_, _, hI⟩
    exact fin D zs H' hD (by simpa using hI)
end
end L2
namespace L2
open PySem PySem.Spec PyProof.Rows
/-! ### methods that may raise -/
def Gx.MeX (g : Gx) (k : Nat) (C : Addr) (m : Str) (ps : List Str) (sp : Sp) : Prop := ∃ f fd, FnOk g.P g.w g.K g.mg g.base (CXF g.P g.w) k f fd ps sp ∧ Binds g.K fd ps [] ∧ Meth g.K C m f
section
variable {g : Gx} {k : Nat} {x qual m : Str} {st : Stmt} {N ps : List Str} {sp : Sp} {C : Addr}
end
section
variable {g : Gx} {X : Cx} {k j : Nat} {x m : Str} {ps : List Str} {sp : Sp} {E : XK} {C : Addr} {e o : Expr} {es : List Expr} {t : TA} {ta : TE} {p pos apos : Pos}
end
/-- a def that may raise, where it does not -/
theorem passNo {P : Program} {w : World} {X : Cx} : Passes (CXF P w) X (fun _ _ _ => False) := by
  intro pins σ H s e s' I h
  obtain ⟨_, _, _, _, _, _, _, _, z⟩ := h
  exact z.elim
/-- an expression that is never reached -/
def tNo : TE := fun _ _ _ => False
/-! ### try: f(..) except C as e: suite -/
def tTryE (K : PySem.W.Frag) (cv : Value) (sp : Sp) (t : TA) (j : Nat) (ts : TS) : TS := fun D σ H => t σ H fun vs H1 => sp (vs ++ []) H1 (fun v H2 => D.nx σ H2) (fun cls _ H2 => PySem.W.exmOne K cls cv = some true ∧ ∀ a, H2 a = none → ts (D.gone j) (σ.set j (some (.ref a))) (upd H2 a (ExcO a cls)))
section
variable {g : Gx} {X : Cx} {k jj j : Nat} {f c n : Str} {ps : List Str} {sp : Sp} {e : Expr} {es : List Expr} {t : TA} {ts : TS} {b₀ : Stmt} {suite : List Stmt} {cv : Value} {fp cp hpos apos cpos pos : Pos}
theorem ps_tryE (F : g.FnX jj f ps sp) (hr : Room k X.A) (hN : X.N.Nodup) (hj : X.N[j]? = some n) (hk : X.env.scope.names.lookup n = some .local) (ha : PA X.nox (e :: es) t) (hcm : g.mg c = some cv) (hsu : ∀ a, PSs (X.caught a) (b₀ :: suite) ts)
    (hjk : jj ≤ k := by omega) (hX : X.gx = g := by rfl) (hs : X.stack = X.env :: X.outer := by rfl) (hf : X.env.frame = some X.env.locals := by rfl) (hg : Gl X f := by rfl) (hc : Gl X c := by rfl) (hdf : (f == ("__debug__" : Str)) = false := by decide) (hdb : (c == ("__debug__" : Str)) = false := by decide)
    (he : starEach (e :: es) X.env = (false, eval e X.env) :: starEach es X.env := by rfl) (hpl : (backTo cpos (starEach es X.env)).any (·.1) = false := by rfl)
    (hsw : swapsWith (.Call (.Name f fp) (e :: es) [] cpos) none apos.line X.env = pure false := by rfl) :
    PS X (.Try [.Expr (.Call (.Name f fp) (e :: es) [] cpos) apos] [.ExceptHandler (some (.Name c cp)) (some n) (b₀ :: suite) hpos] [] [] pos) (tTryE X.K cv sp t j ts) := by
  subst hX
  intro pins s σ H D I h
  obtain ⟨fa, fd, F, b, kp, hm⟩ := F
  refine wpAny_Try_except ?_
  refine wpAny_execs_cons ?_
  refine wpAny_Expr_any (thn (Q := EP X pins σ fun v H2 => D.nx σ H2) ?_ fun v s1 hz => ?_) I.quiet hsw
  · refine wpAny_Call_Name_kw (ld_glob I hg hm ?_ hdf)
    refine PySem.W.callWith_K (h₀ := X.base) I.ok.mod.kin kp (wpAny_mono (ha cpos pins s σ H _ (I.wish _) h) (fun us s1 hz => ?_) fun _ _ z => z.elim) he hpl
    obtain ⟨vs, H1, I1, r, q⟩ := hz
    have I1 := I1.unwish
    refine ⟨I1.kIn, ?_⟩
    have r2 : Vals (vs ++ []) (us ++ []) := r.append .nil
    have hl : (us ++ []).length = ps.length := by rw [← r2.length]; exact F.len _ _ _ _ q
    refine wpAny_call (codeAny_mono (F.run X.A X.stack s1 H1 ⟨us, []⟩ (us ++ []) (vs ++ []) _ _ (hr.mono hjk) I1.env0 (b s1 us I1.kIn hl) r2 q) fun r s' hq => ?_)
    cases r with
    | error e => exact I1.catchAs hs hf hN hj hk hq hsu hc hcm hdb
    | ok fl =>
      cases fl with
      | ret u => exact I1.after hq
      | next => exact False.elim hq
      | brk => exact False.elim hq
      | cont => exact False.elim hq
  · obtain ⟨y, H1, I1, r1, q1⟩ := hz
    exact wpAny_execs_nil (wpAny_execs_nil ⟨_, H1, I1, q1⟩)
end
end L2
namespace L2
open PySem PySem.Spec PyProof.Rows
/-! ### sets of texts: set(text), set(list of texts), len of it -/
def addOnce (l : List Str) (v : Str) : List Str := if l.any (· == v) then l else l ++ [v]
def met (val : Nat → Str) (i : Nat) : List Str := ((List.range i).map val).foldl addOnce []
section
variable {prog : Program} {w : World} {A : Around} {R : Result → Shared → Prop} {I : Addr} {fp wr : List Addr} {G : Array GenState → Array GenState → Prop} {n : Nat} {P : Nat → Value → Prop} {St : Nat → Shared → Prop}
end
end L2
namespace L2
open PySem PySem.Spec PyProof.Rows
def sg (x : Str) (i : Nat) : Str := ⟨#[x.cps.getD i 0]⟩
section
variable {prog : Program} {w : World} {A : Around} {E : Value → Shared → Prop} {s : Shared}
end
/-- a set, so many in it -/
def SetO (a : Addr) (n : Nat) : HO := .ext fun h => ∃ (o : Obj) (es : Array (Int × Value)) (ep : Nat) (t : SetTable), h.get? a = some o ∧ o.ExactSet ∧ o.data = .set es ep t ∧ t.fits es.size = true ∧ es.size = n ∧ n < scanBound
section
variable {X : Cx}
end
end L2
namespace L2
open PySem PySem.Spec PyProof.Rows
/-- a test that is never reached -/
def tNoT : TT := fun _ _ _ => False
section
variable {X : Cx}
end
end L2
namespace L2
open PySem PySem.Spec PyProof.Rows
/-! ### x.split(one sign) -/
section
variable {X : Cx}
def rSplit : V → List V → Hp → VK → Prop := fun x vs H Q => ∃ (z : Str) (c : Nat), x = .str z ∧ vs = [.str ⟨#[c]⟩] ∧ z.length ≤ 100000 ∧ ∀ l, H l = none → Q (.ref l) (upd H l (.lst ((Txt.split z ⟨#[c]⟩).map V.str)))
end
end L2
namespace L2
open PySem PySem.Spec PyProof.Rows
section
variable {X : Cx}
end
end L2
namespace L2
open PySem PySem.Spec PyProof.Rows
/-! ### xs[k::step], and defs asked of a class by its name -/
section
variable {X : Cx} {e lo st : Expr} {te tl ts : TE} {pos p2 : Pos}
/-- xs[k::step] of a list, k not below 0, step above it: a new list of some of its things -/
def tSlStep (K : PySem.W.Frag) (te tl ts : TE) : TE := fun σ H Q => te σ H fun x H1 => tl σ H1 fun y H2 => ts σ H2 fun z H3 =>
  ∃ (a : Addr) (xs : List V) (k n : Int), x = .ref a ∧ y = .int k ∧ z = .int n ∧ 0 ≤ k ∧ 0 < n ∧ SqL K H3 a xs ∧ ∀ p ys, H3 p = none → (∀ v ∈ ys, v ∈ xs) → ys.length ≤ xs.length → Q (.ref p) (upd H3 p (.lst ys))
end
/-- what a class has from its line, to be asked for a def by its own name -/
structure ClsFn (K : PySem.W.Frag) (B : Addr) (m : Str) (f : Addr) : Prop where
  ga : PySem.W.specialIn K (.ref B) "__getattribute__" = some (some (.builtin "type.__getattribute__"))
  rd : PySem.W.readsIn K B (.type "type") = true
  at_ : PySem.W.findCls K (.ref B) (.type "type") m = some (.val (.ref f))
  kp : PySem.W.keepIn K (.ref f) = true
/-- the def m of the class at B, which the text calls x -/
def Gx.Cf (g : Gx) (k : Nat) (x m : Str) (ps : List Str) (sp : Sp) : Prop := ∃ B f fd, FnOk g.P g.w g.K g.mg g.base CX0 k f fd ps sp ∧ Binds g.K fd ps [] ∧ ClsFn g.K B m f ∧ g.mg x = some (.ref B)
def Gx.RawC (g : Gx) (x m qual : Str) (st : Stmt) (ps : List Str) : Prop := ∃ B f fd, Fun g.K m qual st f fd ∧ Binds g.K fd ps [] ∧ ClsFn g.K B m f ∧ g.mg x = some (.ref B)
theorem Gx.Cf.mono {g : Gx} {j k : Nat} {x m : Str} {ps : List Str} {sp : Sp} (F : g.Cf j x m ps sp) (h : j ≤ k) : g.Cf k x m ps sp := by
  obtain ⟨B, f, fd, F, r⟩ := F
  exact ⟨B, f, fd, F.mono h, r⟩
section
variable {g : Gx} {X : Cx} {k j : Nat} {x m : Str} {ps : List Str} {sp : Sp} {e : Expr} {es : List Expr} {t : TA} {p pos apos : Pos}
/-- C.m(e, ..) -/
theorem pe_cf {pl : Sem Bool} (F : g.Cf j x m ps sp) (hr : Room k X.A) (ha : PA X (e :: es) t) (hj : j ≤ k := by omega) (hX : X.gx = g := by rfl) (hg : Gl X x := by rfl) (hdb : (x == ("__debug__" : Str)) = false := by decide)
    (hst : starEach (e :: es) X.env = (false, eval e X.env) :: starEach es X.env := by rfl) (hpl : (backTo pos (starEach es X.env)).any (·.1) = false := by rfl)
    (ht : eval (.Call (.Attribute (.Name x p) m apos) (e :: es) [] pos) X.env = (do
      let ov ← eval (.Name x p) X.env
      standAt apos.atName
      let (f, first) ← holding [ov] (getMethod ov m pl)
      callWith pos f first (backTo pos (starEach (e :: es) X.env)) (backToKw pos (keywordEach [] X.env))) := by rfl) : PE X (.Call (.Attribute (.Name x p) m apos) (e :: es) [] pos) (tCall sp [] E0 t) := by
  subst hX
  obtain ⟨B, f, fd, F, b, c, hm⟩ := F
  intro pins s σ H Q I h
  refine PySem.W.methodCall_KW (pl := pl) (thn (pe_cla (g := X.gx) (pos := p) hm rfl hg hdb pins s σ H (fun v H1 => v = .ref B ∧ H1 = H) I ⟨rfl, rfl⟩) fun u s1 ⟨v, H1, I1, rv, e1, e2⟩ => ?_) ht
  subst e1 e2
  obtain rfl : u = Value.ref B := rv
  refine PySem.W.method_cls I1.kIn c.ga (PySem.W.cls_value I1.kIn c.rd c.at_ rfl ?_)
  have I2 := I1.tok (s1.toks + 1)
  refine PySem.W.callWith_K (h₀ := X.base) I.ok.mod.kin c.kp (thn (ha pos pins _ σ H1 _ I2 h) fun us s2 ⟨vs, H2, I3, r, q2⟩ => ⟨I3.kIn, ?_⟩) hst hpl
  exact run_fn (dvs := []) (ds := []) F (hr.mono hj) b .nil pass0 I3 r q2
end
end L2
namespace L2
open PySem PySem.Spec PyProof.Rows
/-- y not in d, y in d, of a dict -/
def rNotInD : R2 := fun y x H Q => ∃ a o, x = .ref a ∧ DGet H a y o ∧ Q (.bl (!o.isSome)) H
def rInD : R2 := fun y x H Q => ∃ a o, x = .ref a ∧ DGet H a y o ∧ Q (.bl o.isSome) H
section
variable {X : Cx}
theorem op_notInD (hu : X.A.units + 1 < cLine) : OpR X (compareOp .NotIn) rNotInD := by
  intro pins s σ H x y v u Q I rx ry h
  obtain ⟨a, o, rfl, g, q⟩ := h
  obtain rfl : u = Value.ref a := ry
  exact d_notIn hu I g rx fun s3 I3 => ⟨.bl (!o.isSome), H, I3, rfl, q⟩
end
section
variable {K : PySem.W.Frag} {h : Heap} {mg : Str → Option Value} {P : Program} {w : World} {base : Heap} {f B : Addr} {x qual m : Str} {st : Stmt} {ps N : List Str} {oc kV dc pm cd ct : Value} {od an : Option Addr} {sl : Array (Option Value)} {g : Gx} {k : Nat} {sp : Sp}
theorem Gx.RawC.cf (R : g.RawC x m qual st ps) (S : FnScope N ps (defScope st)) (len : ∀ vs H Q E, sp vs H Q E → vs.length = ps.length) (b : Body g k N qual st sp) : g.Cf (k + 1) x m ps sp := by
  obtain ⟨B, f, fd, F, bd, c, hm⟩ := R
  exact ⟨B, f, fd, F.ok S len fun cdv A outer s H vs Q E hr h => b f cdv A outer s H vs Q E hr h, bd, c, hm⟩
theorem rawC_mk (X : K.In h) (G : h.Ns mainGlobals mg) (ps : List Str) (aB : PySem.W.nsIn K mainGlobals x = some (some (.ref B))) (ga : PySem.W.specialIn K (.ref B) "__getattribute__" = some (some (.builtin "type.__getattribute__")))
    (rd : PySem.W.readsIn K B (.type "type") = true) (a : PySem.W.findCls K (.ref B) (.type "type") m = some (.val (.ref f)))
    (l : K.lookup f = some ⟨oc, od, .func (PySem.W.fnOf m qual (defArgs st) (defBody st) (defScope st) .none kV dc pm an cd ct), sl⟩) (c : PySem.W.codeIn K cd qual = true) (k : PySem.W.keepIn K (.ref f) = true)
    (b : ∀ (kV doc pm : Value) (an : Option Addr) (cdv ct : Value) (us : List Value), us.length = ps.length → bindArgs (PySem.W.fnOf m qual (defArgs st) (defBody st) (defScope st) .none kV doc pm an cdv ct) ⟨us, []⟩ = pure (ps.zip us)) :
    ∀ P w base, (Gx.mk P w K mg base).RawC x m qual st ps := fun P w base =>
  have F := fun_mk (st := st) l c k
  ⟨B, f, _, F, F.binds b, ⟨ga, rd, a, k⟩, PySem.W.mg_of X G aB⟩
end
end L2
namespace L2
/-- one reading or the other: an expression whose object is of one class or of another -/
def tEither (a b : TE) : TE := fun σ H Q => a σ H Q ∨ b σ H Q
theorem pe_either {X : Cx} {e : PySem.Expr} {a b : TE} (ha : PE X e a) (hb : PE X e b) : PE X e (tEither a b) := fun pins s σ H Q I h => h.elim (fun z => ha pins s σ H Q I z) (fun z => hb pins s σ H Q I z)
end L2
namespace L2
open PySem PySem.Spec PyProof.Rows
section
variable {g : TG} {tb : TS} {D : Ends} {σ : St} {H : Hp}
end
/-! ### data without lists: it stays as long as tuples stay -/
def V0s (H : Hp) (us : List V) (ds : List PyData) : Prop := us.length = ds.length ∧ ∀ (i : Nat) u d, us[i]? = some u → ds[i]? = some d → VL H u d []
end L2
namespace L2
open PySem
end L2
namespace L2
open PySem
/-- a comprehension over a list made on the spot, of things not known before, whose things keep a promise each -/
theorem tLC_relG {K : PySem.W.Frag} {src : List (Option Nat)} {te tl : TE} {σ : St} {H : Hp} {Q : VK} (G : Addr → List V → Hp → Prop) (ha : ∀ R : V → Hp → Prop, (∀ b xs H1, SqL K H1 b xs → G b xs H1 → R (.ref b) H1) → tl σ H R)
    (hb : ∀ b xs H1, SqL K H1 b xs → G b xs H1 → xs.length ≤ 100000 ∧ ∃ Rl : Addr → Nat → V → Hp → Prop, (∀ D i y H H', Rl D i y H → Same H H' → Rl D i y H') ∧ (∀ D i y H zs zs', Rl D i y H → H D = some (.lst zs) → Rl D i y (upd H D (.lst zs'))) ∧
      (∀ D (i : Nat) x H' zs, xs[i]? = some x → Same H1 H' → H' D = some (.lst zs) → ∀ R : VK, (∀ y H'', Same H' H'' → Rl D i y H'' → R y H'') → te (some x :: capSt src σ) H' R) ∧
      (∀ D (ys : List V) H', H1 D = none → Same H1 H' → H' D = some (.lst ys) → ys.length = xs.length → (∀ (j : Nat) y, ys[j]? = some y → Rl D j y H') → Q (.ref D) H')) : tLC (none :: src) (iList K tl) (gName 0) tYes te σ H Q :=
  ha _ fun b xs H1 hS hG => by
    obtain ⟨hlen, Rl, st, su, step, fin⟩ := hb b xs H1 hS hG
    exact ⟨b, rfl, ⟨xs, hS⟩, fun D hD => lc_relD (itseq_list.imp fun H' (e : Same H1 H') => e.seq hS) (Rl D) (st D) (su D) (fun _ e => e) hD hlen (fun i x H' zs hx sm hd R r => step D i x H' zs hx sm hd R r) fun ys H' sm => fin D ys H' hD sm⟩
end L2
namespace L2
open PySem PySem.Spec PyProof.Rows
/-- zip of a list and a tuple -/
def iZipM (K : PySem.W.Frag) (ta : TA) : TI := fun σ H R => ta σ H fun vs H1 => ∃ a b xs ys, vs = [.ref a, .ref b] ∧ SqL K H1 a xs ∧ SqT K H1 b ys ∧ R (Itz (fun H xs => SqL K H a xs) (fun H ys => SqT K H b ys)) H1
section
variable {X : Cx} {elts : List Expr} {kk : Nat} {tpos : Pos}
end
section
variable {tb : TS} {D : Ends} {σ : St} {H : Hp}
end
end L2
namespace L2
open PySem
end L2
namespace L2
open PySem PySem.Spec PyProof.Rows
/-! closures: a function object of the heap, the code object it has, the cells it holds -/
abbrev FnO (f : Addr) (fd : FuncData) : HO := .ext fun h => h.get? f = some { cls := .type "function", data := .func fd }
abbrev CdO (c : Addr) (q : Str) : HO := .ext fun h => h.CodeRec (.ref c) q
abbrev CellO (c : Addr) (v : V) : HO := .ext fun h => ∃ u, RelV v u ∧ h.IsCell c (some u)
section
variable {P : Program} {w : World} {H H' : Hp} {h h' : Heap}
end
/-! cells out of sight, and back -/
def off (H : Hp) (cs : List Addr) : Hp := fun b => if b ∈ cs then none else H b
def on (H' H : Hp) (cs : List Addr) : Hp := fun b => if b ∈ cs then H b else H' b
section
variable {H H' : Hp} {cs : List Addr} {b : Addr} {o : HO}
end
/-- the cells that are held: their names, addresses, values -/
abbrev Caps := List (Str × Addr × V)
def Caps.cl (l : Caps) : List (Str × Addr) := l.map fun p => (p.1, p.2.1)
def Caps.as (l : Caps) : List Addr := l.map fun p => p.2.1
def Caps.vs (l : Caps) : List V := l.map fun p => p.2.2
def Caps.In (l : Caps) (H : Hp) : Prop := ∀ p ∈ l, H p.2.1 = some (CellO p.2.1 p.2.2)
section
variable {l : Caps} {H : Hp}
end
/-- the context of a closure's body -/
def cxCl (P : Program) (w : World) (K : PySem.W.Frag) (mg : Str → Option Value) (base : Heap) (N : List Str) (qual : Str) (scope : Scope) (f : Addr) (cd : Value) (cl : List (Str × Addr)) (A : Around) (outer : List Env) (s : Shared) (H : Hp) : Cx where
  prog := P
  w := w
  K := K
  mg := mg
  base := base
  A := A.deeper (PySem.W.envX qual scope s.heap.objs.size f cd cl)
  N := N
  s₀ := s
  H₀ := H
  env := PySem.W.envX qual scope s.heap.objs.size f cd cl
  outer := outer
  stack := PySem.W.envX qual scope s.heap.objs.size f cd cl :: outer
  ex := []
  calm := true
  fn := fun _ => false
  pn := []
  xe := fun _ _ => False
/-- names: parameters, further ones, captured ones -/
structure ClScope (N ps : List Str) (l : List Str) (sc : Scope) : Prop where
  kind : sc.kind = .function
  co : sc.isCoroutine = false
  gen : sc.isGenerator = false
  nd : N.Nodup
  pre : N.take ps.length = ps
  suf : N.drop (N.length - l.length) = l
  len : ps.length + l.length ≤ N.length
  par : ∀ x ∈ ps, sc.names.lookup x = some .local
  fre : ∀ x ∈ l, sc.names.lookup x = some .free
  nocell : ∀ y ∈ sc.names, y.2 ≠ .cell
  all : ∀ y ∈ sc.names, y.2 = .free → y.1 ∈ l
def startC (N : List Str) (vs fv : List V) : St := vs.map some ++ List.replicate (N.length - vs.length - fv.length) none ++ fv.map some
section
variable {P : Program} {w : World} {K : PySem.W.Frag} {mg : Str → Option Value} {base : Heap} {N ps : List Str} {qual name : Str} {scope : Scope} {f c : Addr} {A : Around} {outer : List Env} {s : Shared} {H : Hp} {us : List Value} {vs : List V} {l : Caps} {cd : Value}
end
/-- a closure in the heap: its object, its code, its cells -/
def ClIn (H : Hp) (f c : Addr) (fd : FuncData) (qual : Str) (l : Caps) : Prop := H f = some (FnO f fd) ∧ H c = some (CdO c qual) ∧ l.In H
end L2
namespace L2
open PySem PySem.Spec PyProof.Rows
/-! making closures -/
def Bm (mg : Str → Option Value) (base : Heap) : Prop := ∃ bm ob, mg "__builtins__" = some (.ref bm) ∧ bm ≠ builtinsNs ∧ bm ≠ mainGlobals ∧ base.get? bm = some ob ∧ ob.cls = .type "module" ∧ ob.dict = some builtinsNs ∧ ob.data = .plain
section
variable {X : Cx} {pins : List (Addr × Obj)} {σ : St} {H : Hp} {s : Shared}
end
/-- a function is made: its code for the first time, or again -/
def Made (P : Addr) (pos : Pos) (q : Str) (mk : Addr → FuncData → Prop) (H : Hp) (Q : VK) : Prop := ∃ ps, H P = some (.tbl ps) ∧ TriplesOk ps.toList ∧
  ((codeAmong pos ps.toList = none ∧ ∀ f c fd, H f = none → H c = none → f ≠ c → mk c fd → Q (.ref f) (upd (upd (upd H P (.tbl (ps ++ #[rawInt pos.line, rawInt pos.col, .ref c]))) c (CdO c q)) f (FnO f fd))) ∨
   ∃ c, codeAmong pos ps.toList = some (.ref c) ∧ ∀ f fd, H f = none → mk c fd → Q (.ref f) (upd H f (FnO f fd)))
section
variable {X : Cx} {c P : Addr} {name qual : Str} {params : Arguments} {body : List Stmt} {eb : Expr} {scope : Scope} {clos : List (Str × Addr)} {pos : Pos} {ln : Nat}
abbrev FnMk (name qual : Str) (params : Arguments) (body : List Stmt) (scope : Scope) (clos : List (Str × Addr)) (c : Addr) (fd : FuncData) : Prop := ∃ doc pm ctv, fd = PySem.W.fnX name qual params body scope clos .none .none doc pm none (.ref c) ctv
abbrev LamMk (qual : Str) (params : Arguments) (body : Expr) (scope : Scope) (clos : List (Str × Addr)) (c : Addr) (fd : FuncData) : Prop := ∃ pm ctv, fd = PySem.W.kla_fn "<lambda>" qual params body scope clos pm (.ref c) ctv
/-- def name(..): within a body -/
def tDef (i : Nat) (P : Addr) (pos : Pos) (q : Str) (mk : Addr → FuncData → Prop) : TS := fun D σ H => Made P pos q mk H fun v H' => D.nx (σ.set i (some v)) H'
/-- lambda ..: -/
def tLam (P : Addr) (pos : Pos) (q : Str) (mk : Addr → FuncData → Prop) : TE := fun _ H Q => Made P pos q mk H Q
end
/-! leaving a body: its cells stay, and are seen -/
def lay (H : Hp) : Caps → Hp
  | [] => H
  | p :: l => upd (lay H l) p.2.1 (CellO p.2.1 p.2.2)
/-- the state's cells -/
def CellsOf (X : Cx) (σ : St) (l : Caps) : Prop := l.as.Nodup ∧ ∀ p ∈ l, ∃ i : Nat, X.N[i]? = some p.1 ∧ σ[i]? = some (some p.2.2) ∧ X.env.kindOf p.1 = some .cell ∧ X.env.cells.lookup p.1 = some p.2.1
/-- a body that returns, with the state at the end -/
def PR (X : Cx) (b : List Stmt) (t : (St → V → Hp → Prop) → St → Hp → Prop) : Prop := ∀ (pins : List (Addr × Obj)) (s : Shared) (σ : St) (H : Hp) (R : St → V → Hp → Prop), Inv X pins σ H s → t R σ H →
  wpAny (model X.prog X.w) X.A (execs b X.env) (fun fl s' => ∃ u, fl = .ret u ∧ ∃ v σ' H', Inv X pins σ' H' s' ∧ RelV v u ∧ R σ' v H') X.xe s
section
variable {X : Cx} {st : Stmt} {rest : List Stmt} {t : TS} {u : (St → V → Hp → Prop) → St → Hp → Prop} {e : Expr} {te : TE} {pos : Pos}
def rRet (te : TE) : (St → V → Hp → Prop) → St → Hp → Prop := fun R σ H => te σ H fun v H' => R σ v H'
def rSeq (t : TS) (u : (St → V → Hp → Prop) → St → Hp → Prop) : (St → V → Hp → Prop) → St → Hp → Prop := fun R σ H => t { nx := u R, rt := fun _ _ => False } σ H
end
end L2
namespace L2
open PySem PySem.Spec PyProof.Rows
/-! a call of a closure that a name holds -/
def tCallC (g : Gx) (k i : Nat) (t : TA) : TE := fun σ H Q => ∃ f fd ps sp, σ[i]? = some (some (.ref f)) ∧ FnOk g.P g.w g.K g.mg g.base CX0 k f fd ps sp ∧ (∀ us : List Value, us.length = ps.length → bindArgs fd ⟨us, []⟩ = pure (ps.zip us)) ∧ H f = some (FnO f fd) ∧ t σ H fun vs H1 => H1 f = some (FnO f fd) ∧ sp vs H1 Q E0
section
variable {X : Cx} {g : Gx} {k j i : Nat} {x : Str} {p pos : Pos} {e : Expr} {es : List Expr} {t : TA}
end
/-! the law's entry, with the tables of the defs that make functions -/
abbrev Tbs := List (Str × Addr × Addr)
/-- what the law is asked for, the tables at hand -/
def spTrueT (K : PySem.W.Frag) (tabs : Tbs) : Sp := fun vs H Q _ => ∃ (a : Addr) (ns : List Int), vs = [.ref a] ∧ SqL K H a (ns.map V.int) ∧ ns.length ≤ 63 ∧ (∀ q ∈ tabs, H q.2.2 = some (.tbl #[])) ∧ ∀ H', Q (.bl true) H'
/-! defs that make functions -/
def inDef (s : Stmt) (j : Nat) : Stmt := (defBody s).getD j (.Pass ⟨0, 0, 0, 0⟩)
def Gx.RawT (g : Gx) (x qual : Str) (st : Stmt) (ps : List Str) (c : Addr) : Prop := ∃ f fd, Fun g.K x qual st f fd ∧ Binds g.K fd ps [] ∧ g.mg x = some (.ref f) ∧ fd.code = .ref c
end L2
namespace HT
open PySem PySem.Spec PyProof.Rows
variable {prog : Program} {w : World} {A : Around} {E : Value → Shared → Prop} {s : Shared}
end HT
namespace L2
open PySem PySem.Spec PyProof.Rows
/-- t[lo:hi] that is the whole of t: t itself -/
def rSlTA (K : PySem.W.Frag) : V → Option Int → Option Int → Hp → VK → Prop := fun x lo hi H Q => ∃ a xs, x = .ref a ∧ SqT K H a xs ∧ (HT.sIx xs.length 0 lo = 0 ∧ HT.sIx xs.length xs.length hi = xs.length) ∧ Q (.ref a) H
/-- either way -/
def rSlT2 (K : PySem.W.Frag) : V → Option Int → Option Int → Hp → VK → Prop := fun x lo hi H Q => ∃ a xs, x = .ref a ∧ SqT K H a xs ∧ (∀ p, H p = none → Q (.ref p) (upd H p (.tup (cutV xs lo hi)))) ∧ (cutV xs lo hi = xs → Q (.ref a) H)
end L2
namespace L2
open PySem PySem.Spec PyProof.Rows
section
variable {tb : TS} {D : Ends} {σ : St} {H : Hp}
end
section
variable {src : List (Option Nat)} {te : TE} {tt : TT} {σ : St} {H : Hp} {Q : VK}
end
end L2
namespace L2
open PySem PySem.Spec PyProof.Rows
/-! the text of a lambda that a def returns -/
def retE (s : Stmt) : Expr := match s with
  | .Return (some e) _ => e
  | _ => .Constant .none 0 ⟨0, 0, 0, 0⟩
def lamArgs (e : Expr) : Arguments := match e with
  | .Lambda a _ _ _ => a
  | _ => { posonlyargs := [], args := [], vararg := none, kwonlyargs := [], kw_defaults := [], kwarg := none, defaults := [] }
def lamBody (e : Expr) : Expr := match e with
  | .Lambda _ b _ _ => b
  | e => e
def lamScope (e : Expr) : Scope := match e with
  | .Lambda _ _ sc _ => sc
  | _ => { kind := .function, names := [], isGenerator := false, isCoroutine := false }
end L2
namespace L2
open PySem PySem.Spec PyProof.Rows
/-! a def with defaults, called without them -/
structure FunD (K : PySem.W.Frag) (x qual : Str) (st : Stmt) (f : Addr) (fd : FuncData) (T : Addr) : Prop where
  ex : ∃ (oc : Value) (od : Option Addr) (kV doc pm : Value) (an : Option Addr) (cdv ct : Value) (osl : Array (Option Value)),
    fd = PySem.W.fnOf x qual (defArgs st) (defBody st) (defScope st) (.ref T) kV doc pm an cdv ct ∧ K.lookup f = some ⟨oc, od, .func fd, osl⟩ ∧ PySem.W.codeIn K cdv qual = true
  kp : PySem.W.keepIn K (.ref f) = true
def Gx.RawD (g : Gx) (x qual : Str) (st : Stmt) (ps : List Str) (dvs : List V) : Prop := ∃ f fd T ds, FunD g.K x qual st f fd T ∧ Vals dvs ds ∧ Binds g.K fd ps ds ∧ g.mg x = some (.ref f)
def Gx.FnD (g : Gx) (k : Nat) (x : Str) (ps : List Str) (dvs : List V) (sp : Sp) : Prop := ∃ f fd ds, FnOk g.P g.w g.K g.mg g.base CX0 k f fd ps sp ∧ Vals dvs ds ∧ Binds g.K fd ps ds ∧ PySem.W.keepIn g.K (.ref f) = true ∧ g.mg x = some (.ref f)
section
variable {g : Gx} {x qual : Str} {st : Stmt} {N ps : List Str} {dvs : List V} {sp : Sp} {j k : Nat}
variable {X : Cx} {p pos : Pos} {e : Expr} {es : List Expr} {t : TA}
end
/-! list(range(n)) -/
section
variable {X : Cx}
def tLR (ta : TA) : TE := fun σ H Q => ta σ H fun vs H1 => ∃ n : Nat, vs = [.int n] ∧ n ≤ 10000 ∧ ∀ l, H1 l = none → Q (.ref l) (upd H1 l (.lst ((List.range n).map fun (i : Nat) => V.int (i : Int))))
end
section
variable {src : List (Option Nat)} {te : TE} {σ : St} {H : Hp} {Q : VK}
/-- a comprehension over range(n), n reckoned by a call -/
theorem tLC_rangeG {ta : TA} {n : Nat} (f : Nat → V) (ha : ∀ R : List V → Hp → Prop, (∀ H1, Same H H1 → R [.int n] H1) → ta σ H R) (hlen : n ≤ 100000)
    (step : ∀ (i : Nat) H', i < n → Same H H' → ∀ R : VK, (∀ H'', Same H' H'' → R (f i) H'') → te (some (.int i) :: capSt src σ) H' R)
    (fin : ∀ D H', H D = none → Same H H' → H' D = some (.lst ((List.range n).map f)) → Q (.ref D) H') : tLC (none :: src) (iRng1 ta) (gName 0) tYes te σ H Q := by
  refine ha _ fun H1 s1 => ⟨n, rfl, by omega, by omega, fun D hD => ?_⟩
  refine lc_map (itseq_range (lo := 0) (n := n) (P := fun _ => True)) ((List.range n).map f) (fun _ _ => trivial) hD (by simp) (by simpa using hlen) (fun i x y H' hx hy sm R r => ?_) fun H' sm hd => fin D H' (s1.free hD) (s1.trans sm) hd
  have hi : i < n := by have := (List.getElem?_eq_some_iff.mp hx).1; simpa using this
  rw [List.getElem?_map, List.getElem?_range hi] at hx hy
  have e : V.int (0 + (i : Int)) = x := Option.some.inj hx
  rw [Int.zero_add] at e
  have e2 : f i = y := Option.some.inj hy
  subst e e2
  exact step i H' hi (s1.trans sm) R r
end
end L2
set_option maxHeartbeats 8000000
namespace KW
open PySem L2

def top (i : Nat) : Stmt := PySem.Challenge.pw_countgen_k62_drawn_values.main.body.getD i (.Pass ⟨0, 0, 0, 0⟩)
abbrev s_wall : Stmt := top 0
abbrev s_edge_of : Stmt := top 8
theorem sc_edge_of : FnScope ["base", "count"] ["base", "count"] (defScope s_edge_of) := ⟨rfl, rfl, rfl, by decide +kernel, rfl, by decide +kernel, by decide +kernel⟩
abbrev s_all_fair : Stmt := top 9
theorem sc_all_fair : FnScope ["numbers", "base", "count", "edge"] ["numbers", "base", "count"] (defScope s_all_fair) := ⟨rfl, rfl, rfl, by decide +kernel, rfl, by decide +kernel, by decide +kernel⟩
abbrev s_parts_of : Stmt := top 12
abbrev s_shape_of : Stmt := top 14
abbrev s_sets_among : Stmt := top 16
abbrev s_bags_among : Stmt := top 17
abbrev s_greatest_number : Stmt := top 18
abbrev s_set_at : Stmt := top 19
abbrev s_bag_at : Stmt := top 20
abbrev s_ways_of : Stmt := top 23
abbrev s_found_in : Stmt := top 24
abbrev s_least_distance : Stmt := top 29
theorem sc_least_distance : FnScope ["size"] ["size"] (defScope s_least_distance) := ⟨rfl, rfl, rfl, by decide +kernel, rfl, by decide +kernel, by decide +kernel⟩
abbrev s_maker_for : Stmt := top 40
theorem sc_maker_for : FnScope ["book", "shape"] ["book", "shape"] (defScope s_maker_for) := ⟨rfl, rfl, rfl, by decide +kernel, rfl, by decide +kernel, by decide +kernel⟩
abbrev s_drawn_values : Stmt := top 42
theorem sc_drawn_values : FnScope ["book", "shape", "size", "numbers", "base", "maker"] ["book", "shape", "size", "numbers", "base"] (defScope s_drawn_values) := ⟨rfl, rfl, rfl, by decide +kernel, rfl, by decide +kernel, by decide +kernel⟩
abbrev s_law_cell_at : Stmt := top 44
theorem sc_law_cell_at : FnScope ["_law_script", "_law_k"] ["_law_script", "_law_k"] (defScope s_law_cell_at) := ⟨rfl, rfl, rfl, by decide +kernel, rfl, by decide +kernel, by decide +kernel⟩
abbrev s_law_signs : Stmt := top 45
theorem sc_law_signs : FnScope ["_law_cell", "_law_many", "_law_some"] ["_law_cell", "_law_many"] (defScope s_law_signs) := ⟨rfl, rfl, rfl, by decide +kernel, rfl, by decide +kernel, by decide +kernel⟩
abbrev s_law_count : Stmt := top 46
theorem sc_law_count : FnScope ["_law_shape", "_law_size", "_law_count_here", "_law_k", "_law_most"] ["_law_shape", "_law_size"] (defScope s_law_count) := ⟨rfl, rfl, rfl, by decide +kernel, rfl, by decide +kernel, by decide +kernel⟩
abbrev s_law_value : Stmt := top 47
theorem sc_law_value : FnScope ["_law_shape", "_law_size", "_law_number", "_law_signs_here", "_law_k", "_law_place"] ["_law_shape", "_law_size", "_law_number"] (defScope s_law_value) := ⟨rfl, rfl, rfl, by decide +kernel, rfl, by decide +kernel, by decide +kernel⟩
abbrev s_law_refused : Stmt := top 48
theorem sc_law_refused : FnScope ["_law_book", "_law_shape", "_law_size", "_law_numbers", "_law_base", "_law_error", "e"] ["_law_book", "_law_shape", "_law_size", "_law_numbers", "_law_base"] (defScope s_law_refused) := ⟨rfl, rfl, rfl, by decide +kernel, rfl, by decide +kernel, by decide +kernel⟩
abbrev s_law_alike : Stmt := top 49
theorem sc_law_alike : FnScope ["_law_found", "_law_due", "_law_one", "_law_other"] ["_law_found", "_law_due"] (defScope s_law_alike) := ⟨rfl, rfl, rfl, by decide +kernel, rfl, by decide +kernel, by decide +kernel⟩
abbrev s_law : Stmt := top 50
theorem sc_law : FnScope ["_law_script", "_law_low", "_law_shape", "_law_size", "_law_book", "_law_count_here", "_law_base", "_law_first", "_law_numbers", "_law_due", "_law_number", "_law_handed", "_law_found"] ["_law_script"] (defScope s_law) := ⟨rfl, rfl, rfl, by decide +kernel, rfl, by decide +kernel, by decide +kernel⟩
abbrev s_Lister___init__ : Stmt := inClass (top 39) 0
theorem sc_Lister___init__ : FnScope ["self", "book"] ["self", "book"] (defScope s_Lister___init__) := ⟨rfl, rfl, rfl, by decide +kernel, rfl, by decide +kernel, by decide +kernel⟩
abbrev s_Lister_maker_of : Stmt := inClass (top 39) 1
theorem sc_Lister_maker_of : FnScope ["self", "shape"] ["self", "shape"] (defScope s_Lister_maker_of) := ⟨rfl, rfl, rfl, by decide +kernel, rfl, by decide +kernel, by decide +kernel⟩
abbrev s_Lister_new_maker : Stmt := inClass (top 39) 3
theorem sc_Lister_new_maker : FnScope ["self", "shape", "kind", "parts"] ["self", "shape"] (defScope s_Lister_new_maker) := ⟨rfl, rfl, rfl, by decide +kernel, rfl, by decide +kernel, by decide +kernel⟩
abbrev s_WholeMaker___init__ : Stmt := inClass (top 30) 0
theorem sc_WholeMaker___init__ : FnScope ["self", "low", "high"] ["self", "low", "high"] (defScope s_WholeMaker___init__) := ⟨rfl, rfl, rfl, by decide +kernel, rfl, by decide +kernel, by decide +kernel⟩
abbrev s_WholeMaker_reckoned : Stmt := inClass (top 30) 1
theorem sc_WholeMaker_reckoned : FnScope ["self", "size", "greatest"] ["self", "size"] (defScope s_WholeMaker_reckoned) := ⟨rfl, rfl, rfl, by decide +kernel, rfl, by decide +kernel, by decide +kernel⟩
abbrev s_WholeMaker_value_at : Stmt := inClass (top 30) 2
theorem sc_WholeMaker_value_at : FnScope ["self", "size", "number"] ["self", "size", "number"] (defScope s_WholeMaker_value_at) := ⟨rfl, rfl, rfl, by decide +kernel, rfl, by decide +kernel, by decide +kernel⟩
abbrev s_TextMaker___init__ : Stmt := inClass (top 31) 0
theorem sc_TextMaker___init__ : FnScope ["self", "signs"] ["self", "signs"] (defScope s_TextMaker___init__) := ⟨rfl, rfl, rfl, by decide +kernel, rfl, by decide +kernel, by decide +kernel⟩
abbrev s_TextMaker_reckoned : Stmt := inClass (top 31) 1
theorem sc_TextMaker_reckoned : FnScope ["self", "size"] ["self", "size"] (defScope s_TextMaker_reckoned) := ⟨rfl, rfl, rfl, by decide +kernel, rfl, by decide +kernel, by decide +kernel⟩
abbrev s_TextMaker_value_at : Stmt := inClass (top 31) 2
theorem sc_TextMaker_value_at : FnScope ["self", "size", "number", "found", "left", "each"] ["self", "size", "number"] (defScope s_TextMaker_value_at) := ⟨rfl, rfl, rfl, by decide +kernel, rfl, by decide +kernel, by decide +kernel⟩
abbrev s_Maker___init__ : Stmt := inClass (top 28) 0
theorem sc_Maker___init__ : FnScope ["self"] ["self"] (defScope s_Maker___init__) := ⟨rfl, rfl, rfl, by decide +kernel, rfl, by decide +kernel, by decide +kernel⟩
abbrev s_WholeMaker_count_at : Stmt := inClass (top 28) 1
theorem sc_WholeMaker_count_at : FnScope ["self", "size"] ["self", "size"] (defScope s_WholeMaker_count_at) := ⟨rfl, rfl, rfl, by decide +kernel, rfl, by decide +kernel, by decide +kernel⟩
abbrev s_TextMaker_count_at : Stmt := inClass (top 28) 1
theorem sc_TextMaker_count_at : FnScope ["self", "size"] ["self", "size"] (defScope s_TextMaker_count_at) := ⟨rfl, rfl, rfl, by decide +kernel, rfl, by decide +kernel, by decide +kernel⟩
variable {g : Gx}
local macro_rules | `(tactic| walk_at "gn") => `(tactic| simp only [gName, List.set_cons_zero, List.set_cons_succ])
local macro_rules | `(tactic| walk_at "rd") => `(tactic| simp (config := { failIfUnchanged := false, maxSteps := 10000000 }) only [L2.start, cxOf_K, nox_K, List.map_cons, List.map_nil, List.length_cons, List.length_nil, List.cons_append, List.nil_append, List.replicate_succ, List.replicate_zero, Nat.zero_add, Nat.reduceAdd, Nat.reduceSub, Nat.sub_self, tSeq, tIfS, tTest, tOp, tC, tVar, rI0, rI, rU, tUn, tRet, tRetN, tDrop, tNext, tBreak, tCont, tAsg, gName, gNil, gCons, tCons, tNil, tCB, tCall, tTry, tTryAs, tRaise, sFld, tFld, tMake, tMeth, Ends.gone, caught_K, tB, tAnd, tOr, tNot, tAndV, tOrV, tNotV, tIf, tChain, tNoPart, tPart, tSl, tNever, tAug, rIxL, rIxT, rSlL, tLst, tTup, gTup, tRev, tLZ, tConT, tDict0, tDNewT, tDGet, sDPut, rNotInD, rInD, tEither, tSlStep, rBits, rFind, rIn, tBM, tBM0, rAppend, rReverse, rEq, rNe, scal_ii, scal_ss, rCat, rSetL, gSub, ipI, capSt, List.getD_cons_zero, List.getD_cons_succ, decide_true, not_true_eq_false, not_false_eq_true,
  exists_eq_left', exists_eq_left, exists_eq', exists_eq, exists_and_left, and_assoc, Option.some.injEq, V.int.injEq, V.bl.injEq, V.ref.injEq, V.str.injEq, List.getElem?_cons_zero, List.getElem?_cons_succ, List.set_cons_zero, List.set_cons_succ, List.cons.injEq, and_true, true_and, List.append_nil, decide_eq_true_eq, Bool.not_eq_true', decide_eq_false_iff_not, Bool.not_not, Bool.not_true, Bool.not_false, Bool.true_eq_false, Bool.false_eq_true, if_true, if_false, ite_true, ite_false])
theorem cm {i j : Int} {m n : Nat} (h1 : i.natAbs < 2 ^ m) (h2 : j.natAbs < 2 ^ n) (h : m + n ≤ 100000000 := by decide) : CMulB i j := ⟨m, n, h1, h2, h⟩
theorem cpow {i j : Int} (h : 0 ≤ j ∧ j ≤ 1000000 ∧ i.natAbs < 2 ^ 64 := by decide) : CPow i j := h
theorem few {n : Nat} (h : n ≤ 100000) : n ≤ sizeLine := Nat.le_trans h (by decide)
/-! what the law reads of its script -/
def sp_law_whole : Sp := fun vs H Q _ => ∃ i : Int, vs = [.int i] ∧ Q (.bl true) H
def sp_law_cell_at (K : PySem.W.Frag) : Sp := fun vs H Q _ => ∃ (a : Addr) (ns : List Int) (k : Nat), vs = [.ref a, .int k] ∧ SqL K H a (ns.map V.int) ∧ ns.length ≤ 63 ∧ Q (.int (ns.getD k 0)) H
theorem getD_at {ns : List Int} {k : Nat} (h : k < ns.length) : atI (ns.map V.int) (k : Int) = some (.int (ns.getD k 0)) := atI_nat (by rw [List.getElem?_map, List.getElem?_eq_getElem h]; simp [h])
theorem ok_law_cell_at {C_CountError : Addr} {C_NoDraw : Addr} {C_NoNumber : Addr} {C_TooMany : Addr} {C_Lister : Addr} {C_TextMaker : Addr} {C_WholeMaker : Addr} (R : g.Raw "_law_cell_at" "_law_cell_at" s_law_cell_at ["_law_script", "_law_k"]) (b_len : g.mg "len" = none) : g.Fn (1) "_law_cell_at" ["_law_script", "_law_k"] (sp_law_cell_at g.K) := by
  refine R.fn sc_law_cell_at (fun vs H Q E h => by obtain ⟨a, ns, k, rfl, hS, hl, q⟩ := h; rfl) fun f_ cdv A outer s H vs Q E hr h => ?_
  obtain ⟨a, ns, k, rfl, hS, hl, q⟩ := h
  refine ⟨_, (@pss_cons _ _ _ _ _ (@ps_if _ _ _ _ _ _ _ _ (@pt_cmpR _ _ _ _ _ _ _ _ op_lt (@pv _ 1 _ _ (by rfl) (by first | exact Or.inl rfl | exact Or.inr (Or.inl rfl) | exact Or.inr (Or.inr rfl)) (by decide) (by decide)) (@pe_bf _ _ _ _ _ _ _ _ _ _ b_len call_len_seq (@pa_cons _ _ _ _ _ (@pv _ 0 _ _ (by rfl) (by first | exact Or.inl rfl | exact Or.inr (Or.inl rfl) | exact Or.inr (Or.inr rfl)) (by decide) (by decide)) pa_nil (by rfl)) (by decide +kernel) (by rfl) (by rfl) (by decide) (by decide) (by rfl) (by rfl)) (nomark _)) (@pss_one _ _ _ (@ps_ret _ _ _ _ (@pe_ix _ _ _ _ _ _ _ ix_list (@pv _ 0 _ _ (by rfl) (by first | exact Or.inl rfl | exact Or.inr (Or.inl rfl) | exact Or.inr (Or.inr rfl)) (by decide) (by decide)) (@pv _ 1 _ _ (by rfl) (by first | exact Or.inl rfl | exact Or.inr (Or.inl rfl) | exact Or.inr (Or.inr rfl)) (by decide) (by decide)) (fun _ _ => rfl)))) pss_nil) (@pss_one _ _ _ (@ps_ret _ _ _ _ pe_int))), ?_⟩
  walk_at "rd"
  refine ⟨_, .inl hS, ?_⟩
  refine ite2 (fun c => ?_) (fun c => ?_)
  · have c' := c
    rw [List.length_map] at c'
    exact ⟨_, hS, _, getD_at (by omega), q⟩
  · have c' := c
    rw [List.length_map] at c'
    rw [show ns.getD k 0 = 0 by simp [show ns.length ≤ k by omega]] at q
    exact q
/-- all but one thing stays -/
def SameBut (p : Addr) (H H' : Hp) : Prop := ∀ q o, q ≠ p → H q = some o → H' q = some o
theorem SameBut.refl (p : Addr) (H : Hp) : SameBut p H H := fun _ _ _ h => h
theorem SameBut.trans {p : Addr} {H H1 H2 : Hp} (a : SameBut p H H1) (b : SameBut p H1 H2) : SameBut p H H2 := fun q o n h => b q o n (a q o n h)
theorem Same.but {p : Addr} {H H' : Hp} (a : Same H H') : SameBut p H H' := fun q o _ h => a q o h
theorem SameBut.upd {p : Addr} {H H' : Hp} (a : SameBut p H H') (o : HO) : SameBut p H (upd H' p o) := fun q u n h => by rw [upd_ne n]; exact a q u n h
/-- all stays, where the one thing was not there -/
theorem SameBut.new {p : Addr} {H0 H H' : Hp} (a : SameBut p H H') (s : Same H0 H) (n : H0 p = none) : Same H0 H' := fun q o h => a q o (ne_of_none h n) (s q o h)
inductive Sh | w (lo : Int) (span : Nat) | t (sg : List Nat)
def wc (span : Int) (k : Nat) : Int := if (if (1 * 2 ^ k - 1 : Int) < span then (1 * 2 ^ k - 1 : Int) else span) - 1 * 2 ^ k / 2 ^ 1 + 1 > 0 then (if (1 * 2 ^ k - 1 : Int) < span then (1 * 2 ^ k - 1 : Int) else span) - 1 * 2 ^ k / 2 ^ 1 + 1 else 0
def cnt : Sh → Nat → Int
  | .w _ span, k => wc span k
  | .t sg, k => (sg.length : Int) ^ k
def Sh.ok : Sh → Prop
  | .w _ _ => True
  | .t sg => sg.length ≤ 62
def mf (cl : Addr) : Sh → List (Str × V)
  | .w lo span => [("counts", .ref cl), ("low", .int lo), ("span", .int span)]
  | .t sg => [("counts", .ref cl), ("signs", .str (S sg))]
def mC (CW CT : Addr) : Sh → Addr
  | .w _ _ => CW
  | .t _ => CT
def shV : Sh → List V
  | .w lo span => [.str "whole", .int lo, .int (lo + span)]
  | .t sg => [.str "text", .str (S sg)]
def AtSh (H : Hp) (a : Addr) (sh : Sh) : Prop := H a = some (.tup (shV sh))
def cnts (f : Nat → Int) (n : Nat) : List V := (List.range n).map fun k => V.int (f k)
theorem cnts_len (f : Nat → Int) (n : Nat) : (cnts f n).length = n := by simp [cnts]
theorem cnts_succ (f : Nat → Int) (n : Nat) : cnts f (n + 1) = cnts f n ++ [.int (f n)] := by simp [cnts, List.range_succ]
theorem cnts_at (f : Nat → Int) {n i : Nat} (h : i < n) : atI (cnts f n) (i : Int) = some (.int (f i)) := atI_nat (by simp [cnts, h])
/-- a maker with the counts of n sizes reckoned -/
def Maker (CW CT : Addr) (H : Hp) (p : Addr) (sh : Sh) (cl : Addr) (n : Nat) : Prop := ∃ dx, H p = some (.ins (mC CW CT sh) dx (mf cl sh)) ∧ H cl = some (.lst (cnts (cnt sh) n))
theorem ncl : ¬ (("counts" : Str) = "low") := by decide +kernel
theorem ncs : ¬ (("counts" : Str) = "span") := by decide +kernel
theorem nls : ¬ (("low" : Str) = "span") := by decide +kernel
theorem ncg : ¬ (("counts" : Str) = "signs") := by decide +kernel
theorem mfw (cl : Addr) (lo : Int) (span : V) : putF "span" span (putF "low" (.int lo) (putF "counts" (.ref cl) [])) = ([("counts", .ref cl), ("low", .int lo), ("span", span)] : List (Str × V)) := by
  simp only [putF, if_neg ncl, if_neg ncs, if_neg nls]
theorem mft (cl : Addr) (sg : V) : putF "signs" sg (putF "counts" (.ref cl) []) = ([("counts", .ref cl), ("signs", sg)] : List (Str × V)) := by
  simp only [putF, if_neg ncg]
theorem mf_counts (cl : Addr) (sh : Sh) : (mf cl sh).lookup ("counts" : Str) = some (.ref cl) := by cases sh <;> rfl
theorem mf_no (cl : Addr) (sh : Sh) {m : Str} (h1 : (m == ("counts" : Str)) = false) (h2 : (m == ("low" : Str)) = false) (h3 : (m == ("span" : Str)) = false) (h4 : (m == ("signs" : Str)) = false) : (mf cl sh).lookup m = none := by
  cases sh
  · show List.lookup m [(("counts" : Str), V.ref cl), (("low" : Str), _), (("span" : Str), _)] = _
    rw [List.lookup_cons, h1, List.lookup_cons, h2, List.lookup_cons, h3]; rfl
  · show List.lookup m [(("counts" : Str), V.ref cl), (("signs" : Str), _)] = _
    rw [List.lookup_cons, h1, List.lookup_cons, h4]; rfl
theorem mf_reck (cl : Addr) (sh : Sh) : (mf cl sh).lookup ("reckoned" : Str) = none := mf_no cl sh (by decide +kernel) (by decide +kernel) (by decide +kernel) (by decide +kernel)
theorem mf_count (cl : Addr) (sh : Sh) : (mf cl sh).lookup ("count_at" : Str) = none := mf_no cl sh (by decide +kernel) (by decide +kernel) (by decide +kernel) (by decide +kernel)
theorem dle (x k : Nat) : decide ((x : Int) ≤ (k : Int)) = decide (x ≤ k) := decide_eq_decide.mpr (by omega)
theorem lt1000 {fs : List (Str × V)} (h : fs.length ≤ 3) : fs.length < 1000 := by omega
end KW
set_option maxHeartbeats 8000000
namespace KW
open PySem L2

variable {g : Gx}
variable {m : Nat}
local macro_rules | `(tactic| walk_at "gn") => `(tactic| simp only [gName, List.set_cons_zero, List.set_cons_succ])

local macro_rules | `(tactic| walk_at "rd") => `(tactic| simp (config := { failIfUnchanged := false, maxSteps := 10000000 }) only [L2.start, cxOf_K, nox_K, List.map_cons, List.map_nil, List.length_cons, List.length_nil, List.cons_append, List.nil_append, List.replicate_succ, List.replicate_zero, Nat.zero_add, Nat.reduceAdd, Nat.reduceSub, Nat.sub_self, tSeq, tIfS, tTest, tOp, tC, tVar, rI0, rI, rU, tUn, tRet, tRetN, tDrop, tNext, tBreak, tCont, tAsg, gName, gNil, gCons, tCons, tNil, tCB, tCall, tTry, tTryAs, tRaise, sFld, tFld, tMake, tMeth, Ends.gone, caught_K, tB, tAnd, tOr, tNot, tAndV, tOrV, tNotV, tIf, tChain, tNoPart, tPart, tSl, tNever, tAug, rIxL, rIxT, rSlL, tLst, tTup, gTup, tRev, tLZ, tConT, tDict0, tDNewT, tDGet, sDPut, rNotInD, rInD, tEither, tSlStep, rBits, rFind, rIn, tBM, tBM0, rAppend, rReverse, rEq, rNe, scal_ii, scal_ss, rCat, rSetL, gSub, ipI, capSt, List.getD_cons_zero, List.getD_cons_succ, decide_true, not_true_eq_false, not_false_eq_true,
  exists_eq_left', exists_eq_left, exists_eq', exists_eq, exists_and_left, and_assoc, Option.some.injEq, V.int.injEq, V.bl.injEq, V.ref.injEq, V.str.injEq, List.getElem?_cons_zero, List.getElem?_cons_succ, List.set_cons_zero, List.set_cons_succ, List.cons.injEq, and_true, true_and, List.append_nil, decide_eq_true_eq, Bool.not_eq_true', decide_eq_false_iff_not, Bool.not_not, Bool.not_true, Bool.not_false, Bool.true_eq_false, Bool.false_eq_true, if_true, if_false, ite_true, ite_false])

def sp_Maker_init (K : PySem.W.Frag) (CW CT : Addr) : Sp := fun vs H Q _ => ∃ (p dx C : Addr), vs = [.ref p] ∧ (C = CW ∨ C = CT) ∧ H p = some (.ins C dx []) ∧ ∀ cl, H cl = none → Q .non (upd (upd H cl (.lst [])) p (.ins C dx [("counts", .ref cl)]))
theorem ok_Maker___init__ {C_CountError : Addr} {C_NoDraw : Addr} {C_NoNumber : Addr} {C_TooMany : Addr} {C_Lister : Addr} {C_TextMaker : Addr} {C_WholeMaker : Addr} (R : g.RawC "Maker" "__init__" "Maker.__init__" s_Maker___init__ ["self"]) (cl_TextMaker : Cls g.K C_TextMaker) (n_TextMaker_counts : NoAttr g.K C_TextMaker "counts") (n_TextMaker_signs : NoAttr g.K C_TextMaker "signs") (cl_WholeMaker : Cls g.K C_WholeMaker) (n_WholeMaker_counts : NoAttr g.K C_WholeMaker "counts") (n_WholeMaker_low : NoAttr g.K C_WholeMaker "low") (n_WholeMaker_span : NoAttr g.K C_WholeMaker "span") : g.Cf (1) "Maker" "__init__" ["self"] (sp_Maker_init g.K C_WholeMaker C_TextMaker) := by
  refine R.cf sc_Maker___init__ (fun vs H Q E h => by obtain ⟨p, dx, C, rfl, hC, hp, q⟩ := h; rfl) fun f_ cdv A outer s H vs Q E hr h => ?_
  obtain ⟨p, dx, C, rfl, hC, hp, q⟩ := h
  refine ⟨_, (@pss_one _ _ _ (@ps_fld _ _ _ _ _ _ _ _ (@pv _ 0 _ _ (by rfl) (by first | exact Or.inl rfl | exact Or.inr (Or.inl rfl) | exact Or.inr (Or.inr rfl)) (by decide) (by decide)) (@pe_lst _ _ _ _ pa_nil) rfl)), ?_⟩
  walk_at "rd"
  refine ⟨few (by decide), fun cl hcl => ⟨C, dx, [], by rw [upd_ne (ne_of_none hp hcl)]; exact hp, ?_, ?_, by decide, q cl hcl⟩⟩
  · rcases hC with rfl | rfl <;> assumption
  · rcases hC with rfl | rfl <;> assumption
def sp_Wm_init (K : PySem.W.Frag) (CW CT : Addr) : Sp := fun vs H Q _ => ∃ (p dx : Addr) (lo : Int) (span : Nat), vs = [.ref p, .int lo, .int (lo + span)] ∧ H p = some (.ins CW dx []) ∧ ∀ cl H', H cl = none → SameBut p H H' → Maker CW CT H' p (.w lo span) cl 0 → Q .non H'
theorem ok_WholeMaker___init__ {k : Nat} {C_CountError : Addr} {C_NoDraw : Addr} {C_NoNumber : Addr} {C_TooMany : Addr} {C_Lister : Addr} {C_TextMaker : Addr} {C_WholeMaker : Addr} (R : g.RawI "WholeMaker" C_WholeMaker "WholeMaker.__init__" s_WholeMaker___init__ ["self", "low", "high"]) (F_Maker___init__ : g.Cf k "Maker" "__init__" ["self"] (sp_Maker_init g.K C_WholeMaker C_TextMaker)) (cl_WholeMaker : Cls g.K C_WholeMaker) (n_WholeMaker_counts : NoAttr g.K C_WholeMaker "counts") (n_WholeMaker_low : NoAttr g.K C_WholeMaker "low") (n_WholeMaker_span : NoAttr g.K C_WholeMaker "span") : g.Ma (k + 1) "WholeMaker" C_WholeMaker ["self", "low", "high"] (sp_Wm_init g.K C_WholeMaker C_TextMaker) := by
  refine R.ma sc_WholeMaker___init__ (fun vs H Q E h => by obtain ⟨p, dx, lo, span, rfl, hp, q⟩ := h; rfl) fun f_ cdv A outer s H vs Q E hr h => ?_
  obtain ⟨p, dx, lo, span, rfl, hp, q⟩ := h
  refine ⟨_, (@pss_cons _ _ _ _ _ (@ps_expr _ _ _ _ (@pe_cf _ _ _ _ _ _ _ _ _ _ _ _ _ _ _ F_Maker___init__ hr (@pa_cons _ _ _ _ _ (@pv _ 0 _ _ (by rfl) (by first | exact Or.inl rfl | exact Or.inr (Or.inl rfl) | exact Or.inr (Or.inr rfl)) (by decide) (by decide)) pa_nil (by rfl)) (by omega) (by rfl) (by rfl) (by decide) (by rfl) (by rfl) (by rfl)) (by rfl)) (@pss_cons _ _ _ _ _ (@ps_fld _ _ _ _ _ _ _ _ (@pv _ 0 _ _ (by rfl) (by first | exact Or.inl rfl | exact Or.inr (Or.inl rfl) | exact Or.inr (Or.inr rfl)) (by decide) (by decide)) (@pv _ 1 _ _ (by rfl) (by first | exact Or.inl rfl | exact Or.inr (Or.inl rfl) | exact Or.inr (Or.inr rfl)) (by decide) (by decide)) rfl) (@pss_one _ _ _ (@ps_fld _ _ _ _ _ _ _ _ (@pv _ 0 _ _ (by rfl) (by first | exact Or.inl rfl | exact Or.inr (Or.inl rfl) | exact Or.inr (Or.inr rfl)) (by decide) (by decide)) (@pe_op _ _ _ _ _ _ _ _ op_sub (@pv _ 2 _ _ (by rfl) (by first | exact Or.inl rfl | exact Or.inr (Or.inl rfl) | exact Or.inr (Or.inr rfl)) (by decide) (by decide)) (@pv _ 1 _ _ (by rfl) (by first | exact Or.inl rfl | exact Or.inr (Or.inl rfl) | exact Or.inr (Or.inr rfl)) (by decide) (by decide))) rfl)))), ?_⟩
  walk_at "rd"
  refine ⟨p, dx, _, rfl, .inl rfl, hp, fun cl hcl => ?_⟩
  have hne : p ≠ cl := ne_of_none hp hcl
  refine ⟨_, dx, _, upd_same, cl_WholeMaker, n_WholeMaker_low, lt1000 (show 1 ≤ 3 by decide), _, dx, _, upd_same, cl_WholeMaker, n_WholeMaker_span, lt1000 (Nat.le_trans (length_putF _ _ _) (show 2 ≤ 3 by decide)), ?_⟩
  refine q cl _ hcl (fun x o hx h => ?_) ⟨dx, ?_, ?_⟩
  · rw [upd_ne hx, upd_ne hx, upd_ne hx, upd_ne (ne_of_none h hcl)]; exact h
  · rw [upd_same, show lo + (span : Int) - lo = span by omega]
    exact congrArg some (congrArg (HO.ins _ _) (mfw cl lo _))
  · rw [upd_ne (Ne.symm hne), upd_ne (Ne.symm hne), upd_ne (Ne.symm hne), upd_same]; rfl
def sp_Tm_init (K : PySem.W.Frag) (CW CT : Addr) : Sp := fun vs H Q _ => ∃ (p dx : Addr) (sg : List Nat), vs = [.ref p, .str (S sg)] ∧ H p = some (.ins CT dx []) ∧ ∀ cl H', H cl = none → SameBut p H H' → Maker CW CT H' p (.t sg) cl 0 → Q .non H'
theorem ok_TextMaker___init__ {k : Nat} {C_CountError : Addr} {C_NoDraw : Addr} {C_NoNumber : Addr} {C_TooMany : Addr} {C_Lister : Addr} {C_TextMaker : Addr} {C_WholeMaker : Addr} (R : g.RawI "TextMaker" C_TextMaker "TextMaker.__init__" s_TextMaker___init__ ["self", "signs"]) (F_Maker___init__ : g.Cf k "Maker" "__init__" ["self"] (sp_Maker_init g.K C_WholeMaker C_TextMaker)) (cl_TextMaker : Cls g.K C_TextMaker) (n_TextMaker_counts : NoAttr g.K C_TextMaker "counts") (n_TextMaker_signs : NoAttr g.K C_TextMaker "signs") : g.Ma (k + 1) "TextMaker" C_TextMaker ["self", "signs"] (sp_Tm_init g.K C_WholeMaker C_TextMaker) := by
  refine R.ma sc_TextMaker___init__ (fun vs H Q E h => by obtain ⟨p, dx, sg, rfl, hp, q⟩ := h; rfl) fun f_ cdv A outer s H vs Q E hr h => ?_
  obtain ⟨p, dx, sg, rfl, hp, q⟩ := h
  refine ⟨_, (@pss_cons _ _ _ _ _ (@ps_expr _ _ _ _ (@pe_cf _ _ _ _ _ _ _ _ _ _ _ _ _ _ _ F_Maker___init__ hr (@pa_cons _ _ _ _ _ (@pv _ 0 _ _ (by rfl) (by first | exact Or.inl rfl | exact Or.inr (Or.inl rfl) | exact Or.inr (Or.inr rfl)) (by decide) (by decide)) pa_nil (by rfl)) (by omega) (by rfl) (by rfl) (by decide) (by rfl) (by rfl) (by rfl)) (by rfl)) (@pss_one _ _ _ (@ps_fld _ _ _ _ _ _ _ _ (@pv _ 0 _ _ (by rfl) (by first | exact Or.inl rfl | exact Or.inr (Or.inl rfl) | exact Or.inr (Or.inr rfl)) (by decide) (by decide)) (@pv _ 1 _ _ (by rfl) (by first | exact Or.inl rfl | exact Or.inr (Or.inl rfl) | exact Or.inr (Or.inr rfl)) (by decide) (by decide)) rfl))), ?_⟩
  walk_at "rd"
  refine ⟨p, dx, _, rfl, .inr rfl, hp, fun cl hcl => ?_⟩
  have hne : p ≠ cl := ne_of_none hp hcl
  refine ⟨_, dx, _, upd_same, cl_TextMaker, n_TextMaker_signs, lt1000 (show 1 ≤ 3 by decide), ?_⟩
  refine q cl _ hcl (fun x o hx h => ?_) ⟨dx, ?_, ?_⟩
  · rw [upd_ne hx, upd_ne hx, upd_ne (ne_of_none h hcl)]; exact h
  · rw [upd_same]
    exact congrArg some (congrArg (HO.ins _ _) (mft cl _))
  · rw [upd_ne (Ne.symm hne), upd_ne (Ne.symm hne), upd_same]; rfl
def sp_ld : Sp := fun vs H Q _ => ∃ (n : Nat), vs = [.int n] ∧ n ≤ 100 ∧ Q (.int (1 * 2 ^ n / 2 ^ 1)) H
theorem ok_least_distance {C_CountError : Addr} {C_NoDraw : Addr} {C_NoNumber : Addr} {C_TooMany : Addr} {C_Lister : Addr} {C_TextMaker : Addr} {C_WholeMaker : Addr} (R : g.Raw "least_distance" "least_distance" s_least_distance ["size"]) : g.Fn (1) "least_distance" ["size"] (sp_ld) := by
  refine R.fn sc_least_distance (fun vs H Q E h => by obtain ⟨n, rfl, hn, q⟩ := h; rfl) fun f_ cdv A outer s H vs Q E hr h => ?_
  obtain ⟨n, rfl, hn, q⟩ := h
  refine ⟨_, (@pss_one _ _ _ (@ps_ret _ _ _ _ (@pe_op _ _ _ _ _ _ _ _ op_shr (@pe_op _ _ _ _ _ _ _ _ op_shl pe_int (@pv _ 0 _ _ (by rfl) (by first | exact Or.inl rfl | exact Or.inr (Or.inl rfl) | exact Or.inr (Or.inr rfl)) (by decide) (by decide))) pe_int))), ?_⟩
  walk_at "rd"
  exact ⟨⟨by omega, by omega, by decide⟩, by decide, q⟩
def sp_Wm_reckoned (K : PySem.W.Frag) (CW CT : Addr) : Sp := fun vs H Q _ => ∃ (p dx cl : Addr) (lo : Int) (span n : Nat), vs = [.ref p, .int n] ∧ n ≤ 100 ∧ H p = some (.ins CW dx (mf cl (.w lo span))) ∧ Q (.int (wc span n)) H
theorem ok_WholeMaker_reckoned {k : Nat} {C_CountError : Addr} {C_NoDraw : Addr} {C_NoNumber : Addr} {C_TooMany : Addr} {C_Lister : Addr} {C_TextMaker : Addr} {C_WholeMaker : Addr} (R : g.RawM C_WholeMaker "reckoned" "WholeMaker.reckoned" s_WholeMaker_reckoned ["self", "size"]) (F_least_distance : g.Fn k "least_distance" ["size"] (sp_ld)) (b_max : g.mg "max" = none) (b_min : g.mg "min" = none) (cl_WholeMaker : Cls g.K C_WholeMaker) (n_WholeMaker_counts : NoAttr g.K C_WholeMaker "counts") (n_WholeMaker_low : NoAttr g.K C_WholeMaker "low") (n_WholeMaker_span : NoAttr g.K C_WholeMaker "span") : g.Me (k + 1) C_WholeMaker "reckoned" ["self", "size"] (sp_Wm_reckoned g.K C_WholeMaker C_TextMaker) := by
  refine R.me sc_WholeMaker_reckoned (fun vs H Q E h => by obtain ⟨p, dx, cl, lo, span, n, rfl, hn, hp, q⟩ := h; rfl) fun f_ cdv A outer s H vs Q E hr h => ?_
  obtain ⟨p, dx, cl, lo, span, n, rfl, hn, hp, q⟩ := h
  refine ⟨_, (@pss_cons _ _ _ _ _ (@ps_set _ _ (2) _ _ _ _ sc_WholeMaker_reckoned.nd rfl (Or.inl rfl) (@pe_bf _ _ _ _ _ _ _ _ _ _ b_min (call_min2 rfl) (@pa_cons _ _ _ _ _ (@pe_fld _ _ _ _ _ (@pv _ 0 _ _ (by rfl) (by first | exact Or.inl rfl | exact Or.inr (Or.inl rfl) | exact Or.inr (Or.inr rfl)) (by decide) (by decide)) rfl) (@pa_cons _ _ _ _ _ (@pe_op _ _ _ _ _ _ _ _ op_sub (@pe_op _ _ _ _ _ _ _ _ op_shl pe_int (@pv _ 1 _ _ (by rfl) (by first | exact Or.inl rfl | exact Or.inr (Or.inl rfl) | exact Or.inr (Or.inr rfl)) (by decide) (by decide))) pe_int) pa_nil (by rfl)) (by rfl)) (by decide +kernel) (by rfl) (by rfl) (by decide) (by decide) (by rfl) (by rfl)) (by rfl) (by first | exact .inl rfl | exact .inr rfl | assumption)) (@pss_one _ _ _ (@ps_ret _ _ _ _ (@pe_bf _ _ _ _ _ _ _ _ _ _ b_max (call_max2 rfl) (@pa_cons _ _ _ _ _ pe_int (@pa_cons _ _ _ _ _ (@pe_op _ _ _ _ _ _ _ _ op_add (@pe_op _ _ _ _ _ _ _ _ op_sub (@pv _ 2 _ _ (by rfl) (by first | exact Or.inl rfl | exact Or.inr (Or.inl rfl) | exact Or.inr (Or.inr rfl)) (by decide) (by decide)) (@pe_fn _ _ _ _ _ _ _ _ _ _ _ _ F_least_distance hr (@pa_cons _ _ _ _ _ (@pv _ 1 _ _ (by rfl) (by first | exact Or.inl rfl | exact Or.inr (Or.inl rfl) | exact Or.inr (Or.inr rfl)) (by decide) (by decide)) pa_nil (by rfl)) (by omega) (by rfl) (by rfl) (by decide) (by rfl) (by rfl))) pe_int) pa_nil (by rfl)) (by rfl)) (by decide +kernel) (by rfl) (by rfl) (by decide) (by decide) (by rfl) (by rfl))))), ?_⟩
  walk_at "rd"
  exact ⟨_, _, _, hp, cl_WholeMaker, n_WholeMaker_span, _, rfl, ⟨by omega, by omega, by decide⟩, _, rfl, n, rfl, hn, _, rfl, q⟩
end KW
set_option maxHeartbeats 8000000
namespace KW
open PySem L2

variable {g : Gx}
variable {m : Nat}
local macro_rules | `(tactic| walk_at "gn") => `(tactic| simp only [gName, List.set_cons_zero, List.set_cons_succ])

local macro_rules | `(tactic| walk_at "rd") => `(tactic| simp (config := { failIfUnchanged := false, maxSteps := 10000000 }) only [L2.start, cxOf_K, nox_K, List.map_cons, List.map_nil, List.length_cons, List.length_nil, List.cons_append, List.nil_append, List.replicate_succ, List.replicate_zero, Nat.zero_add, Nat.reduceAdd, Nat.reduceSub, Nat.sub_self, tSeq, tIfS, tTest, tOp, tC, tVar, rI0, rI, rU, tUn, tRet, tRetN, tDrop, tNext, tBreak, tCont, tAsg, gName, gNil, gCons, tCons, tNil, tCB, tCall, tTry, tTryAs, tRaise, sFld, tFld, tMake, tMeth, Ends.gone, caught_K, tB, tAnd, tOr, tNot, tAndV, tOrV, tNotV, tIf, tChain, tNoPart, tPart, tSl, tNever, tAug, rIxL, rIxT, rSlL, tLst, tTup, gTup, tRev, tLZ, tConT, tDict0, tDNewT, tDGet, sDPut, rNotInD, rInD, tEither, tSlStep, rBits, rFind, rIn, tBM, tBM0, rAppend, rReverse, rEq, rNe, scal_ii, scal_ss, rCat, rSetL, gSub, ipI, capSt, List.getD_cons_zero, List.getD_cons_succ, decide_true, not_true_eq_false, not_false_eq_true,
  exists_eq_left', exists_eq_left, exists_eq', exists_eq, exists_and_left, and_assoc, Option.some.injEq, V.int.injEq, V.bl.injEq, V.ref.injEq, V.str.injEq, List.getElem?_cons_zero, List.getElem?_cons_succ, List.set_cons_zero, List.set_cons_succ, List.cons.injEq, and_true, true_and, List.append_nil, decide_eq_true_eq, Bool.not_eq_true', decide_eq_false_iff_not, Bool.not_not, Bool.not_true, Bool.not_false, Bool.true_eq_false, Bool.false_eq_true, if_true, if_false, ite_true, ite_false])

def sp_Wm_count (K : PySem.W.Frag) (CW CT : Addr) : Sp := fun vs H Q _ => ∃ (p dx cl : Addr) (lo : Int) (span n k : Nat), vs = [.ref p, .int k] ∧ k ≤ 50 ∧ n ≤ 60 ∧ H p = some (.ins CW dx (mf cl (.w lo span))) ∧ H cl = some (.lst (cnts (wc span) n)) ∧
  ∀ H', SameBut cl H H' → H' cl = some (.lst (cnts (wc span) (max n (k + 1)))) → Q (.int (wc span k)) H'
theorem ok_WholeMaker_count_at {k : Nat} {C_CountError : Addr} {C_NoDraw : Addr} {C_NoNumber : Addr} {C_TooMany : Addr} {C_Lister : Addr} {C_TextMaker : Addr} {C_WholeMaker : Addr} (R : g.RawM C_WholeMaker "count_at" "Maker.count_at" s_WholeMaker_count_at ["self", "size"]) (F_WholeMaker_reckoned : g.Me k C_WholeMaker "reckoned" ["self", "size"] (sp_Wm_reckoned g.K C_WholeMaker C_TextMaker)) (b_len : g.mg "len" = none) (cl_WholeMaker : Cls g.K C_WholeMaker) (n_WholeMaker_counts : NoAttr g.K C_WholeMaker "counts") (n_WholeMaker_low : NoAttr g.K C_WholeMaker "low") (n_WholeMaker_span : NoAttr g.K C_WholeMaker "span") : g.Me (k + 1) C_WholeMaker "count_at" ["self", "size"] (sp_Wm_count g.K C_WholeMaker C_TextMaker) := by
  refine R.me sc_WholeMaker_count_at (fun vs H Q E h => by obtain ⟨p, dx, cl, lo, span, n, k, rfl, hk, hn, hp, hc, q⟩ := h; rfl) fun f_ cdv A outer s H vs Q E hr h => ?_
  obtain ⟨p, dx, cl, lo, span, n, k, rfl, hk, hn, hp, hc, q⟩ := h
  refine ⟨_, (@pss_cons _ _ _ _ _ (@ps_while _ _ _ _ _ _ PassesOwn.never (@pt_cmpR _ _ _ _ _ _ _ _ op_le (@pe_bf _ _ _ _ _ _ _ _ _ _ b_len call_len_seq (@pa_cons _ _ _ _ _ (@pe_fld _ _ _ _ _ (@pv _ 0 _ _ (by rfl) (by first | exact Or.inl rfl | exact Or.inr (Or.inl rfl) | exact Or.inr (Or.inr rfl)) (by decide) (by decide)) rfl) pa_nil (by rfl)) (by decide +kernel) (by rfl) (by rfl) (by decide) (by decide) (by rfl) (by rfl)) (@pv _ 1 _ _ (by rfl) (by first | exact Or.inl rfl | exact Or.inr (Or.inl rfl) | exact Or.inr (Or.inr rfl)) (by decide) (by decide)) (nomark _)) (@pss_one _ _ _ (@ps_expr _ _ _ _ (@pe_bm _ _ _ _ _ _ _ _ _ _ _ _ PySem.F.plainAttrs_list PySem.F.slot_list_append PySem.F.type_list_append mt_append (@pe_fld _ _ _ _ _ (@pv _ 0 _ _ (by rfl) (by first | exact Or.inl rfl | exact Or.inr (Or.inl rfl) | exact Or.inr (Or.inr rfl)) (by decide) (by decide)) rfl) (@pa_cons _ _ _ _ _ (@pe_me _ _ _ _ _ _ _ _ _ _ _ _ _ _ _ _ F_WholeMaker_reckoned cl_WholeMaker hr (@pv _ 0 _ _ (by rfl) (by first | exact Or.inl rfl | exact Or.inr (Or.inl rfl) | exact Or.inr (Or.inr rfl)) (by decide) (by decide)) (@pa_cons _ _ _ _ _ (@pe_bf _ _ _ _ _ _ _ _ _ _ b_len call_len_seq (@pa_cons _ _ _ _ _ (@pe_fld _ _ _ _ _ (@pv _ 0 _ _ (by rfl) (by first | exact Or.inl rfl | exact Or.inr (Or.inl rfl) | exact Or.inr (Or.inr rfl)) (by decide) (by decide)) rfl) pa_nil (by rfl)) (by decide +kernel) (by rfl) (by rfl) (by decide) (by decide) (by rfl) (by rfl)) pa_nil (by rfl)) (by omega) (by rfl) (by rfl) (by rfl) (by rfl)) pa_nil (by rfl)) (by rfl) (by rfl) (by rfl) (by rfl) (by rfl)) (by rfl)))) (@pss_one _ _ _ (@ps_ret _ _ _ _ (@pe_ix _ _ _ _ _ _ _ ix_list (@pe_fld _ _ _ _ _ (@pv _ 0 _ _ (by rfl) (by first | exact Or.inl rfl | exact Or.inr (Or.inl rfl) | exact Or.inr (Or.inr rfl)) (by decide) (by decide)) rfl) (@pv _ 1 _ _ (by rfl) (by first | exact Or.inl rfl | exact Or.inr (Or.inl rfl) | exact Or.inr (Or.inr rfl)) (by decide) (by decide)) (fun _ _ => rfl))))), ?_⟩
  walk_at "rd"
  have hne : p ≠ cl := ne_of hp hc (by simp)
  refine while_of (α := Nat) (fun x σ H' => σ = [some (.ref p), some (.int k)] ∧ SameBut cl H H' ∧ H' cl = some (.lst (cnts (wc span) x)) ∧ n ≤ x ∧ x ≤ max n (k + 1)) (fun x => decide (x ≤ k)) (fun x => k + 1 - x) n ⟨rfl, .refl _ _, hc, Nat.le_refl _, Nat.le_max_left _ _⟩ ?_ ?_ ?_
  · rintro x σ H' ⟨rfl, sb, hx, h1, h2⟩ R r
    walk_at "rd"
    refine ⟨_, _, _, sb _ _ hne hp, cl_WholeMaker, n_WholeMaker_counts, _, mf_counts _ _, _, rfl, _, .inl (SqL.of hx), ?_⟩
    rw [cnts_len, dle]
    exact r H' ⟨rfl, sb, hx, h1, h2⟩
  · rintro x σ H' ⟨rfl, sb, hx, h1, h2⟩ hd
    have hd : x ≤ k := of_decide_eq_true hd
    walk_at "rd"
    have hp' := sb _ _ hne hp
    refine ⟨_, _, _, hp', cl_WholeMaker, n_WholeMaker_counts, _, mf_counts _ _, .inl ⟨rfl, _, SqL.of hx⟩, _, _, hp', mf_reck _ _, _, _, _, hp', cl_WholeMaker, n_WholeMaker_counts, _, mf_counts _ _, _, rfl, _, .inl (SqL.of hx), ?_⟩
    rw [cnts_len]
    exact ⟨p, dx, cl, lo, span, x, rfl, by omega, hp', _, rfl, _, hx, by rw [cnts_len]; exact few (by omega), sb.upd _, x + 1, by rw [upd_same, cnts_succ], by omega, by omega, by omega⟩
  · rintro x σ H' ⟨rfl, sb, hx, h1, h2⟩ hd
    have hd : ¬ x ≤ k := of_decide_eq_false hd
    walk_at "rd"
    have e : x = max n (k + 1) := by omega
    subst e
    exact ⟨_, _, _, sb _ _ hne hp, cl_WholeMaker, n_WholeMaker_counts, _, mf_counts _ _, _, rfl, _, SqL.of hx, _, cnts_at _ (by omega), q H' sb hx⟩
end KW
set_option maxHeartbeats 8000000
namespace KW
open PySem L2

variable {g : Gx}
variable {m : Nat}
local macro_rules | `(tactic| walk_at "gn") => `(tactic| simp only [gName, List.set_cons_zero, List.set_cons_succ])

local macro_rules | `(tactic| walk_at "rd") => `(tactic| simp (config := { failIfUnchanged := false, maxSteps := 10000000 }) only [L2.start, cxOf_K, nox_K, List.map_cons, List.map_nil, List.length_cons, List.length_nil, List.cons_append, List.nil_append, List.replicate_succ, List.replicate_zero, Nat.zero_add, Nat.reduceAdd, Nat.reduceSub, Nat.sub_self, tSeq, tIfS, tTest, tOp, tC, tVar, rI0, rI, rU, tUn, tRet, tRetN, tDrop, tNext, tBreak, tCont, tAsg, gName, gNil, gCons, tCons, tNil, tCB, tCall, tTry, tTryAs, tRaise, sFld, tFld, tMake, tMeth, Ends.gone, caught_K, tB, tAnd, tOr, tNot, tAndV, tOrV, tNotV, tIf, tChain, tNoPart, tPart, tSl, tNever, tAug, rIxL, rIxT, rSlL, tLst, tTup, gTup, tRev, tLZ, tConT, tDict0, tDNewT, tDGet, sDPut, rNotInD, rInD, tEither, tSlStep, rBits, rFind, rIn, tBM, tBM0, rAppend, rReverse, rEq, rNe, scal_ii, scal_ss, rCat, rSetL, gSub, ipI, capSt, List.getD_cons_zero, List.getD_cons_succ, decide_true, not_true_eq_false, not_false_eq_true,
  exists_eq_left', exists_eq_left, exists_eq', exists_eq, exists_and_left, and_assoc, Option.some.injEq, V.int.injEq, V.bl.injEq, V.ref.injEq, V.str.injEq, List.getElem?_cons_zero, List.getElem?_cons_succ, List.set_cons_zero, List.set_cons_succ, List.cons.injEq, and_true, true_and, List.append_nil, decide_eq_true_eq, Bool.not_eq_true', decide_eq_false_iff_not, Bool.not_not, Bool.not_true, Bool.not_false, Bool.true_eq_false, Bool.false_eq_true, if_true, if_false, ite_true, ite_false])

def sp_Tm_reck (K : PySem.W.Frag) (CW CT : Addr) (m : Nat) : Sp := fun vs H Q _ => ∃ (p dx cl : Addr) (sg : List Nat) (n k : Nat), vs = [.ref p, .int k] ∧ 1 ≤ m ∧ (k = 0 ∨ 2 ≤ m) ∧ k ≤ n ∧ n ≤ 60 ∧ sg.length ≤ 62 ∧ H p = some (.ins CT dx (mf cl (.t sg))) ∧ H cl = some (.lst (cnts (cnt (.t sg)) n)) ∧
  ∀ H', SameBut cl H H' → H' cl = some (.lst (cnts (cnt (.t sg)) n)) → Q (.int (cnt (.t sg) k)) H'
def sp_Tm_count (K : PySem.W.Frag) (CW CT : Addr) (m : Nat) : Sp := fun vs H Q _ => ∃ (p dx cl : Addr) (sg : List Nat) (n k : Nat), vs = [.ref p, .int k] ∧ 1 ≤ m ∧ (k < n ∨ 3 ≤ m) ∧ k ≤ 60 ∧ n ≤ 60 ∧ sg.length ≤ 62 ∧ H p = some (.ins CT dx (mf cl (.t sg))) ∧ H cl = some (.lst (cnts (cnt (.t sg)) n)) ∧
  ∀ H', SameBut cl H H' → H' cl = some (.lst (cnts (cnt (.t sg)) (max n (k + 1)))) → Q (.int (cnt (.t sg) k)) H'
theorem no_Treck {K : PySem.W.Frag} {CW CT : Addr} {vs : List V} {H : Hp} {Q : VK} {E : XK} (h : sp_Tm_reck K CW CT 0 vs H Q E) : False := by
  obtain ⟨p, dx, cl, sg, n, k, _, h, _⟩ := h
  omega
theorem no_Tcount {K : PySem.W.Frag} {CW CT : Addr} {vs : List V} {H : Hp} {Q : VK} {E : XK} (h : sp_Tm_count K CW CT 0 vs H Q E) : False := by
  obtain ⟨p, dx, cl, sg, n, k, _, h, _⟩ := h
  omega
theorem pow62 {a : Nat} (h : a ≤ 62) (j : Nat) : ((a : Int) ^ j).natAbs < 2 ^ (6 * j + 1) := by
  have e : ((a : Int) ^ j).natAbs = a ^ j := by rw [Int.natAbs_pow, Int.natAbs_natCast]
  rw [e]
  have h1 : a ^ j ≤ (2 ^ 6) ^ j := Nat.pow_le_pow_left (by omega) j
  rw [← Nat.pow_mul] at h1
  have h2 : 2 ^ (6 * j) < 2 ^ (6 * j + 1) := Nat.pow_lt_pow_right (by decide) (by omega)
  omega
variable {m : Nat}
theorem ok_TextMaker_reckoned {k : Nat} {C_CountError : Addr} {C_NoDraw : Addr} {C_NoNumber : Addr} {C_TooMany : Addr} {C_Lister : Addr} {C_TextMaker : Addr} {C_WholeMaker : Addr} (R : g.RawM C_TextMaker "reckoned" "TextMaker.reckoned" s_TextMaker_reckoned ["self", "size"]) (F_TextMaker_count_at : g.Me k C_TextMaker "count_at" ["self", "size"] (sp_Tm_count g.K C_WholeMaker C_TextMaker m)) (b_len : g.mg "len" = none) (cl_TextMaker : Cls g.K C_TextMaker) (n_TextMaker_counts : NoAttr g.K C_TextMaker "counts") (n_TextMaker_signs : NoAttr g.K C_TextMaker "signs") : g.Me (k + 1) C_TextMaker "reckoned" ["self", "size"] (sp_Tm_reck g.K C_WholeMaker C_TextMaker (m + 1)) := by
  refine R.me sc_TextMaker_reckoned (fun vs H Q E h => by obtain ⟨p, dx, cl, sg, n, k, rfl, hm, hk, hkn, hn, hl, hp, hc, q⟩ := h; rfl) fun f_ cdv A outer s H vs Q E hr h => ?_
  obtain ⟨p, dx, cl, sg, n, k, rfl, hm, hk, hkn, hn, hl, hp, hc, q⟩ := h
  refine ⟨_, (@pss_one _ _ _ (@ps_ret _ _ _ _ (@pe_ifExp _ _ _ _ _ _ _ _ (@pt_cmpR _ _ _ _ _ _ _ _ op_eq (@pv _ 1 _ _ (by rfl) (by first | exact Or.inl rfl | exact Or.inr (Or.inl rfl) | exact Or.inr (Or.inr rfl)) (by decide) (by decide)) pe_int (nomark _)) pe_int (@pe_op _ _ _ _ _ _ _ _ op_mulC (@pe_bf _ _ _ _ _ _ _ _ _ _ b_len call_len_str (@pa_cons _ _ _ _ _ (@pe_fld _ _ _ _ _ (@pv _ 0 _ _ (by rfl) (by first | exact Or.inl rfl | exact Or.inr (Or.inl rfl) | exact Or.inr (Or.inr rfl)) (by decide) (by decide)) rfl) pa_nil (by rfl)) (by decide +kernel) (by rfl) (by rfl) (by decide) (by decide) (by rfl) (by rfl)) (@pe_me _ _ _ _ _ _ _ _ _ _ _ _ _ _ _ _ F_TextMaker_count_at cl_TextMaker hr (@pv _ 0 _ _ (by rfl) (by first | exact Or.inl rfl | exact Or.inr (Or.inl rfl) | exact Or.inr (Or.inr rfl)) (by decide) (by decide)) (@pa_cons _ _ _ _ _ (@pe_op _ _ _ _ _ _ _ _ op_sub (@pv _ 1 _ _ (by rfl) (by first | exact Or.inl rfl | exact Or.inr (Or.inl rfl) | exact Or.inr (Or.inr rfl)) (by decide) (by decide)) pe_int) pa_nil (by rfl)) (by omega) (by rfl) (by rfl) (by rfl) (by rfl)))))), ?_⟩
  walk_at "rd"
  refine ite2 (fun c => ?_) (fun c => ?_)
  · have e : k = 0 := by omega
    subst e
    have := q H (.refl _ _) hc
    exact this
  · obtain ⟨j, rfl⟩ : ∃ j, k = j + 1 := ⟨k - 1, by omega⟩
    refine ⟨_, _, _, hp, cl_TextMaker, n_TextMaker_signs, _, rfl, _, rfl, by rw [S_len]; exact few (by omega), _, _, hp, mf_count _ _, ?_⟩
    refine ⟨p, dx, cl, sg, n, j, by rw [show ((j + 1 : Nat) : Int) - 1 = (j : Int) by omega], by omega, .inl (by omega), by omega, hn, hl, hp, hc, fun H' s' h' => ⟨_, rfl, ?_, ?_⟩⟩
    · rw [S_len]
      refine .inl (cm (m := 7) (n := 6 * j + 1) ?_ (pow62 hl j) (by omega))
      rw [Int.natAbs_natCast]; omega
    · rw [S_len]
      have := q H' s' (by rw [show max n (j + 1) = n by omega] at h'; exact h')
      rw [show (sg.length : Int) * cnt (.t sg) j = cnt (.t sg) (j + 1) by show _ * (sg.length : Int) ^ j = (sg.length : Int) ^ (j + 1); rw [Int.pow_succ, Int.mul_comm]]
      exact this
theorem ok_TextMaker_count_at {k : Nat} {C_CountError : Addr} {C_NoDraw : Addr} {C_NoNumber : Addr} {C_TooMany : Addr} {C_Lister : Addr} {C_TextMaker : Addr} {C_WholeMaker : Addr} (R : g.RawM C_TextMaker "count_at" "Maker.count_at" s_TextMaker_count_at ["self", "size"]) (F_TextMaker_reckoned : g.Me k C_TextMaker "reckoned" ["self", "size"] (sp_Tm_reck g.K C_WholeMaker C_TextMaker m)) (b_len : g.mg "len" = none) (cl_TextMaker : Cls g.K C_TextMaker) (n_TextMaker_counts : NoAttr g.K C_TextMaker "counts") (n_TextMaker_signs : NoAttr g.K C_TextMaker "signs") : g.Me (k + 1) C_TextMaker "count_at" ["self", "size"] (sp_Tm_count g.K C_WholeMaker C_TextMaker (m + 1)) := by
  refine R.me sc_TextMaker_count_at (fun vs H Q E h => by obtain ⟨p, dx, cl, sg, n, k, rfl, hm, hk, hk50, hn, hl, hp, hc, q⟩ := h; rfl) fun f_ cdv A outer s H vs Q E hr h => ?_
  obtain ⟨p, dx, cl, sg, n, k, rfl, hm, hk, hk50, hn, hl, hp, hc, q⟩ := h
  refine ⟨_, (@pss_cons _ _ _ _ _ (@ps_while _ _ _ _ _ _ PassesOwn.never (@pt_cmpR _ _ _ _ _ _ _ _ op_le (@pe_bf _ _ _ _ _ _ _ _ _ _ b_len call_len_seq (@pa_cons _ _ _ _ _ (@pe_fld _ _ _ _ _ (@pv _ 0 _ _ (by rfl) (by first | exact Or.inl rfl | exact Or.inr (Or.inl rfl) | exact Or.inr (Or.inr rfl)) (by decide) (by decide)) rfl) pa_nil (by rfl)) (by decide +kernel) (by rfl) (by rfl) (by decide) (by decide) (by rfl) (by rfl)) (@pv _ 1 _ _ (by rfl) (by first | exact Or.inl rfl | exact Or.inr (Or.inl rfl) | exact Or.inr (Or.inr rfl)) (by decide) (by decide)) (nomark _)) (@pss_one _ _ _ (@ps_expr _ _ _ _ (@pe_bm _ _ _ _ _ _ _ _ _ _ _ _ PySem.F.plainAttrs_list PySem.F.slot_list_append PySem.F.type_list_append mt_append (@pe_fld _ _ _ _ _ (@pv _ 0 _ _ (by rfl) (by first | exact Or.inl rfl | exact Or.inr (Or.inl rfl) | exact Or.inr (Or.inr rfl)) (by decide) (by decide)) rfl) (@pa_cons _ _ _ _ _ (@pe_me _ _ _ _ _ _ _ _ _ _ _ _ _ _ _ _ F_TextMaker_reckoned cl_TextMaker hr (@pv _ 0 _ _ (by rfl) (by first | exact Or.inl rfl | exact Or.inr (Or.inl rfl) | exact Or.inr (Or.inr rfl)) (by decide) (by decide)) (@pa_cons _ _ _ _ _ (@pe_bf _ _ _ _ _ _ _ _ _ _ b_len call_len_seq (@pa_cons _ _ _ _ _ (@pe_fld _ _ _ _ _ (@pv _ 0 _ _ (by rfl) (by first | exact Or.inl rfl | exact Or.inr (Or.inl rfl) | exact Or.inr (Or.inr rfl)) (by decide) (by decide)) rfl) pa_nil (by rfl)) (by decide +kernel) (by rfl) (by rfl) (by decide) (by decide) (by rfl) (by rfl)) pa_nil (by rfl)) (by omega) (by rfl) (by rfl) (by rfl) (by rfl)) pa_nil (by rfl)) (by rfl) (by rfl) (by rfl) (by rfl) (by rfl)) (by rfl)))) (@pss_one _ _ _ (@ps_ret _ _ _ _ (@pe_ix _ _ _ _ _ _ _ ix_list (@pe_fld _ _ _ _ _ (@pv _ 0 _ _ (by rfl) (by first | exact Or.inl rfl | exact Or.inr (Or.inl rfl) | exact Or.inr (Or.inr rfl)) (by decide) (by decide)) rfl) (@pv _ 1 _ _ (by rfl) (by first | exact Or.inl rfl | exact Or.inr (Or.inl rfl) | exact Or.inr (Or.inr rfl)) (by decide) (by decide)) (fun _ _ => rfl))))), ?_⟩
  walk_at "rd"
  have hne : p ≠ cl := ne_of hp hc (by simp)
  refine while_of (α := Nat) (fun x σ H' => σ = [some (.ref p), some (.int k)] ∧ SameBut cl H H' ∧ H' cl = some (.lst (cnts (cnt (.t sg)) x)) ∧ n ≤ x ∧ x ≤ max n (k + 1)) (fun x => decide (x ≤ k)) (fun x => k + 1 - x) n ⟨rfl, .refl _ _, hc, Nat.le_refl _, Nat.le_max_left _ _⟩ ?_ ?_ ?_
  · rintro x σ H' ⟨rfl, sb, hx, h1, h2⟩ R r
    walk_at "rd"
    refine ⟨_, _, _, sb _ _ hne hp, cl_TextMaker, n_TextMaker_counts, _, mf_counts _ _, _, rfl, _, .inl (SqL.of hx), ?_⟩
    rw [cnts_len, dle]
    exact r H' ⟨rfl, sb, hx, h1, h2⟩
  · rintro x σ H' ⟨rfl, sb, hx, h1, h2⟩ hd
    have hd : x ≤ k := of_decide_eq_true hd
    walk_at "rd"
    have hp' := sb _ _ hne hp
    refine ⟨_, _, _, hp', cl_TextMaker, n_TextMaker_counts, _, mf_counts _ _, .inl ⟨rfl, _, SqL.of hx⟩, _, _, hp', mf_reck _ _, _, _, _, hp', cl_TextMaker, n_TextMaker_counts, _, mf_counts _ _, _, rfl, _, .inl (SqL.of hx), ?_⟩
    rw [cnts_len]
    exact ⟨p, dx, cl, sg, x, x, rfl, by omega, by omega, Nat.le_refl _, by omega, hl, hp', hx, fun H2 s2 h2' => ⟨_, rfl, _, h2', by rw [cnts_len]; exact few (by omega), (sb.trans s2).upd _, x + 1, by rw [upd_same, cnts_succ], by omega, by omega, by omega⟩⟩
  · rintro x σ H' ⟨rfl, sb, hx, h1, h2⟩ hd
    have hd : ¬ x ≤ k := of_decide_eq_false hd
    walk_at "rd"
    have e : x = max n (k + 1) := by omega
    subst e
    exact ⟨_, _, _, sb _ _ hne hp, cl_TextMaker, n_TextMaker_counts, _, mf_counts _ _, _, rfl, _, SqL.of hx, _, cnts_at _ (by omega), q H' sb hx⟩
end KW
set_option maxHeartbeats 8000000
namespace KW
open PySem L2

variable {g : Gx}
variable {m : Nat}
local macro_rules | `(tactic| walk_at "gn") => `(tactic| simp only [gName, List.set_cons_zero, List.set_cons_succ])

local macro_rules | `(tactic| walk_at "rd") => `(tactic| simp (config := { failIfUnchanged := false, maxSteps := 10000000 }) only [L2.start, cxOf_K, nox_K, List.map_cons, List.map_nil, List.length_cons, List.length_nil, List.cons_append, List.nil_append, List.replicate_succ, List.replicate_zero, Nat.zero_add, Nat.reduceAdd, Nat.reduceSub, Nat.sub_self, tSeq, tIfS, tTest, tOp, tC, tVar, rI0, rI, rU, tUn, tRet, tRetN, tDrop, tNext, tBreak, tCont, tAsg, gName, gNil, gCons, tCons, tNil, tCB, tCall, tTry, tTryAs, tRaise, sFld, tFld, tMake, tMeth, Ends.gone, caught_K, tB, tAnd, tOr, tNot, tAndV, tOrV, tNotV, tIf, tChain, tNoPart, tPart, tSl, tNever, tAug, rIxL, rIxT, rSlL, tLst, tTup, gTup, tRev, tLZ, tConT, tDict0, tDNewT, tDGet, sDPut, rNotInD, rInD, tEither, tSlStep, rBits, rFind, rIn, tBM, tBM0, rAppend, rReverse, rEq, rNe, scal_ii, scal_ss, rCat, rSetL, gSub, ipI, capSt, List.getD_cons_zero, List.getD_cons_succ, decide_true, not_true_eq_false, not_false_eq_true,
  exists_eq_left', exists_eq_left, exists_eq', exists_eq, exists_and_left, and_assoc, Option.some.injEq, V.int.injEq, V.bl.injEq, V.ref.injEq, V.str.injEq, List.getElem?_cons_zero, List.getElem?_cons_succ, List.set_cons_zero, List.set_cons_succ, List.cons.injEq, and_true, true_and, List.append_nil, decide_eq_true_eq, Bool.not_eq_true', decide_eq_false_iff_not, Bool.not_not, Bool.not_true, Bool.not_false, Bool.true_eq_false, Bool.false_eq_true, if_true, if_false, ite_true, ite_false])

def lf (b : V) (d : Addr) : List (Str × V) := [("book", b), ("makers", .ref d)]
theorem nbm : ¬ (("book" : Str) = "makers") := by decide +kernel
theorem lf_put (b : V) (d : Addr) : putF "makers" (.ref d) (putF "book" b []) = lf b d := by
  simp only [putF, if_neg nbm]; rfl
theorem lf_makers (b : V) (d : Addr) : (lf b d).lookup ("makers" : Str) = some (.ref d) := by
  show List.lookup ("makers" : Str) [(("book" : Str), b), (("makers" : Str), V.ref d)] = _
  rw [List.lookup_cons, show (("makers" : Str) == ("book" : Str)) = false by decide +kernel, List.lookup_cons, show (("makers" : Str) == ("makers" : Str)) = true by decide +kernel]
theorem lf_no (b : V) (d : Addr) {m : Str} (h1 : (m == ("book" : Str)) = false) (h2 : (m == ("makers" : Str)) = false) : (lf b d).lookup m = none := by
  show List.lookup m [(("book" : Str), b), (("makers" : Str), V.ref d)] = _
  rw [List.lookup_cons, h1, List.lookup_cons, h2]; rfl
def sp_Li_init (K : PySem.W.Frag) (C : Addr) : Sp := fun vs H Q _ => ∃ (p dx : Addr) (b : V), vs = [.ref p, b] ∧ H p = some (.ins C dx []) ∧ ∀ d H', H d = none → SameBut p H H' → H' p = some (.ins C dx (lf b d)) → H' d = some (.dT []) → Q .non H'
theorem ok_Lister___init__ {C_CountError : Addr} {C_NoDraw : Addr} {C_NoNumber : Addr} {C_TooMany : Addr} {C_Lister : Addr} {C_TextMaker : Addr} {C_WholeMaker : Addr} (R : g.RawI "Lister" C_Lister "Lister.__init__" s_Lister___init__ ["self", "book"]) (cl_Lister : Cls g.K C_Lister) (n_Lister_book : NoAttr g.K C_Lister "book") (n_Lister_makers : NoAttr g.K C_Lister "makers") : g.Ma (1) "Lister" C_Lister ["self", "book"] (sp_Li_init g.K C_Lister) := by
  refine R.ma sc_Lister___init__ (fun vs H Q E h => by obtain ⟨p, dx, b, rfl, hp, q⟩ := h; rfl) fun f_ cdv A outer s H vs Q E hr h => ?_
  obtain ⟨p, dx, b, rfl, hp, q⟩ := h
  refine ⟨_, (@pss_cons _ _ _ _ _ (@ps_fld _ _ _ _ _ _ _ _ (@pv _ 0 _ _ (by rfl) (by first | exact Or.inl rfl | exact Or.inr (Or.inl rfl) | exact Or.inr (Or.inr rfl)) (by decide) (by decide)) (@pv _ 1 _ _ (by rfl) (by first | exact Or.inl rfl | exact Or.inr (Or.inl rfl) | exact Or.inr (Or.inr rfl)) (by decide) (by decide)) rfl) (@pss_one _ _ _ (@ps_fld _ _ _ _ _ _ _ _ (@pv _ 0 _ _ (by rfl) (by first | exact Or.inl rfl | exact Or.inr (Or.inl rfl) | exact Or.inr (Or.inr rfl)) (by decide) (by decide)) pe_dnewT rfl))), ?_⟩
  walk_at "rd"
  refine ⟨C_Lister, dx, [], hp, cl_Lister, n_Lister_book, by decide, fun d hd => ?_⟩
  have hne : p ≠ d := ne_of_none upd_same hd
  rw [upd_ne (Ne.symm hne)] at hd
  refine ⟨C_Lister, dx, _, by rw [upd_ne hne]; exact upd_same, cl_Lister, n_Lister_makers, by simp [putF], q d _ hd (fun x o hx h => ?_) ?_ ?_⟩
  · rw [upd_ne hx, upd_ne (ne_of_none h hd), upd_ne hx]; exact h
  · rw [upd_same, lf_put]
  · rw [upd_ne (Ne.symm hne), upd_same]
theorem upd_none {H : Hp} {a b : Addr} {o : HO} (h : upd H a o b = none) : H b = none := by
  by_cases e : b = a
  · subst e; rw [upd_same] at h; cases h
  · rw [upd_ne e] at h; exact h
theorem made_same {H H' : Hp} {x dx : Addr} {o u : HO} (hx : H x = none) (hdx : H dx = none) (sb : SameBut x (upd (upd H dx o) x u) H') : Same H H' := fun y z h => by
  have n1 : y ≠ x := ne_of_none h hx
  have n2 : y ≠ dx := ne_of_none h hdx
  exact sb _ _ n1 (by rw [upd_ne n1, upd_ne n2]; exact h)
def sp_new (K : PySem.W.Frag) (CW CT : Addr) : Sp := fun vs H Q _ => ∃ (l a : Addr) (sh : Sh), vs = [.ref l, .ref a] ∧ AtSh H a sh ∧ ∀ p cl H', Same H H' → H p = none → H cl = none → Maker CW CT H' p sh cl 0 → Q (.ref p) H'
theorem ok_Lister_new_maker {k : Nat} {C_CountError : Addr} {C_NoDraw : Addr} {C_NoNumber : Addr} {C_TooMany : Addr} {C_Lister : Addr} {C_TextMaker : Addr} {C_WholeMaker : Addr} (R : g.RawM C_Lister "new_maker" "Lister.new_maker" s_Lister_new_maker ["self", "shape"]) {j_WholeMaker___init__ : Nat} (F_WholeMaker___init__ : g.Ma j_WholeMaker___init__ "WholeMaker" C_WholeMaker ["self", "low", "high"] (sp_Wm_init g.K C_WholeMaker C_TextMaker)) (h_WholeMaker___init__ : j_WholeMaker___init__ + 1 ≤ k) {j_TextMaker___init__ : Nat} (F_TextMaker___init__ : g.Ma j_TextMaker___init__ "TextMaker" C_TextMaker ["self", "signs"] (sp_Tm_init g.K C_WholeMaker C_TextMaker)) (h_TextMaker___init__ : j_TextMaker___init__ + 1 ≤ k) : g.Me (k + 1) C_Lister "new_maker" ["self", "shape"] (sp_new g.K C_WholeMaker C_TextMaker) := by
  refine R.me sc_Lister_new_maker (fun vs H Q E h => by obtain ⟨l, a, sh, rfl, ha, q⟩ := h; rfl) fun f_ cdv A outer s H vs Q E hr h => ?_
  obtain ⟨l, a, sh, rfl, ha, q⟩ := h
  refine ⟨_, (@pss_cons _ _ _ _ _ (@ps_set _ _ (2) _ _ _ _ sc_Lister_new_maker.nd rfl (Or.inl rfl) (@pe_ix _ _ _ _ _ _ _ ix_tup (@pv _ 1 _ _ (by rfl) (by first | exact Or.inl rfl | exact Or.inr (Or.inl rfl) | exact Or.inr (Or.inr rfl)) (by decide) (by decide)) pe_int (fun _ _ => rfl)) (by rfl) (by first | exact .inl rfl | exact .inr rfl | assumption)) (@pss_cons _ _ _ _ _ (@ps_if _ _ _ _ _ _ _ _ (@pt_cmpR _ _ _ _ _ _ _ _ op_eq (@pv _ 2 _ _ (by rfl) (by first | exact Or.inl rfl | exact Or.inr (Or.inl rfl) | exact Or.inr (Or.inr rfl)) (by decide) (by decide)) pe_str (nomark _)) (@pss_one _ _ _ (@ps_ret _ _ _ _ (@pe_ma _ _ _ _ _ _ _ _ _ _ _ _ _ F_WholeMaker___init__ hr (@pa_cons _ _ _ _ _ (@pe_ix _ _ _ _ _ _ _ ix_tup (@pv _ 1 _ _ (by rfl) (by first | exact Or.inl rfl | exact Or.inr (Or.inl rfl) | exact Or.inr (Or.inr rfl)) (by decide) (by decide)) pe_int (fun _ _ => rfl)) (@pa_cons _ _ _ _ _ (@pe_ix _ _ _ _ _ _ _ ix_tup (@pv _ 1 _ _ (by rfl) (by first | exact Or.inl rfl | exact Or.inr (Or.inl rfl) | exact Or.inr (Or.inr rfl)) (by decide) (by decide)) pe_int (fun _ _ => rfl)) pa_nil (by rfl)) (by rfl)) (by omega) (by rfl) (by rfl) (by decide) (by rfl) (by rfl)))) pss_nil) (@pss_cons _ _ _ _ _ (@ps_if _ _ _ _ _ _ _ _ (@pt_cmpR _ _ _ _ _ _ _ _ op_eq (@pv _ 2 _ _ (by rfl) (by first | exact Or.inl rfl | exact Or.inr (Or.inl rfl) | exact Or.inr (Or.inr rfl)) (by decide) (by decide)) pe_str (nomark _)) (@pss_one _ _ _ (@ps_ret _ _ _ _ (@pe_ma _ _ _ _ _ _ _ _ _ _ _ _ _ F_TextMaker___init__ hr (@pa_cons _ _ _ _ _ (@pe_ix _ _ _ _ _ _ _ ix_tup (@pv _ 1 _ _ (by rfl) (by first | exact Or.inl rfl | exact Or.inr (Or.inl rfl) | exact Or.inr (Or.inr rfl)) (by decide) (by decide)) pe_int (fun _ _ => rfl)) pa_nil (by rfl)) (by omega) (by rfl) (by rfl) (by decide) (by rfl) (by rfl)))) pss_nil) (@pss_cons _ _ _ _ _ ps_never (@pss_cons _ _ _ _ _ ps_never (@pss_cons _ _ _ _ _ ps_never (@pss_cons _ _ _ _ _ ps_never (@pss_cons _ _ _ _ _ ps_never (@pss_one _ _ _ ps_never))))))))), ?_⟩
  walk_at "rd"
  cases sh with
  | w lo span => exact ⟨_, SqT.of ha, _, rfl, scal_ss _ _, iteY rfl ⟨_, SqT.of ha, _, rfl, _, SqT.of ha, _, rfl, fun x dx hx hdx hne => ⟨x, dx, lo, span, rfl, upd_same, fun cl H' hcl sb hm => ⟨rfl, q x cl H' (made_same hx hdx sb) hx (upd_none (upd_none hcl)) hm⟩⟩⟩⟩
  | t sg => exact ⟨_, SqT.of ha, _, rfl, scal_ss _ _, iteN (by decide +kernel) ⟨scal_ss _ _, iteY rfl ⟨_, SqT.of ha, _, rfl, fun x dx hx hdx hne => ⟨x, dx, sg, rfl, upd_same, fun cl H' hcl sb hm => ⟨rfl, q x cl H' (made_same hx hdx sb) hx (upd_none (upd_none hcl)) hm⟩⟩⟩⟩⟩
def shK : Sh → List Key
  | .w lo span => [.inr "whole", .inl lo, .inl (lo + span)]
  | .t sg => [.inr "text", .inr (S sg)]
theorem shK_V (sh : Sh) : (shK sh).map kV = shV sh := by cases sh <;> rfl
theorem sh_mark (sh : Sh) : ∃ x, atI (shV sh) 0 = some (.str x) ∧ ¬ (V.str x = V.str "use") := by
  cases sh
  · exact ⟨"whole", rfl, by decide +kernel⟩
  · exact ⟨"text", rfl, by decide +kernel⟩
def sp_maker_of (K : PySem.W.Frag) (CL CW CT : Addr) : Sp := fun vs H Q _ => ∃ (l dx d a : Addr) (b : V) (sh : Sh), vs = [.ref l, .ref a] ∧ H l = some (.ins CL dx (lf b d)) ∧ H d = some (.dT []) ∧ AtSh H a sh ∧ ∀ p cl H', SameBut d H H' → H p = none → H cl = none → Maker CW CT H' p sh cl 0 → Q (.ref p) H'
theorem ok_Lister_maker_of {k : Nat} {C_CountError : Addr} {C_NoDraw : Addr} {C_NoNumber : Addr} {C_TooMany : Addr} {C_Lister : Addr} {C_TextMaker : Addr} {C_WholeMaker : Addr} (R : g.RawM C_Lister "maker_of" "Lister.maker_of" s_Lister_maker_of ["self", "shape"]) (F_Lister_new_maker : g.Me k C_Lister "new_maker" ["self", "shape"] (sp_new g.K C_WholeMaker C_TextMaker)) (cl_Lister : Cls g.K C_Lister) (n_Lister_book : NoAttr g.K C_Lister "book") (n_Lister_makers : NoAttr g.K C_Lister "makers") : g.Me (k + 1) C_Lister "maker_of" ["self", "shape"] (sp_maker_of g.K C_Lister C_WholeMaker C_TextMaker) := by
  refine R.me sc_Lister_maker_of (fun vs H Q E h => by obtain ⟨l, dx, d, a, b, sh, rfl, hl, hd, ha, q⟩ := h; rfl) fun f_ cdv A outer s H vs Q E hr h => ?_
  obtain ⟨l, dx, d, a, b, sh, rfl, hl, hd, ha, q⟩ := h
  have hu := hu_of hr
  refine ⟨_, (@pss_cons _ _ _ _ _ (@ps_if _ _ _ _ _ _ _ _ (@pt_cmpR _ _ _ _ _ _ _ _ (op_notInD (hu_of hr)) (@pv _ 1 _ _ (by rfl) (by first | exact Or.inl rfl | exact Or.inr (Or.inl rfl) | exact Or.inr (Or.inr rfl)) (by decide) (by decide)) (@pe_fld _ _ _ _ _ (@pv _ 0 _ _ (by rfl) (by first | exact Or.inl rfl | exact Or.inr (Or.inl rfl) | exact Or.inr (Or.inr rfl)) (by decide) (by decide)) rfl) rfl) (@pss_one _ _ _ (@ps_if _ _ _ _ _ _ _ _ (@pt_cmpR _ _ _ _ _ _ _ _ op_eq (@pe_ix _ _ _ _ _ _ _ ix_tup (@pv _ 1 _ _ (by rfl) (by first | exact Or.inl rfl | exact Or.inr (Or.inl rfl) | exact Or.inr (Or.inr rfl)) (by decide) (by decide)) pe_int (fun _ _ => rfl)) pe_str (nomark _)) (@pss_one _ _ _ ps_never) (@pss_one _ _ _ (@ps_dput _ _ _ _ _ _ _ _ _ (hu_of hr) (@pe_fld _ _ _ _ _ (@pv _ 0 _ _ (by rfl) (by first | exact Or.inl rfl | exact Or.inr (Or.inl rfl) | exact Or.inr (Or.inr rfl)) (by decide) (by decide)) rfl) (@pv _ 1 _ _ (by rfl) (by first | exact Or.inl rfl | exact Or.inr (Or.inl rfl) | exact Or.inr (Or.inr rfl)) (by decide) (by decide)) (@pe_me _ _ _ _ _ _ _ _ _ _ _ _ _ _ _ _ F_Lister_new_maker cl_Lister hr (@pv _ 0 _ _ (by rfl) (by first | exact Or.inl rfl | exact Or.inr (Or.inl rfl) | exact Or.inr (Or.inr rfl)) (by decide) (by decide)) (@pa_cons _ _ _ _ _ (@pv _ 1 _ _ (by rfl) (by first | exact Or.inl rfl | exact Or.inr (Or.inl rfl) | exact Or.inr (Or.inr rfl)) (by decide) (by decide)) pa_nil (by rfl)) (by omega) (by rfl) (by rfl) (by rfl) (by rfl)) rfl)))) pss_nil) (@pss_one _ _ _ (@ps_ret _ _ _ _ (@pe_dget _ _ _ _ _ _ (hu_of hr) (@pe_fld _ _ _ _ _ (@pv _ 0 _ _ (by rfl) (by first | exact Or.inl rfl | exact Or.inr (Or.inl rfl) | exact Or.inr (Or.inr rfl)) (by decide) (by decide)) rfl) (@pv _ 1 _ _ (by rfl) (by first | exact Or.inl rfl | exact Or.inr (Or.inl rfl) | exact Or.inr (Or.inr rfl)) (by decide) (by decide)) (fun _ _ => rfl))))), ?_⟩
  walk_at "rd"
  obtain ⟨x, hx, hnu⟩ := sh_mark sh
  have hg : DGet H d (.ref a) none := DGet.t (kvs := []) (k := shK sh) hd (by rw [shK_V]; exact ha)
  refine ⟨_, _, _, hl, cl_Lister, n_Lister_makers, _, lf_makers _ _, _, rfl, _, hg, iteY rfl ⟨_, SqT.of ha, _, hx, scal_ss _ _, iteN hnu ⟨_, _, hl, lf_no _ _ (by decide +kernel) (by decide +kernel), l, a, sh, rfl, ha, fun p cl H' s' hp hcl hm => ?_⟩⟩⟩
  have nld : l ≠ d := ne_of hl hd (by simp)
  have nad : a ≠ d := ne_of ha hd (by simp)
  have npd : p ≠ d := Ne.symm (ne_of_none hd hp)
  have ncd : cl ≠ d := Ne.symm (ne_of_none hd hcl)
  refine ⟨_, _, _, s' _ _ hl, cl_Lister, n_Lister_makers, _, lf_makers _ _, _, rfl, _, DPut.t (k := shK sh) (s' _ _ hd) (by rw [shK_V]; exact s' _ _ ha) (by decide), ?_⟩
  refine ⟨_, _, _, (upd_ne nld).trans (s' _ _ hl), cl_Lister, n_Lister_makers, _, lf_makers _ _, _, rfl, .ref p, ?_, ?_⟩
  · have := DGet.t (H := upd H' d (.dT (putK [] (shK sh) (.ref p)))) (a := d) (b := a) (k := shK sh) upd_same (by rw [upd_ne nad, shK_V]; exact s' _ _ ha)
    rw [valV_put, if_pos rfl] at this
    exact this
  · obtain ⟨dx2, m1, m2⟩ := hm
    exact q p cl _ (SameBut.upd (Same.but s') _) hp hcl ⟨dx2, by rw [upd_ne npd]; exact m1, by rw [upd_ne ncd]; exact m2⟩
def sp_maker_for (K : PySem.W.Frag) (CW CT : Addr) : Sp := fun vs H Q _ => ∃ (a : Addr) (b : V) (sh : Sh), vs = [b, .ref a] ∧ AtSh H a sh ∧ ∀ p cl H', Same H H' → H p = none → H cl = none → Maker CW CT H' p sh cl 0 → Q (.ref p) H'
theorem ok_maker_for {k : Nat} {C_CountError : Addr} {C_NoDraw : Addr} {C_NoNumber : Addr} {C_TooMany : Addr} {C_Lister : Addr} {C_TextMaker : Addr} {C_WholeMaker : Addr} (R : g.Raw "maker_for" "maker_for" s_maker_for ["book", "shape"]) {j_Lister___init__ : Nat} (F_Lister___init__ : g.Ma j_Lister___init__ "Lister" C_Lister ["self", "book"] (sp_Li_init g.K C_Lister)) (h_Lister___init__ : j_Lister___init__ + 1 ≤ k) (F_Lister_maker_of : g.Me k C_Lister "maker_of" ["self", "shape"] (sp_maker_of g.K C_Lister C_WholeMaker C_TextMaker)) (cl_Lister : Cls g.K C_Lister) (n_Lister_book : NoAttr g.K C_Lister "book") (n_Lister_makers : NoAttr g.K C_Lister "makers") : g.Fn (k + 1) "maker_for" ["book", "shape"] (sp_maker_for g.K C_WholeMaker C_TextMaker) := by
  refine R.fn sc_maker_for (fun vs H Q E h => by obtain ⟨a, b, sh, rfl, ha, q⟩ := h; rfl) fun f_ cdv A outer s H vs Q E hr h => ?_
  obtain ⟨a, b, sh, rfl, ha, q⟩ := h
  refine ⟨_, (@pss_one _ _ _ (@ps_ret _ _ _ _ (@pe_me _ _ _ _ _ _ _ _ _ _ _ _ _ _ _ _ F_Lister_maker_of cl_Lister hr (@pe_ma _ _ _ _ _ _ _ _ _ _ _ _ _ F_Lister___init__ hr (@pa_cons _ _ _ _ _ (@pv _ 0 _ _ (by rfl) (by first | exact Or.inl rfl | exact Or.inr (Or.inl rfl) | exact Or.inr (Or.inr rfl)) (by decide) (by decide)) pa_nil (by rfl)) (by omega) (by rfl) (by rfl) (by decide) (by rfl) (by rfl)) (@pa_cons _ _ _ _ _ (@pv _ 1 _ _ (by rfl) (by first | exact Or.inl rfl | exact Or.inr (Or.inl rfl) | exact Or.inr (Or.inr rfl)) (by decide) (by decide)) pa_nil (by rfl)) (by omega) (by rfl) (by rfl) (by rfl) (by rfl)))), ?_⟩
  walk_at "rd"
  intro x dx hx hdx hne
  refine ⟨x, dx, b, rfl, upd_same, fun d H1 hd sb h1 h2 => ⟨rfl, _, _, h1, lf_no _ _ (by decide +kernel) (by decide +kernel), x, dx, d, a, b, sh, rfl, h1, h2, ?_, fun p cl H2 s2 hp hcl hm => q p cl H2 ?_ ?_ ?_ hm⟩⟩
  · exact made_same hx hdx sb _ _ ha
  · exact s2.new (made_same hx hdx sb) (upd_none (upd_none hd))
  · exact (made_same hx hdx sb).free hp
  · exact (made_same hx hdx sb).free hcl
def sp_counted (K : PySem.W.Frag) : Sp := fun vs H Q _ => ∃ (a : Addr) (b : V) (sh : Sh) (k : Nat), vs = [b, .ref a, .int k] ∧ AtSh H a sh ∧ sh.ok ∧ k ≤ 50 ∧ ∀ H', Same H H' → Q (.int (cnt sh k)) H'
end KW
set_option maxHeartbeats 8000000
namespace KW
open PySem L2

variable {g : Gx}
variable {m : Nat}
local macro_rules | `(tactic| walk_at "gn") => `(tactic| simp only [gName, List.set_cons_zero, List.set_cons_succ])

local macro_rules | `(tactic| walk_at "rd") => `(tactic| simp (config := { failIfUnchanged := false, maxSteps := 10000000 }) only [L2.start, cxOf_K, nox_K, List.map_cons, List.map_nil, List.length_cons, List.length_nil, List.cons_append, List.nil_append, List.replicate_succ, List.replicate_zero, Nat.zero_add, Nat.reduceAdd, Nat.reduceSub, Nat.sub_self, tSeq, tIfS, tTest, tOp, tC, tVar, rI0, rI, rU, tUn, tRet, tRetN, tDrop, tNext, tBreak, tCont, tAsg, gName, gNil, gCons, tCons, tNil, tCB, tCall, tTry, tTryAs, tRaise, sFld, tFld, tMake, tMeth, Ends.gone, caught_K, tB, tAnd, tOr, tNot, tAndV, tOrV, tNotV, tIf, tChain, tNoPart, tPart, tSl, tNever, tAug, rIxL, rIxT, rSlL, tLst, tTup, gTup, tRev, tLZ, tConT, tDict0, tDNewT, tDGet, sDPut, rNotInD, rInD, tEither, tSlStep, rBits, rFind, rIn, tBM, tBM0, rAppend, rReverse, rEq, rNe, scal_ii, scal_ss, rCat, rSetL, gSub, ipI, capSt, List.getD_cons_zero, List.getD_cons_succ, decide_true, not_true_eq_false, not_false_eq_true,
  exists_eq_left', exists_eq_left, exists_eq', exists_eq, exists_and_left, and_assoc, Option.some.injEq, V.int.injEq, V.bl.injEq, V.ref.injEq, V.str.injEq, List.getElem?_cons_zero, List.getElem?_cons_succ, List.set_cons_zero, List.set_cons_succ, List.cons.injEq, and_true, true_and, List.append_nil, decide_eq_true_eq, Bool.not_eq_true', decide_eq_false_iff_not, Bool.not_not, Bool.not_true, Bool.not_false, Bool.true_eq_false, Bool.false_eq_true, if_true, if_false, ite_true, ite_false])

def sp_counts_to (K : PySem.W.Frag) : Sp := fun vs H Q _ => ∃ (a : Addr) (b : V) (sh : Sh) (k : Nat), vs = [b, .ref a, .int k] ∧ AtSh H a sh ∧ sh.ok ∧ k ≤ 49 ∧ ∀ D H', Same H H' → H D = none → H' D = some (.lst (cnts (cnt sh) (k + 1))) → Q (.ref D) H'
end KW
set_option maxHeartbeats 8000000
namespace KW
open PySem L2

variable {g : Gx}
variable {m : Nat}
local macro_rules | `(tactic| walk_at "gn") => `(tactic| simp only [gName, List.set_cons_zero, List.set_cons_succ])

local macro_rules | `(tactic| walk_at "rd") => `(tactic| simp (config := { failIfUnchanged := false, maxSteps := 10000000 }) only [L2.start, cxOf_K, nox_K, List.map_cons, List.map_nil, List.length_cons, List.length_nil, List.cons_append, List.nil_append, List.replicate_succ, List.replicate_zero, Nat.zero_add, Nat.reduceAdd, Nat.reduceSub, Nat.sub_self, tSeq, tIfS, tTest, tOp, tC, tVar, rI0, rI, rU, tUn, tRet, tRetN, tDrop, tNext, tBreak, tCont, tAsg, gName, gNil, gCons, tCons, tNil, tCB, tCall, tTry, tTryAs, tRaise, sFld, tFld, tMake, tMeth, Ends.gone, caught_K, tB, tAnd, tOr, tNot, tAndV, tOrV, tNotV, tIf, tChain, tNoPart, tPart, tSl, tNever, tAug, rIxL, rIxT, rSlL, tLst, tTup, gTup, tRev, tLZ, tConT, tDict0, tDNewT, tDGet, sDPut, rNotInD, rInD, tEither, tSlStep, rBits, rFind, rIn, tBM, tBM0, rAppend, rReverse, rEq, rNe, scal_ii, scal_ss, rCat, rSetL, gSub, ipI, capSt, List.getD_cons_zero, List.getD_cons_succ, decide_true, not_true_eq_false, not_false_eq_true,
  exists_eq_left', exists_eq_left, exists_eq', exists_eq, exists_and_left, and_assoc, Option.some.injEq, V.int.injEq, V.bl.injEq, V.ref.injEq, V.str.injEq, List.getElem?_cons_zero, List.getElem?_cons_succ, List.set_cons_zero, List.set_cons_succ, List.cons.injEq, and_true, true_and, List.append_nil, decide_eq_true_eq, Bool.not_eq_true', decide_eq_false_iff_not, Bool.not_not, Bool.not_true, Bool.not_false, Bool.true_eq_false, Bool.false_eq_true, if_true, if_false, ite_true, ite_false])

def sp_Wm_value (K : PySem.W.Frag) (CW CT : Addr) : Sp := fun vs H Q _ => ∃ (p dx cl : Addr) (lo j : Int) (span n : Nat), vs = [.ref p, .int n, .int j] ∧ n ≤ 100 ∧ H p = some (.ins CW dx (mf cl (.w lo span))) ∧ Q (.int (lo + 1 * 2 ^ n / 2 ^ 1 + j)) H
theorem ok_WholeMaker_value_at {k : Nat} {C_CountError : Addr} {C_NoDraw : Addr} {C_NoNumber : Addr} {C_TooMany : Addr} {C_Lister : Addr} {C_TextMaker : Addr} {C_WholeMaker : Addr} (R : g.RawM C_WholeMaker "value_at" "WholeMaker.value_at" s_WholeMaker_value_at ["self", "size", "number"]) (F_least_distance : g.Fn k "least_distance" ["size"] (sp_ld)) (cl_WholeMaker : Cls g.K C_WholeMaker) (n_WholeMaker_counts : NoAttr g.K C_WholeMaker "counts") (n_WholeMaker_low : NoAttr g.K C_WholeMaker "low") (n_WholeMaker_span : NoAttr g.K C_WholeMaker "span") : g.Me (k + 1) C_WholeMaker "value_at" ["self", "size", "number"] (sp_Wm_value g.K C_WholeMaker C_TextMaker) := by
  refine R.me sc_WholeMaker_value_at (fun vs H Q E h => by obtain ⟨p, dx, cl, lo, j, span, n, rfl, hn, hp, q⟩ := h; rfl) fun f_ cdv A outer s H vs Q E hr h => ?_
  obtain ⟨p, dx, cl, lo, j, span, n, rfl, hn, hp, q⟩ := h
  refine ⟨_, (@pss_one _ _ _ (@ps_ret _ _ _ _ (@pe_op _ _ _ _ _ _ _ _ op_add (@pe_op _ _ _ _ _ _ _ _ op_add (@pe_fld _ _ _ _ _ (@pv _ 0 _ _ (by rfl) (by first | exact Or.inl rfl | exact Or.inr (Or.inl rfl) | exact Or.inr (Or.inr rfl)) (by decide) (by decide)) rfl) (@pe_fn _ _ _ _ _ _ _ _ _ _ _ _ F_least_distance hr (@pa_cons _ _ _ _ _ (@pv _ 1 _ _ (by rfl) (by first | exact Or.inl rfl | exact Or.inr (Or.inl rfl) | exact Or.inr (Or.inr rfl)) (by decide) (by decide)) pa_nil (by rfl)) (by omega) (by rfl) (by rfl) (by decide) (by rfl) (by rfl))) (@pv _ 2 _ _ (by rfl) (by first | exact Or.inl rfl | exact Or.inr (Or.inl rfl) | exact Or.inr (Or.inr rfl)) (by decide) (by decide))))), ?_⟩
  walk_at "rd"
  exact ⟨_, _, _, hp, cl_WholeMaker, n_WholeMaker_low, _, rfl, n, rfl, hn, _, rfl, _, rfl, q⟩
/-- the lowest figures of a number, the lowest first -/
def dg (sg : List Nat) : Nat → Int → List Nat
  | 0, _ => []
  | k + 1, n => sg.getD (n % sg.length).toNat 0 :: dg sg k (n / sg.length)
theorem dg_len (sg : List Nat) : ∀ k n, (dg sg k n).length = k
  | 0, _ => rfl
  | k + 1, n => by rw [dg, List.length_cons, dg_len]
def lef (m : Int) : Nat → Int → Int
  | 0, n => n
  | k + 1, n => lef m k n / m
theorem lef_succ (m : Int) : ∀ k n, lef m (k + 1) n = lef m k (n / m)
  | 0, n => rfl
  | k + 1, n => by rw [lef, lef_succ m k n]; rfl
theorem dg_snoc (sg : List Nat) : ∀ k n, dg sg (k + 1) n = dg sg k n ++ [sg.getD (lef sg.length k n % sg.length).toNat 0]
  | 0, n => rfl
  | k + 1, n => by
    rw [dg, dg_snoc sg k (n / sg.length), dg, lef_succ]
    rfl
theorem sg_at {sg : List Nat} (h : 0 < sg.length) (n : Int) : atI sg (n % sg.length) = some (sg.getD (n % sg.length).toNat 0) := by
  have h1 : 0 ≤ n % (sg.length : Int) := Int.emod_nonneg _ (by omega)
  have h2 : n % (sg.length : Int) < sg.length := Int.emod_lt_of_pos _ (by omega)
  have e : n % (sg.length : Int) = ((n % (sg.length : Int)).toNat : Int) := (Int.toNat_of_nonneg h1).symm
  rw [e, Int.toNat_natCast]
  have hlt : (n % (sg.length : Int)).toNat < sg.length := by omega
  refine atI_nat ?_
  rw [List.getElem?_eq_getElem hlt, List.getD_eq_getElem?_getD, List.getElem?_eq_getElem hlt]
  rfl
theorem mf_val (cl : Addr) (sh : Sh) : (mf cl sh).lookup ("value_at" : Str) = none := mf_no cl sh (by decide +kernel) (by decide +kernel) (by decide +kernel) (by decide +kernel)
theorem joinL_cs : ∀ cs : List Nat, joinL [] (cs.map fun c => [c]) = cs
  | [] => rfl
  | [c] => rfl
  | c :: d :: r => by
    have := joinL_cs (d :: r)
    simp only [List.map_cons] at this ⊢
    rw [joinL, this]
    rfl
theorem join_cs (cs : List Nat) : Txt.join ("" : Str) (cs.map fun c => S [c]) = S cs := by
  have := join_S [] (cs.map fun c => [c])
  rw [List.map_map, joinL_cs] at this
  exact this
def sp_Tm_value (K : PySem.W.Frag) (CW CT : Addr) : Sp := fun vs H Q _ => ∃ (p dx cl : Addr) (j : Int) (sg : List Nat) (n : Nat), vs = [.ref p, .int n, .int j] ∧ n ≤ 100 ∧ 0 < sg.length ∧ sg.length ≤ 62 ∧ H p = some (.ins CT dx (mf cl (.t sg))) ∧ ∀ H', Same H H' → Q (.str (S (dg sg n j).reverse)) H'
theorem ok_TextMaker_value_at {C_CountError : Addr} {C_NoDraw : Addr} {C_NoNumber : Addr} {C_TooMany : Addr} {C_Lister : Addr} {C_TextMaker : Addr} {C_WholeMaker : Addr} (R : g.RawM C_TextMaker "value_at" "TextMaker.value_at" s_TextMaker_value_at ["self", "size", "number"]) (b_len : g.mg "len" = none) (b_range : g.mg "range" = none) (cl_TextMaker : Cls g.K C_TextMaker) (n_TextMaker_counts : NoAttr g.K C_TextMaker "counts") (n_TextMaker_signs : NoAttr g.K C_TextMaker "signs") : g.Me (1) C_TextMaker "value_at" ["self", "size", "number"] (sp_Tm_value g.K C_WholeMaker C_TextMaker) := by
  refine R.me sc_TextMaker_value_at (fun vs H Q E h => by obtain ⟨p, dx, cl, j, sg, n, rfl, hn, h0, hl, hp, q⟩ := h; rfl) fun f_ cdv A outer s H vs Q E hr h => ?_
  obtain ⟨p, dx, cl, j, sg, n, rfl, hn, h0, hl, hp, q⟩ := h
  refine ⟨_, (@pss_cons _ _ _ _ _ (@ps_set _ _ (3) _ _ _ _ sc_TextMaker_value_at.nd rfl (Or.inl rfl) (@pe_lst _ _ _ _ pa_nil) (by rfl) (by first | exact .inl rfl | exact .inr rfl | assumption)) (@pss_cons _ _ _ _ _ (@ps_set _ _ (4) _ _ _ _ sc_TextMaker_value_at.nd rfl (Or.inl rfl) (@pv _ 2 _ _ (by rfl) (by first | exact Or.inl rfl | exact Or.inr (Or.inl rfl) | exact Or.inr (Or.inr rfl)) (by decide) (by decide)) (by rfl) (by first | exact .inl rfl | exact .inr rfl | assumption)) (@pss_cons _ _ _ _ _ (@ps_for _ _ _ _ _ _ _ _ PassesOwn.never rfl (@pi_range1 _ _ _ _ _ _ rfl b_range (@pa_cons _ _ _ _ _ (@pv _ 1 _ _ (by rfl) (by first | exact Or.inl rfl | exact Or.inr (Or.inl rfl) | exact Or.inr (Or.inr rfl)) (by decide) (by decide)) pa_nil (by rfl)) (by rfl)) (@pg_name _ _ (5) _ sc_TextMaker_value_at.nd rfl (Or.inl rfl) (by first | exact .inl rfl | exact .inr rfl | assumption)) (@pss_cons _ _ _ _ _ (@ps_expr _ _ _ _ (@pe_bm _ _ _ _ _ _ _ _ _ _ _ _ PySem.F.plainAttrs_list PySem.F.slot_list_append PySem.F.type_list_append mt_append (@pv _ 3 _ _ (by rfl) (by first | exact Or.inl rfl | exact Or.inr (Or.inl rfl) | exact Or.inr (Or.inr rfl)) (by decide) (by decide)) (@pa_cons _ _ _ _ _ (@pe_ix _ _ _ _ _ _ _ ix_str (@pe_fld _ _ _ _ _ (@pv _ 0 _ _ (by rfl) (by first | exact Or.inl rfl | exact Or.inr (Or.inl rfl) | exact Or.inr (Or.inr rfl)) (by decide) (by decide)) rfl) (@pe_op _ _ _ _ _ _ _ _ op_mod (@pv _ 4 _ _ (by rfl) (by first | exact Or.inl rfl | exact Or.inr (Or.inl rfl) | exact Or.inr (Or.inr rfl)) (by decide) (by decide)) (@pe_bf _ _ _ _ _ _ _ _ _ _ b_len call_len_str (@pa_cons _ _ _ _ _ (@pe_fld _ _ _ _ _ (@pv _ 0 _ _ (by rfl) (by first | exact Or.inl rfl | exact Or.inr (Or.inl rfl) | exact Or.inr (Or.inr rfl)) (by decide) (by decide)) rfl) pa_nil (by rfl)) (by decide +kernel) (by rfl) (by rfl) (by decide) (by decide) (by rfl) (by rfl))) (fun _ _ => rfl)) pa_nil (by rfl)) (by rfl) (by rfl) (by rfl) (by rfl) (by rfl)) (by rfl)) (@pss_one _ _ _ (@ps_set _ _ (4) _ _ _ _ sc_TextMaker_value_at.nd rfl (Or.inl rfl) (@pe_op _ _ _ _ _ _ _ _ op_fdivL (@pv _ 4 _ _ (by rfl) (by first | exact Or.inl rfl | exact Or.inr (Or.inl rfl) | exact Or.inr (Or.inr rfl)) (by decide) (by decide)) (@pe_bf _ _ _ _ _ _ _ _ _ _ b_len call_len_str (@pa_cons _ _ _ _ _ (@pe_fld _ _ _ _ _ (@pv _ 0 _ _ (by rfl) (by first | exact Or.inl rfl | exact Or.inr (Or.inl rfl) | exact Or.inr (Or.inr rfl)) (by decide) (by decide)) rfl) pa_nil (by rfl)) (by decide +kernel) (by rfl) (by rfl) (by decide) (by decide) (by rfl) (by rfl))) (by rfl) (by first | exact .inl rfl | exact .inr rfl | assumption)))) (by intro _; rfl)) (@pss_cons _ _ _ _ _ (@ps_expr _ _ _ _ (@pe_bm0 _ _ _ _ _ _ _ _ _ PySem.F.plainAttrs_list PySem.F.slot_list_reverse PySem.F.type_list_reverse mt_reverse (@pv _ 3 _ _ (by rfl) (by first | exact Or.inl rfl | exact Or.inr (Or.inl rfl) | exact Or.inr (Or.inr rfl)) (by decide) (by decide)) (by rfl) (by rfl)) (by rfl)) (@pss_one _ _ _ (@ps_ret _ _ _ _ (@pe_bm _ _ _ _ _ _ _ _ _ _ _ _ PySem.F.plainAttrs_str PySem.F.slot_str_join PySem.F.type_str_join mt_join pe_str (@pa_cons _ _ _ _ _ (@pv _ 3 _ _ (by rfl) (by first | exact Or.inl rfl | exact Or.inr (Or.inl rfl) | exact Or.inr (Or.inr rfl)) (by decide) (by decide)) pa_nil (by rfl)) (by rfl) (by rfl) (by rfl) (by rfl) (by rfl)))))))), ?_⟩
  walk_at "rd"
  refine ⟨few (by decide), fun F gF => ?_⟩
  refine tFor_range1 (n := n) (fun i σ H' => ∃ o5, σ = [some (.ref p), some (.int n), some (.int j), some (.ref F), some (.int (lef sg.length i j)), o5] ∧ Same H H' ∧ H' F = some (.lst ((dg sg i j).map fun c => V.str (S [c])))) (fun R r => by walk_at "rd"; exact r) (by omega) ⟨_, rfl, .upd_new gF _, upd_same⟩ ?_ ?_
  · rintro i σ H' hi ⟨o5, rfl, sm, hF⟩
    have hp' := sm _ _ hp
    have hpF : p ≠ F := ne_of_none hp gF
    walk_at "rd"
    refine ⟨.inl ⟨rfl, _, SqL.of hF⟩, _, _, _, hp', cl_TextMaker, n_TextMaker_signs, _, rfl, _, _, _, hp', cl_TextMaker, n_TextMaker_signs, _, rfl, _, rfl, by rw [S_len]; exact few (by omega), by rw [S_len]; omega, ?_⟩
    rw [S_len]
    refine ⟨_, _, _, rfl, rfl, by rw [S_len]; exact few (by omega), by rw [S_list]; exact sg_at h0 _, _, hF, by rw [List.length_map, dg_len]; exact few (by omega), _, _, _, (upd_ne hpF).trans hp', cl_TextMaker, n_TextMaker_signs, _, rfl, _, rfl, ?_⟩
    exact ⟨by rw [S_len]; exact few (by omega), by rw [S_len]; exact small_div (by omega) (by omega), by rw [S_len]; rfl, .upd_over gF sm _, by rw [upd_same, dg_snoc, List.map_append]; rfl⟩
  · rintro σ H' ⟨o5, rfl, sm, hF⟩
    walk_at "rd"
    refine ⟨.inl ⟨rfl, _, SqL.of hF⟩, _, hF, rfl, ?_⟩
    have e1 : ((dg sg n j).map fun c => V.str (S [c])).reverse = (dg sg n j).reverse.map fun c => V.str (S [c]) := by rw [List.map_reverse]
    rw [e1]
    refine ⟨"", F, (dg sg n j).reverse.map fun c => S [c], rfl, rfl, by rw [List.map_map]; exact SqL.of upd_same, ?_, ?_⟩
    · rw [List.map_map, List.length_map, List.length_reverse, dg_len]
      have : ((fun x : Str => x.length) ∘ fun c => S [c]) = fun _ => 1 := by funext c; simp [S_len]
      rw [this, List.map_const', List.sum_replicate_nat, List.length_reverse, dg_len]
      have : ("" : Str).length = 0 := by decide +kernel
      rw [this]; omega
    · rw [join_cs]
      exact q _ (.upd_over gF sm _)
end KW
set_option maxHeartbeats 8000000
namespace KW
open PySem L2

variable {g : Gx}
variable {m : Nat}
local macro_rules | `(tactic| walk_at "gn") => `(tactic| simp only [gName, List.set_cons_zero, List.set_cons_succ])

local macro_rules | `(tactic| walk_at "rd") => `(tactic| simp (config := { failIfUnchanged := false, maxSteps := 10000000 }) only [L2.start, cxOf_K, nox_K, List.map_cons, List.map_nil, List.length_cons, List.length_nil, List.cons_append, List.nil_append, List.replicate_succ, List.replicate_zero, Nat.zero_add, Nat.reduceAdd, Nat.reduceSub, Nat.sub_self, tSeq, tIfS, tTest, tOp, tC, tVar, rI0, rI, rU, tUn, tRet, tRetN, tDrop, tNext, tBreak, tCont, tAsg, gName, gNil, gCons, tCons, tNil, tCB, tCall, tTry, tTryAs, tRaise, sFld, tFld, tMake, tMeth, Ends.gone, caught_K, tB, tAnd, tOr, tNot, tAndV, tOrV, tNotV, tIf, tChain, tNoPart, tPart, tSl, tNever, tAug, rIxL, rIxT, rSlL, tLst, tTup, gTup, tRev, tLZ, tConT, tDict0, tDNewT, tDGet, sDPut, rNotInD, rInD, tEither, tSlStep, rBits, rFind, rIn, tBM, tBM0, rAppend, rReverse, rEq, rNe, scal_ii, scal_ss, rCat, rSetL, gSub, ipI, capSt, List.getD_cons_zero, List.getD_cons_succ, decide_true, not_true_eq_false, not_false_eq_true,
  exists_eq_left', exists_eq_left, exists_eq', exists_eq, exists_and_left, and_assoc, Option.some.injEq, V.int.injEq, V.bl.injEq, V.ref.injEq, V.str.injEq, List.getElem?_cons_zero, List.getElem?_cons_succ, List.set_cons_zero, List.set_cons_succ, List.cons.injEq, and_true, true_and, List.append_nil, decide_eq_true_eq, Bool.not_eq_true', decide_eq_false_iff_not, Bool.not_not, Bool.not_true, Bool.not_false, Bool.true_eq_false, Bool.false_eq_true, if_true, if_false, ite_true, ite_false])

def edge (b c : Int) : Int := b - b % c
def drawn (b c : Int) (ns : List Int) : List Int := (ns.filter fun n => decide (n < edge b c)).map (· % c)
def sp_edge_of (C : Addr) : Sp := fun vs H Q E => ∃ b c : Int, vs = [.int b, .int c] ∧ (0 < c → Q (.int (edge b c)) H) ∧ (c ≤ 0 → E (.ref C) none H)
theorem ok_edge_of {C_CountError : Addr} {C_NoDraw : Addr} {C_NoNumber : Addr} {C_TooMany : Addr} {C_Lister : Addr} {C_TextMaker : Addr} {C_WholeMaker : Addr} (R : g.Raw "edge_of" "edge_of" s_edge_of ["base", "count"]) (x_NoDraw : g.mg "NoDraw" = some (.ref C_NoDraw)) (r_NoDraw : PySem.W.excIn g.K C_NoDraw veLine "ValueError.__new__" = true) : g.FnX (1) "edge_of" ["base", "count"] (sp_edge_of C_NoDraw) := by
  refine R.fnX sc_edge_of (fun vs H Q E h => by obtain ⟨b, c, rfl, q, qe⟩ := h; rfl) fun f_ cdv A outer s H vs Q E hr h => ?_
  obtain ⟨b, c, rfl, q, qe⟩ := h
  refine ⟨_, (@pss_cons _ _ _ _ _ (@ps_if _ _ _ _ _ _ _ _ (@pt_cmpR _ _ _ _ _ _ _ _ op_le (@pv _ 1 _ _ (by rfl) (by first | exact Or.inl rfl | exact Or.inr (Or.inl rfl) | exact Or.inr (Or.inr rfl)) (by decide) (by decide)) pe_int (nomark _)) (@pss_one _ _ _ (@ps_raise _ _ _ _ _ _ _ _ _ _ _ ⟨x_NoDraw, r_NoDraw⟩ raiseF (@pa_cons _ _ _ _ _ pe_str pa_nil (by rfl)) (by rfl) (by rfl) (by rfl) (by decide) (by rfl) (by rfl))) pss_nil) (@pss_one _ _ _ (PS.nox (@ps_ret _ _ _ _ (@pe_op _ _ _ _ _ _ _ _ op_sub (@pv _ 0 _ _ (by rfl) (by first | exact Or.inl rfl | exact Or.inr (Or.inl rfl) | exact Or.inr (Or.inr rfl)) (by decide) (by decide)) (@pe_op _ _ _ _ _ _ _ _ op_mod (@pv _ 0 _ _ (by rfl) (by first | exact Or.inl rfl | exact Or.inr (Or.inl rfl) | exact Or.inr (Or.inr rfl)) (by decide) (by decide)) (@pv _ 1 _ _ (by rfl) (by first | exact Or.inl rfl | exact Or.inr (Or.inl rfl) | exact Or.inr (Or.inr rfl)) (by decide) (by decide)))))))), ?_⟩
  walk_at "rd"
  refine ite2 (fun z => ⟨few (by decide), qe z⟩) (fun z => ?_)
  exact ⟨by omega, q (by omega)⟩
def sp_all_fair (K : PySem.W.Frag) (C : Addr) : Sp := fun vs H Q E => ∃ (a : Addr) (ns : List Int) (b c : Int), vs = [.ref a, .int b, .int c] ∧ SqL K H a (ns.map V.int) ∧ ns.length ≤ 10000 ∧
  (0 < c → ∀ D H', Same H H' → H D = none → H' D = some (.lst ((drawn b c ns).map V.int)) → Q (.ref D) H') ∧ (c ≤ 0 → E (.ref C) none H)
theorem ok_all_fair {k : Nat} {C_CountError : Addr} {C_NoDraw : Addr} {C_NoNumber : Addr} {C_TooMany : Addr} {C_Lister : Addr} {C_TextMaker : Addr} {C_WholeMaker : Addr} (R : g.Raw "all_fair" "all_fair" s_all_fair ["numbers", "base", "count"]) (F_edge_of : g.FnX k "edge_of" ["base", "count"] (sp_edge_of C_NoDraw)) : g.FnX (k + 1) "all_fair" ["numbers", "base", "count"] (sp_all_fair g.K C_NoDraw) := by
  refine R.fnX sc_all_fair (fun vs H Q E h => by obtain ⟨a, ns, b, c, rfl, hS, hl, q, qe⟩ := h; rfl) fun f_ cdv A outer s H vs Q E hr h => ?_
  obtain ⟨a, ns, b, c, rfl, hS, hl, q, qe⟩ := h
  refine ⟨_, (@pss_cons _ _ _ _ _ (@ps_set _ _ (3) _ _ _ _ sc_all_fair.nd rfl (Or.inr rfl) (@pe_fnX _ _ _ _ _ _ _ _ _ _ _ _ _ F_edge_of hr passF (@pa_cons _ _ _ _ _ (@pv _ 1 _ _ (by rfl) (by first | exact Or.inl rfl | exact Or.inr (Or.inl rfl) | exact Or.inr (Or.inr rfl)) (by decide) (by decide)) (@pa_cons _ _ _ _ _ (@pv _ 2 _ _ (by rfl) (by first | exact Or.inl rfl | exact Or.inr (Or.inl rfl) | exact Or.inr (Or.inr rfl)) (by decide) (by decide)) pa_nil (by rfl)) (by rfl)) (by omega) (by rfl) (by rfl) (by decide) (by rfl) (by rfl)) (by rfl) (by first | exact .inl rfl | exact .inr rfl | assumption)) (@pss_one _ _ _ (PS.nox (@ps_ret _ _ _ _ (@pe_lc _ _ _ _ _ _ _ ([none, some 3, some 2]) ((["number", "edge", "count"] : List Str)) _ (gName 0) _ _ (.own (.cap (i := 3) rfl rfl (by first | exact Or.inl rfl | exact Or.inr rfl) (.cap (i := 2) rfl rfl (by first | exact Or.inl rfl | exact Or.inr rfl) .nil))) rfl (@pi_list _ _ _ _ (@pv _ 0 _ _ (by rfl) (by first | exact Or.inl rfl | exact Or.inr (Or.inl rfl) | exact Or.inr (Or.inr rfl)) (by decide) (by decide))) (fun cl C s₀ H₀ fp pn => (@pg_name _ _ (0) _ (show List.Nodup (["number", "edge", "count"] : List Str) by decide +kernel) rfl (Or.inl rfl) (Or.inr rfl))) (fun cl C s₀ H₀ fp pn => (@pts_one _ _ _ (@pt_cmpR _ _ _ _ _ _ _ _ op_lt (@pv _ 0 _ _ (by rfl) (by first | exact Or.inl rfl | exact Or.inr (Or.inl rfl) | exact Or.inr (Or.inr rfl)) (by decide) (by decide)) (@pv _ 1 _ _ (by rfl) (by first | exact Or.inl rfl | exact Or.inr (Or.inl rfl) | exact Or.inr (Or.inr rfl)) (by decide) (by decide)) (nomark _)))) (fun cl C s₀ H₀ fp pn => (@pe_op _ _ _ _ _ _ _ _ op_mod (@pv _ 0 _ _ (by rfl) (by first | exact Or.inl rfl | exact Or.inr (Or.inl rfl) | exact Or.inr (Or.inr rfl)) (by decide) (by decide)) (@pv _ 2 _ _ (by rfl) (by first | exact Or.inl rfl | exact Or.inr (Or.inl rfl) | exact Or.inr (Or.inr rfl)) (by decide) (by decide)))) (by intro x hx; simp at hx; first | (subst hx; exact Or.inl rfl) | (rcases hx with rfl | rfl <;> exact Or.inl rfl) | (rcases hx with rfl | rfl | rfl <;> exact Or.inl rfl)) (by rfl) (by decide) (by decide +kernel) (by intro _; rfl)))))), ?_⟩
  walk_at "rd"
  refine ⟨b, c, rfl, fun hc => ?_, qe⟩
  walk_at "rd"
  refine tLC_filt (K := g.K) (xs := ns.map V.int) (fun v => match v with | .int i => decide (i < edge b c) | _ => false) (fun v => match v with | .int i => V.int (i % c) | v => v) (fun R r => by walk_at "rd"; exact r a H (.refl _) hS) (by rw [List.length_map]; omega) ?_ ?_ ?_
  · intro x H' hx sm R r
    obtain ⟨i, _, rfl⟩ := List.mem_map.mp hx
    walk_at "rd"
    exact r H' (.refl _)
  · intro x H' hx hp sm R r
    obtain ⟨i, _, rfl⟩ := List.mem_map.mp hx
    walk_at "rd"
    exact ⟨hc, r H' (.refl _)⟩
  · intro D H' hD sm hd
    refine q hc D H' sm hD ?_
    rw [hd, drawn, List.filter_map, List.map_map, List.map_map]
    rfl
theorem tLC_raise {K : PySem.W.Frag} {src : List (Option Nat)} {te tl : TE} {tt : TT} {gg : TG} {σ : St} {H : Hp} {Q : VK} (h : ∀ R : V → Hp → Prop, tl σ H R) : tLC src (iList K tl) gg tt te σ H Q := h _
def val (sh : Sh) (k : Nat) (n : Int) : V := match sh with
  | .w lo _ => .int (lo + 1 * 2 ^ k / 2 ^ 1 + n)
  | .t sg => .str (S (dg sg k n).reverse)
def Sh.ok2 : Sh → Prop
  | .w _ _ => True
  | .t sg => 0 < sg.length ∧ sg.length ≤ 62
def sp_drawn (K : PySem.W.Frag) (C : Addr) : Sp := fun vs H Q E => ∃ (a D : Addr) (bk : V) (sh : Sh) (k : Nat) (base : Int) (ns : List Int), vs = [bk, .ref a, .int k, .ref D, .int base] ∧ AtSh H a sh ∧ sh.ok2 ∧ k ≤ 16 ∧ SqL K H D (ns.map V.int) ∧ ns.length ≤ 10000 ∧
  (0 < cnt sh k → ∀ R H', Same H H' → H R = none → H' R = some (.lst ((drawn base (cnt sh k) ns).map (val sh k))) → Q (.ref R) H') ∧ (cnt sh k ≤ 0 → ∀ H', Same H H' → E (.ref C) none H')
theorem ok_drawn_values {k : Nat} {C_CountError : Addr} {C_NoDraw : Addr} {C_NoNumber : Addr} {C_TooMany : Addr} {C_Lister : Addr} {C_TextMaker : Addr} {C_WholeMaker : Addr} (R : g.Raw "drawn_values" "drawn_values" s_drawn_values ["book", "shape", "size", "numbers", "base"]) (F_all_fair : g.FnX k "all_fair" ["numbers", "base", "count"] (sp_all_fair g.K C_NoDraw)) (F_maker_for : g.Fn k "maker_for" ["book", "shape"] (sp_maker_for g.K C_WholeMaker C_TextMaker)) (F_WholeMaker_value_at : g.Me k C_WholeMaker "value_at" ["self", "size", "number"] (sp_Wm_value g.K C_WholeMaker C_TextMaker)) (F_TextMaker_value_at : g.Me k C_TextMaker "value_at" ["self", "size", "number"] (sp_Tm_value g.K C_WholeMaker C_TextMaker)) (F_WholeMaker_count_at : g.Me k C_WholeMaker "count_at" ["self", "size"] (sp_Wm_count g.K C_WholeMaker C_TextMaker)) (F_TextMaker_count_at : g.Me k C_TextMaker "count_at" ["self", "size"] (sp_Tm_count g.K C_WholeMaker C_TextMaker 3)) (cl_TextMaker : Cls g.K C_TextMaker) (n_TextMaker_counts : NoAttr g.K C_TextMaker "counts") (n_TextMaker_signs : NoAttr g.K C_TextMaker "signs") (cl_WholeMaker : Cls g.K C_WholeMaker) (n_WholeMaker_counts : NoAttr g.K C_WholeMaker "counts") (n_WholeMaker_low : NoAttr g.K C_WholeMaker "low") (n_WholeMaker_span : NoAttr g.K C_WholeMaker "span") : g.FnX (k + 1) "drawn_values" ["book", "shape", "size", "numbers", "base"] (sp_drawn g.K C_NoDraw) := by
  refine R.fnX sc_drawn_values (fun vs H Q E h => by obtain ⟨a, D, bk, sh, k, base, ns, rfl, ha, hok, hk, hD, hl, q, qe⟩ := h; rfl) fun f_ cdv A outer s H vs Q E hr h => ?_
  obtain ⟨a, D, bk, sh, k, base, ns, rfl, ha, hok, hk, hD, hl, q, qe⟩ := h
  refine ⟨_, (@pss_cons _ _ _ _ _ (PS.nox (@ps_set _ _ (5) _ _ _ _ sc_drawn_values.nd rfl (Or.inr rfl) (@pe_fn _ _ _ _ _ _ _ _ _ _ _ _ F_maker_for hr (@pa_cons _ _ _ _ _ (@pv _ 0 _ _ (by rfl) (by first | exact Or.inl rfl | exact Or.inr (Or.inl rfl) | exact Or.inr (Or.inr rfl)) (by decide) (by decide)) (@pa_cons _ _ _ _ _ (@pv _ 1 _ _ (by rfl) (by first | exact Or.inl rfl | exact Or.inr (Or.inl rfl) | exact Or.inr (Or.inr rfl)) (by decide) (by decide)) pa_nil (by rfl)) (by rfl)) (by omega) (by rfl) (by rfl) (by decide) (by rfl) (by rfl)) (by rfl) (by first | exact .inl rfl | exact .inr rfl | assumption))) (@pss_one _ _ _ (@ps_ret _ _ _ _ (@pe_lc _ _ _ _ _ _ _ ([none, some 2, some 5]) ((["number", "size", "maker"] : List Str)) _ (gName 0) _ _ (.own (.cap (i := 2) rfl rfl (by first | exact Or.inl rfl | exact Or.inr rfl) (.cap (i := 5) rfl rfl (by first | exact Or.inl rfl | exact Or.inr rfl) .nil))) rfl (@pi_list _ _ _ _ (@pe_fnX _ _ _ _ _ _ _ _ _ _ _ _ _ F_all_fair hr passF (@pa_cons _ _ _ _ _ (@pv _ 3 _ _ (by rfl) (by first | exact Or.inl rfl | exact Or.inr (Or.inl rfl) | exact Or.inr (Or.inr rfl)) (by decide) (by decide)) (@pa_cons _ _ _ _ _ (@pv _ 4 _ _ (by rfl) (by first | exact Or.inl rfl | exact Or.inr (Or.inl rfl) | exact Or.inr (Or.inr rfl)) (by decide) (by decide)) (@pa_cons _ _ _ _ _ (@pe_either _ _ _ _ (@pe_me _ _ _ _ _ _ _ _ _ _ _ _ _ _ _ _ F_WholeMaker_count_at cl_WholeMaker hr (@pv _ 5 _ _ (by rfl) (by first | exact Or.inl rfl | exact Or.inr (Or.inl rfl) | exact Or.inr (Or.inr rfl)) (by decide) (by decide)) (@pa_cons _ _ _ _ _ (@pv _ 2 _ _ (by rfl) (by first | exact Or.inl rfl | exact Or.inr (Or.inl rfl) | exact Or.inr (Or.inr rfl)) (by decide) (by decide)) pa_nil (by rfl)) (by omega) (by rfl) (by rfl) (by rfl) (by rfl)) (@pe_me _ _ _ _ _ _ _ _ _ _ _ _ _ _ _ _ F_TextMaker_count_at cl_TextMaker hr (@pv _ 5 _ _ (by rfl) (by first | exact Or.inl rfl | exact Or.inr (Or.inl rfl) | exact Or.inr (Or.inr rfl)) (by decide) (by decide)) (@pa_cons _ _ _ _ _ (@pv _ 2 _ _ (by rfl) (by first | exact Or.inl rfl | exact Or.inr (Or.inl rfl) | exact Or.inr (Or.inr rfl)) (by decide) (by decide)) pa_nil (by rfl)) (by omega) (by rfl) (by rfl) (by rfl) (by rfl))) pa_nil (by rfl)) (by rfl)) (by rfl)) (by omega) (by rfl) (by rfl) (by decide) (by rfl) (by rfl))) (fun cl C s₀ H₀ fp pn => (@pg_name _ _ (0) _ (show List.Nodup (["number", "size", "maker"] : List Str) by decide +kernel) rfl (Or.inl rfl) (Or.inr rfl))) (fun cl C s₀ H₀ fp pn => pts_nil) (fun cl C s₀ H₀ fp pn => (@pe_either _ _ _ _ (@pe_me _ _ _ _ _ _ _ _ _ _ _ _ _ _ _ _ F_WholeMaker_value_at cl_WholeMaker hr (@pv _ 2 _ _ (by rfl) (by first | exact Or.inl rfl | exact Or.inr (Or.inl rfl) | exact Or.inr (Or.inr rfl)) (by decide) (by decide)) (@pa_cons _ _ _ _ _ (@pv _ 1 _ _ (by rfl) (by first | exact Or.inl rfl | exact Or.inr (Or.inl rfl) | exact Or.inr (Or.inr rfl)) (by decide) (by decide)) (@pa_cons _ _ _ _ _ (@pv _ 0 _ _ (by rfl) (by first | exact Or.inl rfl | exact Or.inr (Or.inl rfl) | exact Or.inr (Or.inr rfl)) (by decide) (by decide)) pa_nil (by rfl)) (by rfl)) (by omega) (by rfl) (by rfl) (by rfl) (by rfl)) (@pe_me _ _ _ _ _ _ _ _ _ _ _ _ _ _ _ _ F_TextMaker_value_at cl_TextMaker hr (@pv _ 2 _ _ (by rfl) (by first | exact Or.inl rfl | exact Or.inr (Or.inl rfl) | exact Or.inr (Or.inr rfl)) (by decide) (by decide)) (@pa_cons _ _ _ _ _ (@pv _ 1 _ _ (by rfl) (by first | exact Or.inl rfl | exact Or.inr (Or.inl rfl) | exact Or.inr (Or.inr rfl)) (by decide) (by decide)) (@pa_cons _ _ _ _ _ (@pv _ 0 _ _ (by rfl) (by first | exact Or.inl rfl | exact Or.inr (Or.inl rfl) | exact Or.inr (Or.inr rfl)) (by decide) (by decide)) pa_nil (by rfl)) (by rfl)) (by omega) (by rfl) (by rfl) (by rfl) (by rfl)))) (by intro x hx; simp at hx; first | (subst hx; exact Or.inl rfl) | (rcases hx with rfl | rfl <;> exact Or.inl rfl) | (rcases hx with rfl | rfl | rfl <;> exact Or.inl rfl)) (by rfl) (by decide) (by decide +kernel) (by intro _; rfl))))), ?_⟩
  walk_at "rd"
  refine ⟨a, bk, sh, rfl, ha, fun p cl H1 s1 hp hcl ⟨dx, m1, m2⟩ => ?_⟩
  have npc : p ≠ cl := ne_of m1 m2 (by simp)
  have fin : ∀ (R : V → Hp → Prop) (H2 : Hp), (0 < cnt sh k → ∀ b H2, SqL g.K H2 b ((drawn base (cnt sh k) ns).map V.int) → Same H H2 → H2 p = some (.ins (mC C_WholeMaker C_TextMaker sh) dx (mf cl sh)) → R (.ref b) H2) → SameBut cl H1 H2 → sp_all_fair g.K C_NoDraw [.ref D, .int base, .int (cnt sh k)] H2 R E := fun R H2 r sb =>
    ⟨D, ns, base, cnt sh k, rfl, (sb.new s1 hcl).seq hD, hl, fun hc D2 H3 s3 hn hd => r hc D2 H3 (SqL.of hd) ((sb.new s1 hcl).trans s3) (s3 _ _ (sb _ _ npc m1)), fun hc => qe hc H2 (sb.new s1 hcl)⟩
  by_cases hc : 0 < cnt sh k
  · refine tLC_relG (K := g.K) (fun b xs H2 => xs = (drawn base (cnt sh k) ns).map V.int ∧ Same H H2 ∧ H2 p = some (.ins (mC C_WholeMaker C_TextMaker sh) dx (mf cl sh))) (fun R r => ?_) ?_
    · have r' : 0 < cnt sh k → ∀ b H2, SqL g.K H2 b ((drawn base (cnt sh k) ns).map V.int) → Same H H2 → H2 p = some (.ins (mC C_WholeMaker C_TextMaker sh) dx (mf cl sh)) → R (.ref b) H2 := fun _ b H2 h1 h2 h3 => r b _ H2 h1 ⟨rfl, h2, h3⟩
      walk_at "rd"
      cases sh with
      | w lo span => exact .inl ⟨_, _, m1, mf_count _ _, p, dx, cl, lo, span, 0, k, rfl, by omega, by omega, m1, m2, fun H2 sb _ => fin R H2 r' sb⟩
      | t sg => exact .inr ⟨_, _, m1, mf_count _ _, p, dx, cl, sg, 0, k, rfl, by omega, .inr (by omega), by omega, by omega, hok.2, m1, m2, fun H2 sb _ => fin R H2 r' sb⟩
    · rintro b xs H2 hb ⟨rfl, s2, hp2⟩
      have hdl : (drawn base (cnt sh k) ns).length ≤ 10000 := by
        rw [drawn, List.length_map]
        exact Nat.le_trans (List.length_filter_le _ _) hl
      refine ⟨by rw [List.length_map]; omega, fun _ i y _ => ∃ n, (drawn base (cnt sh k) ns)[i]? = some n ∧ y = val sh k n, fun _ _ _ _ _ h _ => h, fun _ _ _ _ _ _ h _ => h, ?_, ?_⟩
      · intro D' i x H' zs hx sm hD' R r
        rw [List.getElem?_map] at hx
        obtain ⟨n, hn, rfl⟩ := Option.map_eq_some_iff.mp hx
        have hp' := sm _ _ hp2
        walk_at "rd"
        cases sh with
        | w lo span => exact .inl ⟨_, _, hp', mf_val _ _, p, dx, cl, lo, n, span, k, rfl, by omega, hp', r _ _ (.refl _) ⟨n, hn, rfl⟩⟩
        | t sg => exact .inr ⟨_, _, hp', mf_val _ _, p, dx, cl, n, sg, k, rfl, by omega, hok.1, hok.2, hp', fun H'' s'' => r _ _ s'' ⟨n, hn, rfl⟩⟩
      · intro D' ys H' hD' sm hd hyl hrel
        refine q hc D' H' (s2.trans sm) (s2.free hD') ?_
        have ey : ys = (drawn base (cnt sh k) ns).map (val sh k) := by
          refine List.ext_getElem? fun j => ?_
          rw [List.length_map] at hyl
          by_cases c : j < ys.length
          · have e1 : ys[j]? = some ys[j] := List.getElem?_eq_getElem c
            obtain ⟨n, h1, h2⟩ := hrel j _ e1
            rw [e1, h2, List.getElem?_map, h1]
            rfl
          · rw [List.getElem?_eq_none (by omega), List.getElem?_eq_none (by rw [List.length_map]; omega)]
        rw [hd, ey]
  · refine tLC_raise fun R => ?_
    have r' : 0 < cnt sh k → ∀ b H2, SqL g.K H2 b ((drawn base (cnt sh k) ns).map V.int) → Same H H2 → H2 p = some (.ins (mC C_WholeMaker C_TextMaker sh) dx (mf cl sh)) → R (.ref b) H2 := fun z => absurd z hc
    walk_at "rd"
    cases sh with
    | w lo span => exact .inl ⟨_, _, m1, mf_count _ _, p, dx, cl, lo, span, 0, k, rfl, by omega, by omega, m1, m2, fun H2 sb _ => fin R H2 r' sb⟩
    | t sg => exact .inr ⟨_, _, m1, mf_count _ _, p, dx, cl, sg, 0, k, rfl, by omega, .inr (by omega), by omega, by omega, hok.2, m1, m2, fun H2 sb _ => fin R H2 r' sb⟩
end KW
set_option maxHeartbeats 8000000
namespace KW
open PySem L2

variable {g : Gx}
variable {m : Nat}
local macro_rules | `(tactic| walk_at "gn") => `(tactic| simp only [gName, List.set_cons_zero, List.set_cons_succ])

local macro_rules | `(tactic| walk_at "rd") => `(tactic| simp (config := { failIfUnchanged := false, maxSteps := 10000000 }) only [L2.start, cxOf_K, nox_K, List.map_cons, List.map_nil, List.length_cons, List.length_nil, List.cons_append, List.nil_append, List.replicate_succ, List.replicate_zero, Nat.zero_add, Nat.reduceAdd, Nat.reduceSub, Nat.sub_self, tSeq, tIfS, tTest, tOp, tC, tVar, rI0, rI, rU, tUn, tRet, tRetN, tDrop, tNext, tBreak, tCont, tAsg, gName, gNil, gCons, tCons, tNil, tCB, tCall, tTry, tTryAs, tRaise, sFld, tFld, tMake, tMeth, Ends.gone, caught_K, tB, tAnd, tOr, tNot, tAndV, tOrV, tNotV, tIf, tChain, tNoPart, tPart, tSl, tNever, tAug, rIxL, rIxT, rSlL, tLst, tTup, gTup, tRev, tLZ, tConT, tDict0, tDNewT, tDGet, sDPut, rNotInD, rInD, tEither, tSlStep, rBits, rFind, rIn, tBM, tBM0, rAppend, rReverse, rEq, rNe, scal_ii, scal_ss, rCat, rSetL, gSub, ipI, capSt, List.getD_cons_zero, List.getD_cons_succ, decide_true, not_true_eq_false, not_false_eq_true,
  exists_eq_left', exists_eq_left, exists_eq', exists_eq, exists_and_left, and_assoc, Option.some.injEq, V.int.injEq, V.bl.injEq, V.ref.injEq, V.str.injEq, List.getElem?_cons_zero, List.getElem?_cons_succ, List.set_cons_zero, List.set_cons_succ, List.cons.injEq, and_true, true_and, List.append_nil, decide_eq_true_eq, Bool.not_eq_true', decide_eq_false_iff_not, Bool.not_not, Bool.not_true, Bool.not_false, Bool.true_eq_false, Bool.false_eq_true, if_true, if_false, ite_true, ite_false])

def sp_law_refused (K : PySem.W.Frag) : Sp := fun vs H Q _ => ∃ (a D : Addr) (bk : V) (sh : Sh) (k : Nat) (base : Int) (ns : List Int), vs = [bk, .ref a, .int k, .ref D, .int base] ∧ AtSh H a sh ∧ sh.ok2 ∧ k ≤ 16 ∧ SqL K H D (ns.map V.int) ∧ ns.length ≤ 10000 ∧ cnt sh k ≤ 0 ∧ ∀ H', Same H H' → Q (.bl true) H'
theorem ok_law_refused {k : Nat} {C_CountError : Addr} {C_NoDraw : Addr} {C_NoNumber : Addr} {C_TooMany : Addr} {C_Lister : Addr} {C_TextMaker : Addr} {C_WholeMaker : Addr} (R : g.Raw "_law_refused" "_law_refused" s_law_refused ["_law_book", "_law_shape", "_law_size", "_law_numbers", "_law_base"]) (F_drawn_values : g.FnX k "drawn_values" ["book", "shape", "size", "numbers", "base"] (sp_drawn g.K C_NoDraw)) (b_ValueError : g.mg "ValueError" = none) (b_isinstance : g.mg "isinstance" = none) (x_CountError : g.mg "CountError" = some (.ref C_CountError)) (x_NoDraw : g.mg "NoDraw" = some (.ref C_NoDraw)) (x_NoNumber : g.mg "NoNumber" = some (.ref C_NoNumber)) (x_TooMany : g.mg "TooMany" = some (.ref C_TooMany)) (t_NoDraw : ExcT g.K C_NoDraw) (i_NoDraw_NoNumber : PySem.W.kitOne g.K (.ref C_NoDraw) (.ref C_NoNumber) = some false) (i_NoDraw_TooMany : PySem.W.kitOne g.K (.ref C_NoDraw) (.ref C_TooMany) = some false) (i_NoDraw_CountError : PySem.W.kitOne g.K (.ref C_NoDraw) (.ref C_CountError) = some true) (i_NoDraw_ValueError : PySem.W.kitOne g.K (.ref C_NoDraw) (.type "ValueError") = some true) (m_NoDraw_NoDraw : PySem.W.exmOne g.K (.ref C_NoDraw) (.ref C_NoDraw) = some true) : g.Fn (k + 1) "_law_refused" ["_law_book", "_law_shape", "_law_size", "_law_numbers", "_law_base"] (sp_law_refused g.K) := by
  refine R.fn sc_law_refused (fun vs H Q E h => by obtain ⟨a, D, bk, sh, k, base, ns, rfl, ha, hok, hk, hD, hl, hc, q⟩ := h; rfl) fun f_ cdv A outer s H vs Q E hr h => ?_
  obtain ⟨a, D, bk, sh, k, base, ns, rfl, ha, hok, hk, hD, hl, hc, q⟩ := h
  refine ⟨_, (@pss_cons _ _ _ _ _ (@ps_set _ _ (5) _ _ _ _ sc_law_refused.nd rfl (Or.inl rfl) pe_non (by rfl) (by first | exact .inl rfl | exact .inr rfl | assumption)) (@pss_cons _ _ _ _ _ (@ps_tryE _ _ _ _ (6) _ _ _ _ _ _ _ _ _ _ _ _ _ _ _ _ _ _ F_drawn_values hr sc_law_refused.nd rfl rfl (@pa_cons _ _ _ _ _ (@pv _ 0 _ _ (by rfl) (by first | exact Or.inl rfl | exact Or.inr (Or.inl rfl) | exact Or.inr (Or.inr rfl)) (by decide) (by decide)) (@pa_cons _ _ _ _ _ (@pv _ 1 _ _ (by rfl) (by first | exact Or.inl rfl | exact Or.inr (Or.inl rfl) | exact Or.inr (Or.inr rfl)) (by decide) (by decide)) (@pa_cons _ _ _ _ _ (@pv _ 2 _ _ (by rfl) (by first | exact Or.inl rfl | exact Or.inr (Or.inl rfl) | exact Or.inr (Or.inr rfl)) (by decide) (by decide)) (@pa_cons _ _ _ _ _ (@pv _ 3 _ _ (by rfl) (by first | exact Or.inl rfl | exact Or.inr (Or.inl rfl) | exact Or.inr (Or.inr rfl)) (by decide) (by decide)) (@pa_cons _ _ _ _ _ (@pv _ 4 _ _ (by rfl) (by first | exact Or.inl rfl | exact Or.inr (Or.inl rfl) | exact Or.inr (Or.inr rfl)) (by decide) (by decide)) pa_nil (by rfl)) (by rfl)) (by rfl)) (by rfl)) (by rfl)) x_NoDraw (fun _ => (@pss_one _ _ _ (@ps_set _ _ (5) _ _ _ _ sc_law_refused.nd rfl (Or.inl rfl) (@pv _ 6 _ _ (by rfl) (by first | exact Or.inl rfl | exact Or.inr (Or.inl rfl) | exact Or.inr (Or.inr rfl)) (by decide) (by decide)) (by rfl) (by first | exact .inl rfl | exact .inr rfl | assumption)))) (by omega) (by rfl) (by rfl) (by rfl) (by rfl) (by rfl) (by decide) (by decide) (by rfl) (by rfl) (by rfl)) (@pss_cons _ _ _ _ _ (@ps_if _ _ _ _ _ _ _ _ (@pw_or _ _ _ _ _ _ _ (@pt_cmpR _ _ _ _ _ _ _ _ op_isN (@pv _ 5 _ _ (by rfl) (by first | exact Or.inl rfl | exact Or.inr (Or.inl rfl) | exact Or.inr (Or.inr rfl)) (by decide) (by decide)) pe_non (nomark _)) (@pw_or _ _ _ _ _ _ _ (@pt_val _ _ _ (@pe_bf _ _ _ _ _ _ _ _ _ _ b_isinstance (call_isinstXK (K := g.K) t_NoDraw) (@pa_cons _ _ _ _ _ (@pv _ 5 _ _ (by rfl) (by first | exact Or.inl rfl | exact Or.inr (Or.inl rfl) | exact Or.inr (Or.inr rfl)) (by decide) (by decide)) (@pa_cons _ _ _ _ _ (@pe_cla _ _ _ _ _ x_NoNumber (by rfl) (by rfl) (by decide)) pa_nil (by rfl)) (by rfl)) (by decide +kernel) (by rfl) (by rfl) (by decide) (by decide) (by rfl) (by rfl)) (by intro _; rfl)) (@pw_or1 _ _ _ _ (@pt_val _ _ _ (@pe_bf _ _ _ _ _ _ _ _ _ _ b_isinstance (call_isinstXK (K := g.K) t_NoDraw) (@pa_cons _ _ _ _ _ (@pv _ 5 _ _ (by rfl) (by first | exact Or.inl rfl | exact Or.inr (Or.inl rfl) | exact Or.inr (Or.inr rfl)) (by decide) (by decide)) (@pa_cons _ _ _ _ _ (@pe_cla _ _ _ _ _ x_TooMany (by rfl) (by rfl) (by decide)) pa_nil (by rfl)) (by rfl)) (by decide +kernel) (by rfl) (by rfl) (by decide) (by decide) (by rfl) (by rfl)) (by intro _; rfl))))).pt (@pss_one _ _ _ (@ps_ret _ _ _ _ pe_bl)) pss_nil) (@pss_one _ _ _ (@ps_ret _ _ _ _ (@pe_and _ _ _ _ _ _ _ (@pe_bf _ _ _ _ _ _ _ _ _ _ b_isinstance (call_isinstXK (K := g.K) t_NoDraw) (@pa_cons _ _ _ _ _ (@pv _ 5 _ _ (by rfl) (by first | exact Or.inl rfl | exact Or.inr (Or.inl rfl) | exact Or.inr (Or.inr rfl)) (by decide) (by decide)) (@pa_cons _ _ _ _ _ (@pe_cla _ _ _ _ _ x_CountError (by rfl) (by rfl) (by decide)) pa_nil (by rfl)) (by rfl)) (by decide +kernel) (by rfl) (by rfl) (by decide) (by decide) (by rfl) (by rfl)) (@pe_one _ _ _ _ _ (@pe_bf _ _ _ _ _ _ _ _ _ _ b_isinstance (call_isinstXK (K := g.K) t_NoDraw) (@pa_cons _ _ _ _ _ (@pv _ 5 _ _ (by rfl) (by first | exact Or.inl rfl | exact Or.inr (Or.inl rfl) | exact Or.inr (Or.inr rfl)) (by decide) (by decide)) (@pa_cons _ _ _ _ _ (@pe_bn _ _ _ _ ("ValueError") b_ValueError (by decide +kernel) (by rfl) (by rfl) (by decide) (by decide)) pa_nil (by rfl)) (by rfl)) (by decide +kernel) (by rfl) (by rfl) (by decide) (by decide) (by rfl) (by rfl))))))))), ?_⟩
  walk_at "rd"
  unfold tTryE
  walk_at "rd"
  refine ⟨a, D, bk, sh, k, base, ns, rfl, ha, hok, hk, hD, hl, fun z => absurd z (by omega), fun _ H' s' => ⟨m_NoDraw_NoDraw, fun x hx => ?_⟩⟩
  walk_at "rd"
  have hE : upd H' x (ExcO x (.ref C_NoDraw)) x = some (ExcO x (.ref C_NoDraw)) := upd_same
  exact iteN (by simp) ⟨_, rfl, hE, false, i_NoDraw_NoNumber, iteN (by decide) ⟨_, rfl, hE, false, i_NoDraw_TooMany, iteN (by decide) ⟨_, rfl, hE, true, i_NoDraw_CountError, iteY rfl ⟨_, rfl, hE, true, i_NoDraw_ValueError, q _ (s'.trans (.upd_new hx _))⟩⟩⟩⟩
def IntStr (v : V) : Prop := (∃ i, v = .int i) ∨ ∃ s, v = .str s
def sp_law_alike (K : PySem.W.Frag) : Sp := fun vs H Q _ => ∃ (a b : Addr) (zs : List V), vs = [.ref a, .ref b] ∧ H a = some (.lst zs) ∧ H b = some (.lst zs) ∧ zs.length ≤ 10000 ∧ (∀ x ∈ zs, IntStr x) ∧ ∀ H', Same H H' → Q (.bl true) H'
theorem ok_law_alike {C_CountError : Addr} {C_NoDraw : Addr} {C_NoNumber : Addr} {C_TooMany : Addr} {C_Lister : Addr} {C_TextMaker : Addr} {C_WholeMaker : Addr} (R : g.Raw "_law_alike" "_law_alike" s_law_alike ["_law_found", "_law_due"]) (b_bool : g.mg "bool" = none) (b_int : g.mg "int" = none) (b_isinstance : g.mg "isinstance" = none) (b_len : g.mg "len" = none) (b_list : g.mg "list" = none) (b_str : g.mg "str" = none) (b_zip : g.mg "zip" = none) : g.Fn (1) "_law_alike" ["_law_found", "_law_due"] (sp_law_alike g.K) := by
  refine R.fn sc_law_alike (fun vs H Q E h => by obtain ⟨a, b, zs, rfl, ha, hb, hl, hz, q⟩ := h; rfl) fun f_ cdv A outer s H vs Q E hr h => ?_
  obtain ⟨a, b, zs, rfl, ha, hb, hl, hz, q⟩ := h
  refine ⟨_, (@pss_cons _ _ _ _ _ (@ps_if _ _ _ _ _ _ _ _ (@pw_or _ _ _ _ _ _ _ (@pt_not _ _ _ _ (@pt_val _ _ _ (@pe_bf _ _ _ _ _ _ _ _ _ _ b_isinstance call_isinst (@pa_cons _ _ _ _ _ (@pv _ 0 _ _ (by rfl) (by first | exact Or.inl rfl | exact Or.inr (Or.inl rfl) | exact Or.inr (Or.inr rfl)) (by decide) (by decide)) (@pa_cons _ _ _ _ _ (@pe_bn _ _ _ _ ("list") b_list (by decide +kernel) (by rfl) (by rfl) (by decide) (by decide)) pa_nil (by rfl)) (by rfl)) (by decide +kernel) (by rfl) (by rfl) (by decide) (by decide) (by rfl) (by rfl)) (by intro _; rfl))) (@pw_or1 _ _ _ _ (@pt_cmpR _ _ _ _ _ _ _ _ op_ne (@pe_bf _ _ _ _ _ _ _ _ _ _ b_len call_len_seq (@pa_cons _ _ _ _ _ (@pv _ 0 _ _ (by rfl) (by first | exact Or.inl rfl | exact Or.inr (Or.inl rfl) | exact Or.inr (Or.inr rfl)) (by decide) (by decide)) pa_nil (by rfl)) (by decide +kernel) (by rfl) (by rfl) (by decide) (by decide) (by rfl) (by rfl)) (@pe_bf _ _ _ _ _ _ _ _ _ _ b_len call_len_seq (@pa_cons _ _ _ _ _ (@pv _ 1 _ _ (by rfl) (by first | exact Or.inl rfl | exact Or.inr (Or.inl rfl) | exact Or.inr (Or.inr rfl)) (by decide) (by decide)) pa_nil (by rfl)) (by decide +kernel) (by rfl) (by rfl) (by decide) (by decide) (by rfl) (by rfl)) (nomark _)))).pt (@pss_one _ _ _ (@ps_ret _ _ _ _ pe_bl)) pss_nil) (@pss_cons _ _ _ _ _ (@ps_for _ _ _ _ _ _ _ _ PassesOwn.never rfl (@pi_zipL _ _ _ _ _ _ _ _ _ rfl b_zip (@pa_cons _ _ _ _ _ (@pv _ 0 _ _ (by rfl) (by first | exact Or.inl rfl | exact Or.inr (Or.inl rfl) | exact Or.inr (Or.inr rfl)) (by decide) (by decide)) (@pa_cons _ _ _ _ _ (@pv _ 1 _ _ (by rfl) (by first | exact Or.inl rfl | exact Or.inr (Or.inl rfl) | exact Or.inr (Or.inr rfl)) (by decide) (by decide)) pa_nil (by rfl)) (by rfl)) (by rfl) (by rfl)) (@pg_tup _ _ _ _ _ (2) rfl (@pgs_cons _ _ _ _ _ (@pg_name _ _ (2) _ sc_law_alike.nd rfl (Or.inl rfl) (by first | exact .inl rfl | exact .inr rfl | assumption)) (@pgs_cons _ _ _ _ _ (@pg_name _ _ (3) _ sc_law_alike.nd rfl (Or.inl rfl) (by first | exact .inl rfl | exact .inr rfl | assumption)) pgs_nil (by rfl)) (by rfl)) (by rfl) (by rfl)) (@pss_cons _ _ _ _ _ (@ps_if _ _ _ _ _ _ _ _ (@pw_or _ _ _ _ _ _ _ (@pt_val _ _ _ (@pe_bf _ _ _ _ _ _ _ _ _ _ b_isinstance call_isinst (@pa_cons _ _ _ _ _ (@pv _ 2 _ _ (by rfl) (by first | exact Or.inl rfl | exact Or.inr (Or.inl rfl) | exact Or.inr (Or.inr rfl)) (by decide) (by decide)) (@pa_cons _ _ _ _ _ (@pe_bn _ _ _ _ ("bool") b_bool (by decide +kernel) (by rfl) (by rfl) (by decide) (by decide)) pa_nil (by rfl)) (by rfl)) (by decide +kernel) (by rfl) (by rfl) (by decide) (by decide) (by rfl) (by rfl)) (by intro _; rfl)) (@pw_or1 _ _ _ _ (@pt_cmpR _ _ _ _ _ _ _ _ op_ne (@pe_bf _ _ _ _ _ _ _ _ _ _ b_isinstance call_isinst (@pa_cons _ _ _ _ _ (@pv _ 2 _ _ (by rfl) (by first | exact Or.inl rfl | exact Or.inr (Or.inl rfl) | exact Or.inr (Or.inr rfl)) (by decide) (by decide)) (@pa_cons _ _ _ _ _ (@pe_bn _ _ _ _ ("int") b_int (by decide +kernel) (by rfl) (by rfl) (by decide) (by decide)) pa_nil (by rfl)) (by rfl)) (by decide +kernel) (by rfl) (by rfl) (by decide) (by decide) (by rfl) (by rfl)) (@pe_bf _ _ _ _ _ _ _ _ _ _ b_isinstance call_isinst (@pa_cons _ _ _ _ _ (@pv _ 3 _ _ (by rfl) (by first | exact Or.inl rfl | exact Or.inr (Or.inl rfl) | exact Or.inr (Or.inr rfl)) (by decide) (by decide)) (@pa_cons _ _ _ _ _ (@pe_bn _ _ _ _ ("int") b_int (by decide +kernel) (by rfl) (by rfl) (by decide) (by decide)) pa_nil (by rfl)) (by rfl)) (by decide +kernel) (by rfl) (by rfl) (by decide) (by decide) (by rfl) (by rfl)) (nomark _)))).pt (@pss_one _ _ _ (@ps_ret _ _ _ _ pe_bl)) pss_nil) (@pss_one _ _ _ (@ps_if _ _ _ _ _ _ _ _ (@pw_or _ _ _ _ _ _ _ (@pt_cmpR _ _ _ _ _ _ _ _ op_ne (@pe_bf _ _ _ _ _ _ _ _ _ _ b_isinstance call_isinst (@pa_cons _ _ _ _ _ (@pv _ 2 _ _ (by rfl) (by first | exact Or.inl rfl | exact Or.inr (Or.inl rfl) | exact Or.inr (Or.inr rfl)) (by decide) (by decide)) (@pa_cons _ _ _ _ _ (@pe_bn _ _ _ _ ("str") b_str (by decide +kernel) (by rfl) (by rfl) (by decide) (by decide)) pa_nil (by rfl)) (by rfl)) (by decide +kernel) (by rfl) (by rfl) (by decide) (by decide) (by rfl) (by rfl)) (@pe_bf _ _ _ _ _ _ _ _ _ _ b_isinstance call_isinst (@pa_cons _ _ _ _ _ (@pv _ 3 _ _ (by rfl) (by first | exact Or.inl rfl | exact Or.inr (Or.inl rfl) | exact Or.inr (Or.inr rfl)) (by decide) (by decide)) (@pa_cons _ _ _ _ _ (@pe_bn _ _ _ _ ("str") b_str (by decide +kernel) (by rfl) (by rfl) (by decide) (by decide)) pa_nil (by rfl)) (by rfl)) (by decide +kernel) (by rfl) (by rfl) (by decide) (by decide) (by rfl) (by rfl)) (nomark _)) (@pw_or1 _ _ _ _ (@pt_cmpR _ _ _ _ _ _ _ _ op_ne (@pv _ 2 _ _ (by rfl) (by first | exact Or.inl rfl | exact Or.inr (Or.inl rfl) | exact Or.inr (Or.inr rfl)) (by decide) (by decide)) (@pv _ 3 _ _ (by rfl) (by first | exact Or.inl rfl | exact Or.inr (Or.inl rfl) | exact Or.inr (Or.inr rfl)) (by decide) (by decide)) (nomark _)))).pt (@pss_one _ _ _ (@ps_ret _ _ _ _ pe_bl)) pss_nil))) (by intro _; rfl)) (@pss_one _ _ _ (@ps_ret _ _ _ _ pe_bl)))), ?_⟩
  walk_at "rd"
  refine ⟨_, rfl, _, .lst ha, true, rfl, iteN (by decide) ⟨_, .inl (SqL.of ha), _, .inl (SqL.of hb), iteN (fun z => z rfl) ?_⟩⟩
  refine tFor_zipN (K := g.K) 2 3 (xs := zs) (ys := zs) (fun a' b' n σ H' => a' = a ∧ b' = b ∧ (∃ o2 o3, σ = [some (.ref a), some (.ref b), o2, o3]) ∧ Same H H') (fun R r => by walk_at "rd"; exact r a b H ⟨rfl, rfl, ⟨_, _, rfl⟩, .refl _⟩) (fun a' b' n σ H' _ ⟨e1, e2, _, s⟩ => by subst e1 e2; exact ⟨SqL.of (s _ _ ha), SqL.of (s _ _ hb)⟩) ?_ ?_
  · rintro a' b' n x y σ H' T hx hy ⟨rfl, rfl, ⟨o2, o3, rfl⟩, s1⟩ hT
    have hv := hz x (List.mem_of_getElem? hx)
    rw [hx] at hy
    cases hy
    have sT := s1.trans (.upd_new hT (.tup [x, x]))
    walk_at "rd"
    rcases hv with ⟨i, rfl⟩ | ⟨z, rfl⟩
    · exact ⟨_, rfl, _, .int i, false, rfl, iteN (by decide) ⟨_, rfl, _, .int i, true, rfl, _, rfl, _, .int i, true, rfl, rfl, iteN (fun z => z rfl) ⟨_, rfl, _, .int i, false, rfl, _, rfl, _, .int i, false, rfl, rfl, iteN (fun z => z rfl) ⟨rfl, sT⟩⟩⟩⟩
    · exact ⟨_, rfl, _, .str z, false, rfl, iteN (by decide) ⟨_, rfl, _, .str z, false, rfl, _, rfl, _, .str z, false, rfl, rfl, iteN (fun z => z rfl) ⟨_, rfl, _, .str z, true, rfl, _, rfl, _, .str z, true, rfl, rfl, iteN (fun z => z rfl) ⟨scal_ss _ _, sT⟩⟩⟩⟩
  · rintro a' b' σ H' ⟨rfl, rfl, ⟨o2, o3, rfl⟩, s1⟩
    walk_at "rd"
    exact q H' s1
end KW
set_option maxHeartbeats 8000000
namespace KW
open PySem L2

variable {g : Gx}
variable {m : Nat}
local macro_rules | `(tactic| walk_at "gn") => `(tactic| simp only [gName, List.set_cons_zero, List.set_cons_succ])

local macro_rules | `(tactic| walk_at "rd") => `(tactic| simp (config := { failIfUnchanged := false, maxSteps := 10000000 }) only [L2.start, cxOf_K, nox_K, List.map_cons, List.map_nil, List.length_cons, List.length_nil, List.cons_append, List.nil_append, List.replicate_succ, List.replicate_zero, Nat.zero_add, Nat.reduceAdd, Nat.reduceSub, Nat.sub_self, tSeq, tIfS, tTest, tOp, tC, tVar, rI0, rI, rU, tUn, tRet, tRetN, tDrop, tNext, tBreak, tCont, tAsg, gName, gNil, gCons, tCons, tNil, tCB, tCall, tTry, tTryAs, tRaise, sFld, tFld, tMake, tMeth, Ends.gone, caught_K, tB, tAnd, tOr, tNot, tAndV, tOrV, tNotV, tIf, tChain, tNoPart, tPart, tSl, tNever, tAug, rIxL, rIxT, rSlL, tLst, tTup, gTup, tRev, tLZ, tConT, tDict0, tDNewT, tDGet, sDPut, rNotInD, rInD, tEither, tSlStep, rBits, rFind, rIn, tBM, tBM0, rAppend, rReverse, rEq, rNe, scal_ii, scal_ss, rCat, rSetL, gSub, ipI, capSt, List.getD_cons_zero, List.getD_cons_succ, decide_true, not_true_eq_false, not_false_eq_true,
  exists_eq_left', exists_eq_left, exists_eq', exists_eq, exists_and_left, and_assoc, Option.some.injEq, V.int.injEq, V.bl.injEq, V.ref.injEq, V.str.injEq, List.getElem?_cons_zero, List.getElem?_cons_succ, List.set_cons_zero, List.set_cons_succ, List.cons.injEq, and_true, true_and, List.append_nil, decide_eq_true_eq, Bool.not_eq_true', decide_eq_false_iff_not, Bool.not_not, Bool.not_true, Bool.not_false, Bool.true_eq_false, Bool.false_eq_true, if_true, if_false, ite_true, ite_false])

theorem mod_nat62 (x : Int) : ∃ r : Nat, x % 62 = (r : Int) ∧ r < 62 := by
  have h1 : 0 ≤ x % 62 := Int.emod_nonneg _ (by decide)
  have h2 : x % 62 < 62 := Int.emod_lt_of_pos _ (by decide)
  exact ⟨(x % 62).toNat, by omega, by omega⟩
abbrev abc : Str := "abcdefghijklmnopqrstuvwxyzABCDEFGHIJKLMNOPQRSTUVWXYZ0123456789"
theorem abc_len : abc.length = 62 := by decide +kernel
theorem abc_at (x : Int) : ∃ c, atI abc.cps.toList (x % 62) = some c := by
  obtain ⟨r, h1, h2⟩ := mod_nat62 x
  rw [h1]
  have hl : abc.cps.toList.length = 62 := by decide +kernel
  exact ⟨_, atI_nat (List.getElem?_eq_getElem (by omega))⟩
def sp_law_signs : Sp := fun vs H Q _ => ∃ (c : Int) (m : Nat), vs = [.int c, .int m] ∧ m ≤ 62 ∧ ∀ sg H', sg.length = m → Same H H' → Q (.str (S sg)) H'
theorem ok_law_signs {C_CountError : Addr} {C_NoDraw : Addr} {C_NoNumber : Addr} {C_TooMany : Addr} {C_Lister : Addr} {C_TextMaker : Addr} {C_WholeMaker : Addr} (R : g.Raw "_law_signs" "_law_signs" s_law_signs ["_law_cell", "_law_many"]) (b_range : g.mg "range" = none) : g.Fn (1) "_law_signs" ["_law_cell", "_law_many"] (sp_law_signs) := by
  refine R.fn sc_law_signs (fun vs H Q E h => by obtain ⟨c, m, rfl, hm, q⟩ := h; rfl) fun f_ cdv A outer s H vs Q E hr h => ?_
  obtain ⟨c, m, rfl, hm, q⟩ := h
  refine ⟨_, (@pss_cons _ _ _ _ _ (@ps_set _ _ (2) _ _ _ _ sc_law_signs.nd rfl (Or.inr rfl) pe_str (by rfl) (by first | exact .inl rfl | exact .inr rfl | assumption)) (@pss_one _ _ _ (@ps_ret _ _ _ _ (@pe_bm _ _ _ _ _ _ _ _ _ _ _ _ PySem.F.plainAttrs_str PySem.F.slot_str_join PySem.F.type_str_join mt_join pe_str (@pa_cons _ _ _ _ _ (@pe_lc _ _ _ _ _ _ _ ([none, some 2, some 0]) ((["_law_k", "_law_some", "_law_cell"] : List Str)) _ (gName 0) _ _ (.own (.cap (i := 2) rfl rfl (by first | exact Or.inl rfl | exact Or.inr rfl) (.cap (i := 0) rfl rfl (by first | exact Or.inl rfl | exact Or.inr rfl) .nil))) rfl (@pi_range1 _ _ _ _ _ _ rfl b_range (@pa_cons _ _ _ _ _ (@pv _ 1 _ _ (by rfl) (by first | exact Or.inl rfl | exact Or.inr (Or.inl rfl) | exact Or.inr (Or.inr rfl)) (by decide) (by decide)) pa_nil (by rfl)) (by rfl)) (fun cl C s₀ H₀ fp pn => (@pg_name _ _ (0) _ (show List.Nodup (["_law_k", "_law_some", "_law_cell"] : List Str) by decide +kernel) rfl (Or.inl rfl) (Or.inr rfl))) (fun cl C s₀ H₀ fp pn => pts_nil) (fun cl C s₀ H₀ fp pn => (@pe_ix _ _ _ _ _ _ _ ix_str (@pv _ 1 _ _ (by rfl) (by first | exact Or.inl rfl | exact Or.inr (Or.inl rfl) | exact Or.inr (Or.inr rfl)) (by decide) (by decide)) (@pe_op _ _ _ _ _ _ _ _ op_mod (@pe_op _ _ _ _ _ _ _ _ op_add (@pv _ 2 _ _ (by rfl) (by first | exact Or.inl rfl | exact Or.inr (Or.inl rfl) | exact Or.inr (Or.inr rfl)) (by decide) (by decide)) (@pe_op _ _ _ _ _ _ _ _ op_mulC pe_int (@pv _ 0 _ _ (by rfl) (by first | exact Or.inl rfl | exact Or.inr (Or.inl rfl) | exact Or.inr (Or.inr rfl)) (by decide) (by decide)))) pe_int) (fun _ _ => rfl))) (by intro x hx; simp at hx; first | (subst hx; exact Or.inl rfl) | (rcases hx with rfl | rfl <;> exact Or.inl rfl) | (rcases hx with rfl | rfl | rfl <;> exact Or.inl rfl)) (by rfl) (by decide) (by decide +kernel) (by intro _; rfl)) pa_nil (by rfl)) (by rfl) (by rfl) (by rfl) (by rfl) (by rfl))))), ?_⟩
  walk_at "rd"
  refine ⟨rfl, ?_⟩
  refine tLC_rangeI (n := m) (fun F i zs H' => Same H H' ∧ H' F = some (.lst zs) ∧ ∃ cs : List Nat, zs = cs.map (fun c => V.str (S [c])) ∧ cs.length = i) (fun R r => by walk_at "rd"; exact r) (by omega) ?_ ?_ ?_ ?_
  · intro F hF
    exact ⟨.upd_new hF _, upd_same, [], rfl, rfl⟩
  · rintro F i zs H' ⟨sm, hd, cs, rfl, he⟩
    exact ⟨by rw [List.length_map]; exact he, hd⟩
  · rintro F i zs H' hF hi ⟨sm, hd, cs, rfl, he⟩ R r
    walk_at "rd"
    obtain ⟨x, hx⟩ := abc_at (c + 7 * (i : Int))
    exact ⟨.inl (cm (m := 8) (n := 8) (by decide) (by rw [Int.natAbs_natCast]; omega)), by decide, _, _, x, rfl, rfl, by rw [abc_len]; exact few (by decide), hx, r _ _ hd ⟨.upd_over hF sm _, upd_same, cs ++ [x], by rw [List.map_append]; rfl, by rw [List.length_append, he]; rfl⟩⟩
  · rintro F zs H' hF ⟨sm, hd, cs, rfl, he⟩
    refine ⟨"", F, cs.map fun c => S [c], rfl, rfl, by rw [List.map_map]; exact SqL.of hd, ?_, ?_⟩
    · rw [List.map_map, List.length_map, he]
      have : ((fun x : Str => x.length) ∘ fun c => S [c]) = fun _ => 1 := by funext c; simp [S_len]
      rw [this, List.map_const', List.sum_replicate_nat]
      have : ("" : Str).length = 0 := by decide +kernel
      rw [this]; omega
    · rw [join_cs]
      exact q cs _ he sm
theorem wc_zero (span : Nat) : wc span 0 = 1 := by
  unfold wc
  simp only [Int.pow_zero, Int.mul_one]
  have : (1 : Int) / 2 ^ 1 = 0 := by decide
  rw [this]
  split <;> split <;> omega
theorem half (i : Nat) : (1 : Int) * 2 ^ (i + 1) / 2 ^ 1 = 2 ^ i := by
  rw [show (1 : Int) * 2 ^ (i + 1) = 2 * 2 ^ i by rw [Int.pow_succ]; omega, show (2 : Int) ^ 1 = 2 from rfl]
  omega
def sp_law_count (K : PySem.W.Frag) : Sp := fun vs H Q _ => ∃ (a : Addr) (sh : Sh) (k : Nat), vs = [.ref a, .int k] ∧ AtSh H a sh ∧ sh.ok2 ∧ k ≤ 16 ∧ Q (.int (cnt sh k)) H
theorem ok_law_count {C_CountError : Addr} {C_NoDraw : Addr} {C_NoNumber : Addr} {C_TooMany : Addr} {C_Lister : Addr} {C_TextMaker : Addr} {C_WholeMaker : Addr} (R : g.Raw "_law_count" "_law_count" s_law_count ["_law_shape", "_law_size"]) (b_len : g.mg "len" = none) (b_max : g.mg "max" = none) (b_min : g.mg "min" = none) (b_range : g.mg "range" = none) : g.Fn (1) "_law_count" ["_law_shape", "_law_size"] (sp_law_count g.K) := by
  refine R.fn sc_law_count (fun vs H Q E h => by obtain ⟨a, sh, k, rfl, ha, hok, hk, q⟩ := h; rfl) fun f_ cdv A outer s H vs Q E hr h => ?_
  obtain ⟨a, sh, k, rfl, ha, hok, hk, q⟩ := h
  refine ⟨_, (@pss_cons _ _ _ _ _ (@ps_if _ _ _ _ _ _ _ _ (@pt_cmpR _ _ _ _ _ _ _ _ op_eq (@pe_ix _ _ _ _ _ _ _ ix_tup (@pv _ 0 _ _ (by rfl) (by first | exact Or.inl rfl | exact Or.inr (Or.inl rfl) | exact Or.inr (Or.inr rfl)) (by decide) (by decide)) pe_int (fun _ _ => rfl)) pe_str (nomark _)) (@pss_cons _ _ _ _ _ (@ps_set _ _ (2) _ _ _ _ sc_law_count.nd rfl (Or.inl rfl) pe_int (by rfl) (by first | exact .inl rfl | exact .inr rfl | assumption)) (@pss_cons _ _ _ _ _ (@ps_for _ _ _ _ _ _ _ _ PassesOwn.never rfl (@pi_range1 _ _ _ _ _ _ rfl b_range (@pa_cons _ _ _ _ _ (@pv _ 1 _ _ (by rfl) (by first | exact Or.inl rfl | exact Or.inr (Or.inl rfl) | exact Or.inr (Or.inr rfl)) (by decide) (by decide)) pa_nil (by rfl)) (by rfl)) (@pg_name _ _ (3) _ sc_law_count.nd rfl (Or.inl rfl) (by first | exact .inl rfl | exact .inr rfl | assumption)) (@pss_one _ _ _ (@ps_set _ _ (2) _ _ _ _ sc_law_count.nd rfl (Or.inl rfl) (@pe_op _ _ _ _ _ _ _ _ op_mulC (@pv _ 2 _ _ (by rfl) (by first | exact Or.inl rfl | exact Or.inr (Or.inl rfl) | exact Or.inr (Or.inr rfl)) (by decide) (by decide)) (@pe_bf _ _ _ _ _ _ _ _ _ _ b_len call_len_str (@pa_cons _ _ _ _ _ (@pe_ix _ _ _ _ _ _ _ ix_tup (@pv _ 0 _ _ (by rfl) (by first | exact Or.inl rfl | exact Or.inr (Or.inl rfl) | exact Or.inr (Or.inr rfl)) (by decide) (by decide)) pe_int (fun _ _ => rfl)) pa_nil (by rfl)) (by decide +kernel) (by rfl) (by rfl) (by decide) (by decide) (by rfl) (by rfl))) (by rfl) (by first | exact .inl rfl | exact .inr rfl | assumption))) (by intro _; rfl)) (@pss_one _ _ _ (@ps_ret _ _ _ _ (@pv _ 2 _ _ (by rfl) (by first | exact Or.inl rfl | exact Or.inr (Or.inl rfl) | exact Or.inr (Or.inr rfl)) (by decide) (by decide)))))) pss_nil) (@pss_cons _ _ _ _ _ (@ps_set _ _ (4) _ _ _ _ sc_law_count.nd rfl (Or.inl rfl) (@pe_op _ _ _ _ _ _ _ _ op_sub (@pe_ix _ _ _ _ _ _ _ ix_tup (@pv _ 0 _ _ (by rfl) (by first | exact Or.inl rfl | exact Or.inr (Or.inl rfl) | exact Or.inr (Or.inr rfl)) (by decide) (by decide)) pe_int (fun _ _ => rfl)) (@pe_ix _ _ _ _ _ _ _ ix_tup (@pv _ 0 _ _ (by rfl) (by first | exact Or.inl rfl | exact Or.inr (Or.inl rfl) | exact Or.inr (Or.inr rfl)) (by decide) (by decide)) pe_int (fun _ _ => rfl))) (by rfl) (by first | exact .inl rfl | exact .inr rfl | assumption)) (@pss_cons _ _ _ _ _ (@ps_if _ _ _ _ _ _ _ _ (@pt_cmpR _ _ _ _ _ _ _ _ op_eq (@pv _ 1 _ _ (by rfl) (by first | exact Or.inl rfl | exact Or.inr (Or.inl rfl) | exact Or.inr (Or.inr rfl)) (by decide) (by decide)) pe_int (nomark _)) (@pss_one _ _ _ (@ps_ret _ _ _ _ pe_int)) pss_nil) (@pss_one _ _ _ (@ps_ret _ _ _ _ (@pe_bf _ _ _ _ _ _ _ _ _ _ b_max (call_max2 rfl) (@pa_cons _ _ _ _ _ pe_int (@pa_cons _ _ _ _ _ (@pe_op _ _ _ _ _ _ _ _ op_add (@pe_op _ _ _ _ _ _ _ _ op_sub (@pe_bf _ _ _ _ _ _ _ _ _ _ b_min (call_min2 rfl) (@pa_cons _ _ _ _ _ (@pv _ 4 _ _ (by rfl) (by first | exact Or.inl rfl | exact Or.inr (Or.inl rfl) | exact Or.inr (Or.inr rfl)) (by decide) (by decide)) (@pa_cons _ _ _ _ _ (@pe_op _ _ _ _ _ _ _ _ op_sub (@pe_op _ _ _ _ _ _ _ _ op_shl pe_int (@pv _ 1 _ _ (by rfl) (by first | exact Or.inl rfl | exact Or.inr (Or.inl rfl) | exact Or.inr (Or.inr rfl)) (by decide) (by decide))) pe_int) pa_nil (by rfl)) (by rfl)) (by decide +kernel) (by rfl) (by rfl) (by decide) (by decide) (by rfl) (by rfl)) (@pe_op _ _ _ _ _ _ _ _ op_shl pe_int (@pe_op _ _ _ _ _ _ _ _ op_sub (@pv _ 1 _ _ (by rfl) (by first | exact Or.inl rfl | exact Or.inr (Or.inl rfl) | exact Or.inr (Or.inr rfl)) (by decide) (by decide)) pe_int))) pe_int) pa_nil (by rfl)) (by rfl)) (by decide +kernel) (by rfl) (by rfl) (by decide) (by decide) (by rfl) (by rfl))))))), ?_⟩
  cases sh with
  | w lo span =>
    have ha : H a = some (.tup [.str "whole", .int lo, .int (lo + span)]) := ha
    walk_at "rd"
    refine ⟨_, SqT.of ha, _, rfl, scal_ss _ _, iteN (by decide +kernel) ⟨_, SqT.of ha, _, rfl, _, SqT.of ha, _, rfl, _, rfl, _, rfl, ite2 (fun c => ?_) (fun c => ⟨cpow ⟨by omega, by omega, by decide⟩, cpow ⟨by omega, by omega, by decide⟩, ?_⟩)⟩⟩
    · have e : k = 0 := by omega
      subst e
      have q : Q (.int (wc span 0)) H := q
      rw [wc_zero] at q
      exact q
    · obtain ⟨i, rfl⟩ : ∃ i, k = i + 1 := ⟨k - 1, by omega⟩
      have q : Q (.int (wc span (i + 1))) H := q
      unfold wc at q
      rw [half] at q
      rw [show ((((i + 1 : Nat) : Int) - 1).toNat) = i by omega, Int.toNat_natCast, show lo + (span : Int) - lo = span by omega, Int.one_mul ((2 : Int) ^ i)]
      exact q
  | t sg =>
    have ha : H a = some (.tup [.str "text", .str (S sg)]) := ha
    have h0 : 0 < sg.length := hok.1
    have hl : sg.length ≤ 62 := hok.2
    walk_at "rd"
    refine ⟨_, SqT.of ha, _, rfl, scal_ss _ _, iteY rfl ?_⟩
    refine tFor_range1 (n := k) (fun i σ H' => H = H' ∧ ∃ o3 o4, σ = [some (.ref a), some (.int k), some (.int ((sg.length : Int) ^ i)), o3, o4]) (fun R r => by walk_at "rd"; exact r) (by omega) ⟨rfl, _, _, by rw [Int.pow_zero]⟩ ?_ ?_
    · rintro i σ H' hi ⟨rfl, o3, o4, rfl⟩
      walk_at "rd"
      refine ⟨_, SqT.of ha, _, rfl, _, rfl, by rw [S_len]; exact few (by omega), ?_, ?_⟩
      · rw [S_len]
        exact .inl (cm (m := 6 * i + 1) (n := 7) (pow62 hl i) (by rw [Int.natAbs_natCast]; omega) (by omega))
      · rw [S_len, Int.pow_succ]
    · rintro σ H' ⟨rfl, o3, o4, rfl⟩
      walk_at "rd"
      exact q
end KW
set_option maxHeartbeats 8000000
namespace KW
open PySem L2

variable {g : Gx}
variable {m : Nat}
local macro_rules | `(tactic| walk_at "gn") => `(tactic| simp only [gName, List.set_cons_zero, List.set_cons_succ])

local macro_rules | `(tactic| walk_at "rd") => `(tactic| simp (config := { failIfUnchanged := false, maxSteps := 10000000 }) only [L2.start, cxOf_K, nox_K, List.map_cons, List.map_nil, List.length_cons, List.length_nil, List.cons_append, List.nil_append, List.replicate_succ, List.replicate_zero, Nat.zero_add, Nat.reduceAdd, Nat.reduceSub, Nat.sub_self, tSeq, tIfS, tTest, tOp, tC, tVar, rI0, rI, rU, tUn, tRet, tRetN, tDrop, tNext, tBreak, tCont, tAsg, gName, gNil, gCons, tCons, tNil, tCB, tCall, tTry, tTryAs, tRaise, sFld, tFld, tMake, tMeth, Ends.gone, caught_K, tB, tAnd, tOr, tNot, tAndV, tOrV, tNotV, tIf, tChain, tNoPart, tPart, tSl, tNever, tAug, rIxL, rIxT, rSlL, tLst, tTup, gTup, tRev, tLZ, tConT, tDict0, tDNewT, tDGet, sDPut, rNotInD, rInD, tEither, tSlStep, rBits, rFind, rIn, tBM, tBM0, rAppend, rReverse, rEq, rNe, scal_ii, scal_ss, rCat, rSetL, gSub, ipI, capSt, List.getD_cons_zero, List.getD_cons_succ, decide_true, not_true_eq_false, not_false_eq_true,
  exists_eq_left', exists_eq_left, exists_eq', exists_eq, exists_and_left, and_assoc, Option.some.injEq, V.int.injEq, V.bl.injEq, V.ref.injEq, V.str.injEq, List.getElem?_cons_zero, List.getElem?_cons_succ, List.set_cons_zero, List.set_cons_succ, List.cons.injEq, and_true, true_and, List.append_nil, decide_eq_true_eq, Bool.not_eq_true', decide_eq_false_iff_not, Bool.not_not, Bool.not_true, Bool.not_false, Bool.true_eq_false, Bool.false_eq_true, if_true, if_false, ite_true, ite_false])

def sp_law_value (K : PySem.W.Frag) : Sp := fun vs H Q _ => ∃ (a : Addr) (sh : Sh) (k : Nat) (n : Int), vs = [.ref a, .int k, .int n] ∧ AtSh H a sh ∧ sh.ok2 ∧ k ≤ 16 ∧ (k = 0 → n = 0) ∧ ∀ H', Same H H' → Q (val sh k n) H'
theorem ok_law_value {C_CountError : Addr} {C_NoDraw : Addr} {C_NoNumber : Addr} {C_TooMany : Addr} {C_Lister : Addr} {C_TextMaker : Addr} {C_WholeMaker : Addr} (R : g.Raw "_law_value" "_law_value" s_law_value ["_law_shape", "_law_size", "_law_number"]) (b_divmod : g.mg "divmod" = none) (b_len : g.mg "len" = none) (b_range : g.mg "range" = none) : g.Fn (1) "_law_value" ["_law_shape", "_law_size", "_law_number"] (sp_law_value g.K) := by
  refine R.fn sc_law_value (fun vs H Q E h => by obtain ⟨a, sh, k, n, rfl, ha, hok, hk, hk0, q⟩ := h; rfl) fun f_ cdv A outer s H vs Q E hr h => ?_
  obtain ⟨a, sh, k, n, rfl, ha, hok, hk, hk0, q⟩ := h
  refine ⟨_, (@pss_cons _ _ _ _ _ (@ps_if _ _ _ _ _ _ _ _ (@pt_cmpR _ _ _ _ _ _ _ _ op_eq (@pe_ix _ _ _ _ _ _ _ ix_tup (@pv _ 0 _ _ (by rfl) (by first | exact Or.inl rfl | exact Or.inr (Or.inl rfl) | exact Or.inr (Or.inr rfl)) (by decide) (by decide)) pe_int (fun _ _ => rfl)) pe_str (nomark _)) (@pss_cons _ _ _ _ _ (@ps_if _ _ _ _ _ _ _ _ (@pt_cmpR _ _ _ _ _ _ _ _ op_eq (@pv _ 1 _ _ (by rfl) (by first | exact Or.inl rfl | exact Or.inr (Or.inl rfl) | exact Or.inr (Or.inr rfl)) (by decide) (by decide)) pe_int (nomark _)) (@pss_one _ _ _ (@ps_ret _ _ _ _ (@pe_ix _ _ _ _ _ _ _ ix_tup (@pv _ 0 _ _ (by rfl) (by first | exact Or.inl rfl | exact Or.inr (Or.inl rfl) | exact Or.inr (Or.inr rfl)) (by decide) (by decide)) pe_int (fun _ _ => rfl)))) pss_nil) (@pss_one _ _ _ (@ps_ret _ _ _ _ (@pe_op _ _ _ _ _ _ _ _ op_add (@pe_op _ _ _ _ _ _ _ _ op_add (@pe_ix _ _ _ _ _ _ _ ix_tup (@pv _ 0 _ _ (by rfl) (by first | exact Or.inl rfl | exact Or.inr (Or.inl rfl) | exact Or.inr (Or.inr rfl)) (by decide) (by decide)) pe_int (fun _ _ => rfl)) (@pe_op _ _ _ _ _ _ _ _ op_shl pe_int (@pe_op _ _ _ _ _ _ _ _ op_sub (@pv _ 1 _ _ (by rfl) (by first | exact Or.inl rfl | exact Or.inr (Or.inl rfl) | exact Or.inr (Or.inr rfl)) (by decide) (by decide)) pe_int))) (@pv _ 2 _ _ (by rfl) (by first | exact Or.inl rfl | exact Or.inr (Or.inl rfl) | exact Or.inr (Or.inr rfl)) (by decide) (by decide)))))) pss_nil) (@pss_cons _ _ _ _ _ (@ps_set _ _ (3) _ _ _ _ sc_law_value.nd rfl (Or.inl rfl) pe_str (by rfl) (by first | exact .inl rfl | exact .inr rfl | assumption)) (@pss_cons _ _ _ _ _ (@ps_for _ _ _ _ _ _ _ _ PassesOwn.never rfl (@pi_range1 _ _ _ _ _ _ rfl b_range (@pa_cons _ _ _ _ _ (@pv _ 1 _ _ (by rfl) (by first | exact Or.inl rfl | exact Or.inr (Or.inl rfl) | exact Or.inr (Or.inr rfl)) (by decide) (by decide)) pa_nil (by rfl)) (by rfl)) (@pg_name _ _ (4) _ sc_law_value.nd rfl (Or.inl rfl) (by first | exact .inl rfl | exact .inr rfl | assumption)) (@pss_cons _ _ _ _ _ (@ps_asg _ _ _ _ _ _ (@pe_bf _ _ _ _ _ _ _ _ _ _ b_divmod call_divmod (@pa_cons _ _ _ _ _ (@pv _ 2 _ _ (by rfl) (by first | exact Or.inl rfl | exact Or.inr (Or.inl rfl) | exact Or.inr (Or.inr rfl)) (by decide) (by decide)) (@pa_cons _ _ _ _ _ (@pe_bf _ _ _ _ _ _ _ _ _ _ b_len call_len_str (@pa_cons _ _ _ _ _ (@pe_ix _ _ _ _ _ _ _ ix_tup (@pv _ 0 _ _ (by rfl) (by first | exact Or.inl rfl | exact Or.inr (Or.inl rfl) | exact Or.inr (Or.inr rfl)) (by decide) (by decide)) pe_int (fun _ _ => rfl)) pa_nil (by rfl)) (by decide +kernel) (by rfl) (by rfl) (by decide) (by decide) (by rfl) (by rfl)) pa_nil (by rfl)) (by rfl)) (by decide +kernel) (by rfl) (by rfl) (by decide) (by decide) (by rfl) (by rfl)) (@pg_tup _ _ _ _ _ (2) rfl (@pgs_cons _ _ _ _ _ (@pg_name _ _ (2) _ sc_law_value.nd rfl (Or.inl rfl) (by first | exact .inl rfl | exact .inr rfl | assumption)) (@pgs_cons _ _ _ _ _ (@pg_name _ _ (5) _ sc_law_value.nd rfl (Or.inl rfl) (by first | exact .inl rfl | exact .inr rfl | assumption)) pgs_nil (by rfl)) (by rfl)) (by rfl) (by rfl)) (by rfl) (by rfl) (by rfl)) (@pss_one _ _ _ (@ps_set _ _ (3) _ _ _ _ sc_law_value.nd rfl (Or.inl rfl) (@pe_op _ _ _ _ _ _ _ _ op_add_str (@pe_ix _ _ _ _ _ _ _ ix_str (@pe_ix _ _ _ _ _ _ _ ix_tup (@pv _ 0 _ _ (by rfl) (by first | exact Or.inl rfl | exact Or.inr (Or.inl rfl) | exact Or.inr (Or.inr rfl)) (by decide) (by decide)) pe_int (fun _ _ => rfl)) (@pv _ 5 _ _ (by rfl) (by first | exact Or.inl rfl | exact Or.inr (Or.inl rfl) | exact Or.inr (Or.inr rfl)) (by decide) (by decide)) (fun _ _ => rfl)) (@pv _ 3 _ _ (by rfl) (by first | exact Or.inl rfl | exact Or.inr (Or.inl rfl) | exact Or.inr (Or.inr rfl)) (by decide) (by decide))) (by rfl) (by first | exact .inl rfl | exact .inr rfl | assumption)))) (by intro _; rfl)) (@pss_one _ _ _ (@ps_ret _ _ _ _ (@pv _ 3 _ _ (by rfl) (by first | exact Or.inl rfl | exact Or.inr (Or.inl rfl) | exact Or.inr (Or.inr rfl)) (by decide) (by decide))))))), ?_⟩
  cases sh with
  | w lo span =>
    have ha : H a = some (.tup [.str "whole", .int lo, .int (lo + span)]) := ha
    have q : Q (.int (lo + 1 * 2 ^ k / 2 ^ 1 + n)) H := q H (.refl _)
    walk_at "rd"
    refine ⟨_, SqT.of ha, _, rfl, scal_ss _ _, iteY rfl (ite2 (fun c => ⟨_, SqT.of ha, _, rfl, ?_⟩) (fun c => ⟨_, SqT.of ha, _, rfl, cpow ⟨by omega, by omega, by decide⟩, _, rfl, ?_⟩))⟩
    · have e : k = 0 := by omega
      subst e
      rw [hk0 rfl, show (1 : Int) * 2 ^ 0 / 2 ^ 1 = 0 by decide, Int.add_zero, Int.add_zero] at q
      exact q
    · obtain ⟨i, rfl⟩ : ∃ i, k = i + 1 := ⟨k - 1, by omega⟩
      rw [half] at q
      rw [show ((((i + 1 : Nat) : Int) - 1).toNat) = i by omega, Int.one_mul]
      exact q
  | t sg =>
    have ha : H a = some (.tup [.str "text", .str (S sg)]) := ha
    have h0 : 0 < sg.length := hok.1
    have hl : sg.length ≤ 62 := hok.2
    walk_at "rd"
    refine ⟨_, SqT.of ha, _, rfl, scal_ss _ _, iteN (by decide +kernel) ?_⟩
    refine tFor_range1 (n := k) (fun i σ H' => Same H H' ∧ ∃ o4 o5, σ = [some (.ref a), some (.int k), some (.int (lef sg.length i n)), some (.str (S (dg sg i n).reverse)), o4, o5]) (fun R r => by walk_at "rd"; exact r) (by omega) ⟨.refl _, _, _, rfl⟩ ?_ ?_
    · rintro i σ H' hi ⟨sm, o4, o5, rfl⟩
      have ha' := sm _ _ ha
      walk_at "rd"
      refine ⟨_, SqT.of ha', _, rfl, _, rfl, by rw [S_len]; exact few (by omega), ?_⟩
      rw [S_len]
      refine ⟨⟨by omega, by omega⟩, fun p hp => ?_⟩
      have sp := Same.upd_new hp (.tup [V.int (lef sg.length i n / sg.length), V.int (lef sg.length i n % sg.length)])
      refine ⟨_, SqT.of upd_same, rfl, _, _, rfl, _, _, rfl, rfl, _, SqT.of (sp _ _ ha'), _, rfl, _, _, _, rfl, rfl, by rw [S_len]; exact few (by omega), by rw [S_list]; exact sg_at h0 _, _, rfl, ?_, sm.trans sp, rfl, ?_⟩
      · have e1 : ({ cps := #[sg.getD (lef (sg.length : Int) i n % (sg.length : Int)).toNat 0] } : Str).length = 1 := rfl
        rw [e1, S_len, List.length_reverse, dg_len]
        exact few (by omega)
      · rw [dg_snoc, List.reverse_append]
        exact S_app [sg.getD (lef (sg.length : Int) i n % (sg.length : Int)).toNat 0] (dg sg i n).reverse
    · rintro σ H' ⟨sm, o4, o5, rfl⟩
      walk_at "rd"
      exact q H' sm
end KW
set_option maxHeartbeats 8000000
namespace KW
open PySem L2

variable {g : Gx}
variable {m : Nat}
local macro_rules | `(tactic| walk_at "gn") => `(tactic| simp only [gName, List.set_cons_zero, List.set_cons_succ])

local macro_rules | `(tactic| walk_at "rd") => `(tactic| simp (config := { failIfUnchanged := false, maxSteps := 10000000 }) only [L2.start, cxOf_K, nox_K, List.map_cons, List.map_nil, List.length_cons, List.length_nil, List.cons_append, List.nil_append, List.replicate_succ, List.replicate_zero, Nat.zero_add, Nat.reduceAdd, Nat.reduceSub, Nat.sub_self, tSeq, tIfS, tTest, tOp, tC, tVar, rI0, rI, rU, tUn, tRet, tRetN, tDrop, tNext, tBreak, tCont, tAsg, gName, gNil, gCons, tCons, tNil, tCB, tCall, tTry, tTryAs, tRaise, sFld, tFld, tMake, tMeth, Ends.gone, caught_K, tB, tAnd, tOr, tNot, tAndV, tOrV, tNotV, tIf, tChain, tNoPart, tPart, tSl, tNever, tAug, rIxL, rIxT, rSlL, tLst, tTup, gTup, tRev, tLZ, tConT, tDict0, tDNewT, tDGet, sDPut, rNotInD, rInD, tEither, tSlStep, rBits, rFind, rIn, tBM, tBM0, rAppend, rReverse, rEq, rNe, scal_ii, scal_ss, rCat, rSetL, gSub, ipI, capSt, List.getD_cons_zero, List.getD_cons_succ, decide_true, not_true_eq_false, not_false_eq_true,
  exists_eq_left', exists_eq_left, exists_eq', exists_eq, exists_and_left, and_assoc, Option.some.injEq, V.int.injEq, V.bl.injEq, V.ref.injEq, V.str.injEq, List.getElem?_cons_zero, List.getElem?_cons_succ, List.set_cons_zero, List.set_cons_succ, List.cons.injEq, and_true, true_and, List.append_nil, decide_eq_true_eq, Bool.not_eq_true', decide_eq_false_iff_not, Bool.not_not, Bool.not_true, Bool.not_false, Bool.true_eq_false, Bool.false_eq_true, if_true, if_false, ite_true, ite_false])

theorem cnt_nonneg {sh : Sh} (k : Nat) : 0 ≤ cnt sh k := by
  cases sh with
  | w lo span =>
    show 0 ≤ wc span k
    unfold wc
    split
    · split <;> omega
    · split <;> omega
  | t sg =>
    show 0 ≤ (sg.length : Int) ^ k
    exact Int.pow_nonneg (by omega)
theorem cnt_zero {sh : Sh} : cnt sh 0 = 1 := by
  cases sh with
  | w lo span => exact wc_zero span
  | t sg => exact Int.pow_zero _
theorem depth_ints (zs : List Int) : (PyData.list (zs.map PyData.int)).depth ≤ 64 := by
  rw [PyData.depth]
  have : PyData.depthAll (zs.map PyData.int) ≤ 0 := by
    induction zs with
    | nil => simp [PyData.depthAll]
    | cons a l ih => simp only [List.map_cons, PyData.depthAll, PyData.depth]; omega
  omega
theorem drawn_len (b c : Int) (zs : List Int) : (drawn b c zs).length ≤ zs.length := by
  rw [drawn, List.length_map]
  exact List.length_filter_le _ _
theorem drawn_snoc {b c z : Int} {zs : List Int} {i : Nat} (h : zs[i]? = some z) : drawn b c (zs.take (i + 1)) = drawn b c (zs.take i) ++ (if z < b - b % c then [z % c] else []) := by
  rw [take_snoc h]
  unfold drawn
  rw [List.filter_append, List.map_append]
  by_cases hz : z < b - b % c
  · rw [if_pos hz]
    have : z < edge b c := hz
    simp [this]
  · rw [if_neg hz]
    have : ¬ z < edge b c := hz
    simp [this]
end KW
set_option maxHeartbeats 8000000
namespace KW
open PySem L2

variable {g : Gx}
variable {m : Nat}
local macro_rules | `(tactic| walk_at "gn") => `(tactic| simp only [gName, List.set_cons_zero, List.set_cons_succ])

local macro_rules | `(tactic| walk_at "rd") => `(tactic| simp (config := { failIfUnchanged := false, maxSteps := 10000000 }) only [L2.start, cxOf_K, nox_K, List.map_cons, List.map_nil, List.length_cons, List.length_nil, List.cons_append, List.nil_append, List.replicate_succ, List.replicate_zero, Nat.zero_add, Nat.reduceAdd, Nat.reduceSub, Nat.sub_self, tSeq, tIfS, tTest, tOp, tC, tVar, rI0, rI, rU, tUn, tRet, tRetN, tDrop, tNext, tBreak, tCont, tAsg, gName, gNil, gCons, tCons, tNil, tCB, tCall, tTry, tTryAs, tRaise, sFld, tFld, tMake, tMeth, Ends.gone, caught_K, tB, tAnd, tOr, tNot, tAndV, tOrV, tNotV, tIf, tChain, tNoPart, tPart, tSl, tNever, tAug, rIxL, rIxT, rSlL, tLst, tTup, gTup, tRev, tLZ, tConT, tDict0, tDNewT, tDGet, sDPut, rNotInD, rInD, tEither, tSlStep, rBits, rFind, rIn, tBM, tBM0, rAppend, rReverse, rEq, rNe, scal_ii, scal_ss, rCat, rSetL, gSub, ipI, capSt, List.getD_cons_zero, List.getD_cons_succ, decide_true, not_true_eq_false, not_false_eq_true,
  exists_eq_left', exists_eq_left, exists_eq', exists_eq, exists_and_left, and_assoc, Option.some.injEq, V.int.injEq, V.bl.injEq, V.ref.injEq, V.str.injEq, List.getElem?_cons_zero, List.getElem?_cons_succ, List.set_cons_zero, List.set_cons_succ, List.cons.injEq, and_true, true_and, List.append_nil, decide_eq_true_eq, Bool.not_eq_true', decide_eq_false_iff_not, Bool.not_not, Bool.not_true, Bool.not_false, Bool.true_eq_false, Bool.false_eq_true, if_true, if_false, ite_true, ite_false])

theorem body_law {k : Nat} {C_CountError : Addr} {C_NoDraw : Addr} {C_NoNumber : Addr} {C_TooMany : Addr} {C_Lister : Addr} {C_TextMaker : Addr} {C_WholeMaker : Addr} (F_drawn_values : g.FnX k "drawn_values" ["book", "shape", "size", "numbers", "base"] (sp_drawn g.K C_NoDraw)) (F_law_cell_at : g.Fn k "_law_cell_at" ["_law_script", "_law_k"] (sp_law_cell_at g.K)) (F_law_signs : g.Fn k "_law_signs" ["_law_cell", "_law_many"] (sp_law_signs)) (F_law_count : g.Fn k "_law_count" ["_law_shape", "_law_size"] (sp_law_count g.K)) (F_law_value : g.Fn k "_law_value" ["_law_shape", "_law_size", "_law_number"] (sp_law_value g.K)) (F_law_refused : g.Fn k "_law_refused" ["_law_book", "_law_shape", "_law_size", "_law_numbers", "_law_base"] (sp_law_refused g.K)) (F_law_alike : g.Fn k "_law_alike" ["_law_found", "_law_due"] (sp_law_alike g.K)) (b_list : g.mg "list" = none) (b_range : g.mg "range" = none) : Body g k ["_law_script", "_law_low", "_law_shape", "_law_size", "_law_book", "_law_count_here", "_law_base", "_law_first", "_law_numbers", "_law_due", "_law_number", "_law_handed", "_law_found"] "law" s_law (spTrue g.K) := by
  refine fun f_ cdv A outer s H vs Q E hr h => ?_
  obtain ⟨a, ns, rfl, hS, hl, q⟩ := h
  refine ⟨_, (@pss_cons _ _ _ _ _ (@ps_set _ _ (1) _ _ _ _ sc_law.nd rfl (Or.inl rfl) (@pe_op _ _ _ _ _ _ _ _ op_sub (@pe_op _ _ _ _ _ _ _ _ op_mod (@pe_fn _ _ _ _ _ _ _ _ _ _ _ _ F_law_cell_at hr (@pa_cons _ _ _ _ _ (@pv _ 0 _ _ (by rfl) (by first | exact Or.inl rfl | exact Or.inr (Or.inl rfl) | exact Or.inr (Or.inr rfl)) (by decide) (by decide)) (@pa_cons _ _ _ _ _ pe_int pa_nil (by rfl)) (by rfl)) (by omega) (by rfl) (by rfl) (by decide) (by rfl) (by rfl)) (@pe_op _ _ _ _ _ _ _ _ op_pow pe_int pe_int)) (@pe_op _ _ _ _ _ _ _ _ op_mulC pe_int (@pe_op _ _ _ _ _ _ _ _ op_pow pe_int pe_int))) (by rfl) (by first | exact .inl rfl | exact .inr rfl | assumption)) (@pss_cons _ _ _ _ _ (@ps_set _ _ (2) _ _ _ _ sc_law.nd rfl (Or.inl rfl) (@pe_tup _ _ _ _ _ (@pa_cons _ _ _ _ _ pe_str (@pa_cons _ _ _ _ _ (@pv _ 1 _ _ (by rfl) (by first | exact Or.inl rfl | exact Or.inr (Or.inl rfl) | exact Or.inr (Or.inr rfl)) (by decide) (by decide)) (@pa_cons _ _ _ _ _ (@pe_op _ _ _ _ _ _ _ _ op_add (@pv _ 1 _ _ (by rfl) (by first | exact Or.inl rfl | exact Or.inr (Or.inl rfl) | exact Or.inr (Or.inr rfl)) (by decide) (by decide)) (@pe_op _ _ _ _ _ _ _ _ op_mod (@pe_op _ _ _ _ _ _ _ _ op_mulC (@pe_fn _ _ _ _ _ _ _ _ _ _ _ _ F_law_cell_at hr (@pa_cons _ _ _ _ _ (@pv _ 0 _ _ (by rfl) (by first | exact Or.inl rfl | exact Or.inr (Or.inl rfl) | exact Or.inr (Or.inr rfl)) (by decide) (by decide)) (@pa_cons _ _ _ _ _ pe_int pa_nil (by rfl)) (by rfl)) (by omega) (by rfl) (by rfl) (by decide) (by rfl) (by rfl)) pe_int) pe_int)) pa_nil (by rfl)) (by rfl)) (by rfl))) (by rfl) (by first | exact .inl rfl | exact .inr rfl | assumption)) (@pss_cons _ _ _ _ _ (@ps_if _ _ _ _ _ _ _ _ (@pt_cmpR _ _ _ _ _ _ _ _ op_eq (@pe_op _ _ _ _ _ _ _ _ op_mod (@pe_fn _ _ _ _ _ _ _ _ _ _ _ _ F_law_cell_at hr (@pa_cons _ _ _ _ _ (@pv _ 0 _ _ (by rfl) (by first | exact Or.inl rfl | exact Or.inr (Or.inl rfl) | exact Or.inr (Or.inr rfl)) (by decide) (by decide)) (@pa_cons _ _ _ _ _ pe_int pa_nil (by rfl)) (by rfl)) (by omega) (by rfl) (by rfl) (by decide) (by rfl) (by rfl)) pe_int) pe_int (nomark _)) (@pss_one _ _ _ (@ps_set _ _ (2) _ _ _ _ sc_law.nd rfl (Or.inl rfl) (@pe_tup _ _ _ _ _ (@pa_cons _ _ _ _ _ pe_str (@pa_cons _ _ _ _ _ (@pe_fn _ _ _ _ _ _ _ _ _ _ _ _ F_law_signs hr (@pa_cons _ _ _ _ _ (@pe_fn _ _ _ _ _ _ _ _ _ _ _ _ F_law_cell_at hr (@pa_cons _ _ _ _ _ (@pv _ 0 _ _ (by rfl) (by first | exact Or.inl rfl | exact Or.inr (Or.inl rfl) | exact Or.inr (Or.inr rfl)) (by decide) (by decide)) (@pa_cons _ _ _ _ _ pe_int pa_nil (by rfl)) (by rfl)) (by omega) (by rfl) (by rfl) (by decide) (by rfl) (by rfl)) (@pa_cons _ _ _ _ _ (@pe_op _ _ _ _ _ _ _ _ op_add pe_int (@pe_op _ _ _ _ _ _ _ _ op_mod (@pe_fn _ _ _ _ _ _ _ _ _ _ _ _ F_law_cell_at hr (@pa_cons _ _ _ _ _ (@pv _ 0 _ _ (by rfl) (by first | exact Or.inl rfl | exact Or.inr (Or.inl rfl) | exact Or.inr (Or.inr rfl)) (by decide) (by decide)) (@pa_cons _ _ _ _ _ pe_int pa_nil (by rfl)) (by rfl)) (by omega) (by rfl) (by rfl) (by decide) (by rfl) (by rfl)) pe_int)) pa_nil (by rfl)) (by rfl)) (by omega) (by rfl) (by rfl) (by decide) (by rfl) (by rfl)) pa_nil (by rfl)) (by rfl))) (by rfl) (by first | exact .inl rfl | exact .inr rfl | assumption))) pss_nil) (@pss_cons _ _ _ _ _ (@ps_set _ _ (3) _ _ _ _ sc_law.nd rfl (Or.inl rfl) (@pe_op _ _ _ _ _ _ _ _ op_mod (@pe_fn _ _ _ _ _ _ _ _ _ _ _ _ F_law_cell_at hr (@pa_cons _ _ _ _ _ (@pv _ 0 _ _ (by rfl) (by first | exact Or.inl rfl | exact Or.inr (Or.inl rfl) | exact Or.inr (Or.inr rfl)) (by decide) (by decide)) (@pa_cons _ _ _ _ _ pe_int pa_nil (by rfl)) (by rfl)) (by omega) (by rfl) (by rfl) (by decide) (by rfl) (by rfl)) pe_int) (by rfl) (by first | exact .inl rfl | exact .inr rfl | assumption)) (@pss_cons _ _ _ _ _ (@ps_set _ _ (4) _ _ _ _ sc_law.nd rfl (Or.inl rfl) (@pe_lst _ _ _ _ (@pa_cons _ _ _ _ _ (@pe_tup _ _ _ _ _ (@pa_cons _ _ _ _ _ pe_str (@pa_cons _ _ _ _ _ (@pe_tup _ _ _ _ _ (@pa_cons _ _ _ _ _ pe_str (@pa_cons _ _ _ _ _ pe_str pa_nil (by rfl)) (by rfl))) pa_nil (star_tup _ _ _ _ _)) (by rfl))) pa_nil (star_tup _ _ _ _ _))) (by rfl) (by first | exact .inl rfl | exact .inr rfl | assumption)) (@pss_cons _ _ _ _ _ (@ps_set _ _ (5) _ _ _ _ sc_law.nd rfl (Or.inl rfl) (@pe_fn _ _ _ _ _ _ _ _ _ _ _ _ F_law_count hr (@pa_cons _ _ _ _ _ (@pv _ 2 _ _ (by rfl) (by first | exact Or.inl rfl | exact Or.inr (Or.inl rfl) | exact Or.inr (Or.inr rfl)) (by decide) (by decide)) (@pa_cons _ _ _ _ _ (@pv _ 3 _ _ (by rfl) (by first | exact Or.inl rfl | exact Or.inr (Or.inl rfl) | exact Or.inr (Or.inr rfl)) (by decide) (by decide)) pa_nil (by rfl)) (by rfl)) (by omega) (by rfl) (by rfl) (by decide) (by rfl) (by rfl)) (by rfl) (by first | exact .inl rfl | exact .inr rfl | assumption)) (@pss_cons _ _ _ _ _ (@ps_set _ _ (6) _ _ _ _ sc_law.nd rfl (Or.inr rfl) (@pe_op _ _ _ _ _ _ _ _ op_add pe_int (@pe_op _ _ _ _ _ _ _ _ op_mod (@pe_fn _ _ _ _ _ _ _ _ _ _ _ _ F_law_cell_at hr (@pa_cons _ _ _ _ _ (@pv _ 0 _ _ (by rfl) (by first | exact Or.inl rfl | exact Or.inr (Or.inl rfl) | exact Or.inr (Or.inr rfl)) (by decide) (by decide)) (@pa_cons _ _ _ _ _ pe_int pa_nil (by rfl)) (by rfl)) (by omega) (by rfl) (by rfl) (by decide) (by rfl) (by rfl)) (@pe_op _ _ _ _ _ _ _ _ op_pow pe_int pe_int))) (by rfl) (by first | exact .inl rfl | exact .inr rfl | assumption)) (@pss_cons _ _ _ _ _ (@ps_if _ _ _ _ _ _ _ _ (@pt_cmpR _ _ _ _ _ _ _ _ op_ne (@pe_op _ _ _ _ _ _ _ _ op_mod (@pe_fn _ _ _ _ _ _ _ _ _ _ _ _ F_law_cell_at hr (@pa_cons _ _ _ _ _ (@pv _ 0 _ _ (by rfl) (by first | exact Or.inl rfl | exact Or.inr (Or.inl rfl) | exact Or.inr (Or.inr rfl)) (by decide) (by decide)) (@pa_cons _ _ _ _ _ pe_int pa_nil (by rfl)) (by rfl)) (by omega) (by rfl) (by rfl) (by decide) (by rfl) (by rfl)) pe_int) pe_int (nomark _)) (@pss_one _ _ _ (@ps_set _ _ (6) _ _ _ _ sc_law.nd rfl (Or.inr rfl) (@pe_op _ _ _ _ _ _ _ _ op_add pe_int (@pe_op _ _ _ _ _ _ _ _ op_mod (@pe_op _ _ _ _ _ _ _ _ op_fdivL (@pe_fn _ _ _ _ _ _ _ _ _ _ _ _ F_law_cell_at hr (@pa_cons _ _ _ _ _ (@pv _ 0 _ _ (by rfl) (by first | exact Or.inl rfl | exact Or.inr (Or.inl rfl) | exact Or.inr (Or.inr rfl)) (by decide) (by decide)) (@pa_cons _ _ _ _ _ pe_int pa_nil (by rfl)) (by rfl)) (by omega) (by rfl) (by rfl) (by decide) (by rfl) (by rfl)) pe_int) (@pe_op _ _ _ _ _ _ _ _ op_add (@pe_op _ _ _ _ _ _ _ _ op_mulC pe_int (@pv _ 5 _ _ (by rfl) (by first | exact Or.inl rfl | exact Or.inr (Or.inl rfl) | exact Or.inr (Or.inr rfl)) (by decide) (by decide))) pe_int))) (by rfl) (by first | exact .inl rfl | exact .inr rfl | assumption))) pss_nil) (@pss_cons _ _ _ _ _ (@ps_set _ _ (7) _ _ _ _ sc_law.nd rfl (Or.inr rfl) (@pe_fn _ _ _ _ _ _ _ _ _ _ _ _ F_law_cell_at hr (@pa_cons _ _ _ _ _ (@pv _ 0 _ _ (by rfl) (by first | exact Or.inl rfl | exact Or.inr (Or.inl rfl) | exact Or.inr (Or.inr rfl)) (by decide) (by decide)) (@pa_cons _ _ _ _ _ pe_int pa_nil (by rfl)) (by rfl)) (by omega) (by rfl) (by rfl) (by decide) (by rfl) (by rfl)) (by rfl) (by first | exact .inl rfl | exact .inr rfl | assumption)) (@pss_cons _ _ _ _ _ (@ps_setC _ (8) _ _ _ _ _ _ _ _ _ ([none, some 6]) ((["_law_cell", "_law_base"] : List Str)) _ (gName 0) _ _ sc_law.nd rfl (Or.inl rfl) (.own (.cap (i := 6) rfl rfl (by first | exact Or.inl rfl | exact Or.inr rfl) .nil)) rfl (@pi_list _ _ _ _ (@pe_slice _ _ _ _ _ _ _ _ _ _ sl_list (@pv _ 0 _ _ (by rfl) (by first | exact Or.inl rfl | exact Or.inr (Or.inl rfl) | exact Or.inr (Or.inr rfl)) (by decide) (by decide)) (@po_some _ _ _ pe_int) (@po_some _ _ _ pe_int))) (fun cl C s₀ H₀ fp pn => (@pg_name _ _ (0) _ (show List.Nodup (["_law_cell", "_law_base"] : List Str) by decide +kernel) rfl (Or.inl rfl) (Or.inr rfl))) (fun cl C s₀ H₀ fp pn => pts_nil) (fun cl C s₀ H₀ fp pn => (@pe_op _ _ _ _ _ _ _ _ op_mod (@pv _ 0 _ _ (by rfl) (by first | exact Or.inl rfl | exact Or.inr (Or.inl rfl) | exact Or.inr (Or.inr rfl)) (by decide) (by decide)) (@pv _ 1 _ _ (by rfl) (by first | exact Or.inl rfl | exact Or.inr (Or.inl rfl) | exact Or.inr (Or.inr rfl)) (by decide) (by decide)))) (by intro x hx; simp at hx; first | (subst hx; exact Or.inl rfl) | (rcases hx with rfl | rfl <;> exact Or.inl rfl) | (rcases hx with rfl | rfl | rfl <;> exact Or.inl rfl)) (by rfl) (by decide) (by decide +kernel) (by intro _; rfl) (by rfl) (by first | exact .inl rfl | exact .inr rfl | assumption)) (@pss_cons _ _ _ _ _ (@ps_set _ _ (8) _ _ _ _ sc_law.nd rfl (Or.inl rfl) (@pe_op _ _ _ _ _ _ _ _ op_cat (@pv _ 8 _ _ (by rfl) (by first | exact Or.inl rfl | exact Or.inr (Or.inl rfl) | exact Or.inr (Or.inr rfl)) (by decide) (by decide)) (@pe_lc _ _ _ _ _ _ _ ([none, some 6, some 7]) ((["_law_k", "_law_base", "_law_first"] : List Str)) _ (gName 0) _ _ (.own (.cap (i := 6) rfl rfl (by first | exact Or.inl rfl | exact Or.inr rfl) (.cap (i := 7) rfl rfl (by first | exact Or.inl rfl | exact Or.inr rfl) .nil))) rfl (@pi_range1 _ _ _ _ _ _ rfl b_range (@pa_cons _ _ _ _ _ (@pe_op _ _ _ _ _ _ _ _ op_mod (@pe_op _ _ _ _ _ _ _ _ op_fdivL (@pv _ 7 _ _ (by rfl) (by first | exact Or.inl rfl | exact Or.inr (Or.inl rfl) | exact Or.inr (Or.inr rfl)) (by decide) (by decide)) pe_int) pe_int) pa_nil (by rfl)) (by rfl)) (fun cl C s₀ H₀ fp pn => (@pg_name _ _ (0) _ (show List.Nodup (["_law_k", "_law_base", "_law_first"] : List Str) by decide +kernel) rfl (Or.inl rfl) (Or.inr rfl))) (fun cl C s₀ H₀ fp pn => pts_nil) (fun cl C s₀ H₀ fp pn => (@pe_op _ _ _ _ _ _ _ _ op_mod (@pe_op _ _ _ _ _ _ _ _ op_add (@pv _ 2 _ _ (by rfl) (by first | exact Or.inl rfl | exact Or.inr (Or.inl rfl) | exact Or.inr (Or.inr rfl)) (by decide) (by decide)) (@pe_op _ _ _ _ _ _ _ _ op_mulC (@pe_op _ _ _ _ _ _ _ _ op_mulC pe_int (@pv _ 0 _ _ (by rfl) (by first | exact Or.inl rfl | exact Or.inr (Or.inl rfl) | exact Or.inr (Or.inr rfl)) (by decide) (by decide))) (@pv _ 0 _ _ (by rfl) (by first | exact Or.inl rfl | exact Or.inr (Or.inl rfl) | exact Or.inr (Or.inr rfl)) (by decide) (by decide)))) (@pv _ 1 _ _ (by rfl) (by first | exact Or.inl rfl | exact Or.inr (Or.inl rfl) | exact Or.inr (Or.inr rfl)) (by decide) (by decide)))) (by intro x hx; simp at hx; first | (subst hx; exact Or.inl rfl) | (rcases hx with rfl | rfl <;> exact Or.inl rfl) | (rcases hx with rfl | rfl | rfl <;> exact Or.inl rfl)) (by rfl) (by decide) (by decide +kernel) (by intro _; rfl))) (by rfl) (by first | exact .inl rfl | exact .inr rfl | assumption)) (@pss_cons _ _ _ _ _ (@ps_if _ _ _ _ _ _ _ _ (@pt_cmpR _ _ _ _ _ _ _ _ op_eq (@pv _ 5 _ _ (by rfl) (by first | exact Or.inl rfl | exact Or.inr (Or.inl rfl) | exact Or.inr (Or.inr rfl)) (by decide) (by decide)) pe_int (nomark _)) (@pss_one _ _ _ (@ps_ret _ _ _ _ (@pe_and _ _ _ _ _ _ _ (@pe_fn _ _ _ _ _ _ _ _ _ _ _ _ F_law_refused hr (@pa_cons _ _ _ _ _ (@pv _ 4 _ _ (by rfl) (by first | exact Or.inl rfl | exact Or.inr (Or.inl rfl) | exact Or.inr (Or.inr rfl)) (by decide) (by decide)) (@pa_cons _ _ _ _ _ (@pv _ 2 _ _ (by rfl) (by first | exact Or.inl rfl | exact Or.inr (Or.inl rfl) | exact Or.inr (Or.inr rfl)) (by decide) (by decide)) (@pa_cons _ _ _ _ _ (@pv _ 3 _ _ (by rfl) (by first | exact Or.inl rfl | exact Or.inr (Or.inl rfl) | exact Or.inr (Or.inr rfl)) (by decide) (by decide)) (@pa_cons _ _ _ _ _ (@pe_bt _ _ _ _ _ _ _ _ _ _ b_list call_list_of (@pa_cons _ _ _ _ _ (@pv _ 8 _ _ (by rfl) (by first | exact Or.inl rfl | exact Or.inr (Or.inl rfl) | exact Or.inr (Or.inr rfl)) (by decide) (by decide)) pa_nil (by rfl)) (by decide +kernel) (by rfl) (by rfl) (by decide) (by decide) (by rfl) (by rfl)) (@pa_cons _ _ _ _ _ (@pv _ 6 _ _ (by rfl) (by first | exact Or.inl rfl | exact Or.inr (Or.inl rfl) | exact Or.inr (Or.inr rfl)) (by decide) (by decide)) pa_nil (by rfl)) (by rfl)) (by rfl)) (by rfl)) (by rfl)) (by omega) (by rfl) (by rfl) (by decide) (by rfl) (by rfl)) (@pe_one _ _ _ _ _ (@pe_fn _ _ _ _ _ _ _ _ _ _ _ _ F_law_refused hr (@pa_cons _ _ _ _ _ (@pv _ 4 _ _ (by rfl) (by first | exact Or.inl rfl | exact Or.inr (Or.inl rfl) | exact Or.inr (Or.inr rfl)) (by decide) (by decide)) (@pa_cons _ _ _ _ _ (@pv _ 2 _ _ (by rfl) (by first | exact Or.inl rfl | exact Or.inr (Or.inl rfl) | exact Or.inr (Or.inr rfl)) (by decide) (by decide)) (@pa_cons _ _ _ _ _ (@pv _ 3 _ _ (by rfl) (by first | exact Or.inl rfl | exact Or.inr (Or.inl rfl) | exact Or.inr (Or.inr rfl)) (by decide) (by decide)) (@pa_cons _ _ _ _ _ (@pe_lst _ _ _ _ pa_nil) (@pa_cons _ _ _ _ _ (@pv _ 6 _ _ (by rfl) (by first | exact Or.inl rfl | exact Or.inr (Or.inl rfl) | exact Or.inr (Or.inr rfl)) (by decide) (by decide)) pa_nil (by rfl)) (star_lst _ _ _ _)) (by rfl)) (by rfl)) (by rfl)) (by omega) (by rfl) (by rfl) (by decide) (by rfl) (by rfl)))))) pss_nil) (@pss_cons _ _ _ _ _ (@ps_set _ _ (9) _ _ _ _ sc_law.nd rfl (Or.inl rfl) (@pe_lst _ _ _ _ pa_nil) (by rfl) (by first | exact .inl rfl | exact .inr rfl | assumption)) (@pss_cons _ _ _ _ _ (@ps_for _ _ _ _ _ _ _ _ PassesOwn.never rfl (@pi_list _ _ _ _ (@pv _ 8 _ _ (by rfl) (by first | exact Or.inl rfl | exact Or.inr (Or.inl rfl) | exact Or.inr (Or.inr rfl)) (by decide) (by decide))) (@pg_name _ _ (10) _ sc_law.nd rfl (Or.inl rfl) (by first | exact .inl rfl | exact .inr rfl | assumption)) (@pss_one _ _ _ (@ps_if _ _ _ _ _ _ _ _ (@pt_cmpR _ _ _ _ _ _ _ _ op_lt (@pv _ 10 _ _ (by rfl) (by first | exact Or.inl rfl | exact Or.inr (Or.inl rfl) | exact Or.inr (Or.inr rfl)) (by decide) (by decide)) (@pe_op _ _ _ _ _ _ _ _ op_sub (@pv _ 6 _ _ (by rfl) (by first | exact Or.inl rfl | exact Or.inr (Or.inl rfl) | exact Or.inr (Or.inr rfl)) (by decide) (by decide)) (@pe_op _ _ _ _ _ _ _ _ op_mod (@pv _ 6 _ _ (by rfl) (by first | exact Or.inl rfl | exact Or.inr (Or.inl rfl) | exact Or.inr (Or.inr rfl)) (by decide) (by decide)) (@pv _ 5 _ _ (by rfl) (by first | exact Or.inl rfl | exact Or.inr (Or.inl rfl) | exact Or.inr (Or.inr rfl)) (by decide) (by decide)))) (nomark _)) (@pss_one _ _ _ (@ps_expr _ _ _ _ (@pe_bm _ _ _ _ _ _ _ _ _ _ _ _ PySem.F.plainAttrs_list PySem.F.slot_list_append PySem.F.type_list_append mt_append (@pv _ 9 _ _ (by rfl) (by first | exact Or.inl rfl | exact Or.inr (Or.inl rfl) | exact Or.inr (Or.inr rfl)) (by decide) (by decide)) (@pa_cons _ _ _ _ _ (@pe_fn _ _ _ _ _ _ _ _ _ _ _ _ F_law_value hr (@pa_cons _ _ _ _ _ (@pv _ 2 _ _ (by rfl) (by first | exact Or.inl rfl | exact Or.inr (Or.inl rfl) | exact Or.inr (Or.inr rfl)) (by decide) (by decide)) (@pa_cons _ _ _ _ _ (@pv _ 3 _ _ (by rfl) (by first | exact Or.inl rfl | exact Or.inr (Or.inl rfl) | exact Or.inr (Or.inr rfl)) (by decide) (by decide)) (@pa_cons _ _ _ _ _ (@pe_op _ _ _ _ _ _ _ _ op_mod (@pv _ 10 _ _ (by rfl) (by first | exact Or.inl rfl | exact Or.inr (Or.inl rfl) | exact Or.inr (Or.inr rfl)) (by decide) (by decide)) (@pv _ 5 _ _ (by rfl) (by first | exact Or.inl rfl | exact Or.inr (Or.inl rfl) | exact Or.inr (Or.inr rfl)) (by decide) (by decide))) pa_nil (by rfl)) (by rfl)) (by rfl)) (by omega) (by rfl) (by rfl) (by decide) (by rfl) (by rfl)) pa_nil (by rfl)) (by rfl) (by rfl) (by rfl) (by rfl) (by rfl)) (by rfl))) pss_nil)) (by intro _; rfl)) (@pss_cons _ _ _ _ _ (@ps_set _ _ (11) _ _ _ _ sc_law.nd rfl (Or.inl rfl) (@pe_bt _ _ _ _ _ _ _ _ _ _ b_list call_list_of (@pa_cons _ _ _ _ _ (@pv _ 8 _ _ (by rfl) (by first | exact Or.inl rfl | exact Or.inr (Or.inl rfl) | exact Or.inr (Or.inr rfl)) (by decide) (by decide)) pa_nil (by rfl)) (by decide +kernel) (by rfl) (by rfl) (by decide) (by decide) (by rfl) (by rfl)) (by rfl) (by first | exact .inl rfl | exact .inr rfl | assumption)) (@pss_cons _ _ _ _ _ (@ps_set _ _ (12) _ _ _ _ sc_law.nd rfl (Or.inl rfl) (@pe_fnX _ _ _ _ _ _ _ _ _ _ _ _ _ F_drawn_values hr passNo (@pa_cons _ _ _ _ _ (@pv _ 4 _ _ (by rfl) (by first | exact Or.inl rfl | exact Or.inr (Or.inl rfl) | exact Or.inr (Or.inr rfl)) (by decide) (by decide)) (@pa_cons _ _ _ _ _ (@pv _ 2 _ _ (by rfl) (by first | exact Or.inl rfl | exact Or.inr (Or.inl rfl) | exact Or.inr (Or.inr rfl)) (by decide) (by decide)) (@pa_cons _ _ _ _ _ (@pv _ 3 _ _ (by rfl) (by first | exact Or.inl rfl | exact Or.inr (Or.inl rfl) | exact Or.inr (Or.inr rfl)) (by decide) (by decide)) (@pa_cons _ _ _ _ _ (@pv _ 11 _ _ (by rfl) (by first | exact Or.inl rfl | exact Or.inr (Or.inl rfl) | exact Or.inr (Or.inr rfl)) (by decide) (by decide)) (@pa_cons _ _ _ _ _ (@pv _ 6 _ _ (by rfl) (by first | exact Or.inl rfl | exact Or.inr (Or.inl rfl) | exact Or.inr (Or.inr rfl)) (by decide) (by decide)) pa_nil (by rfl)) (by rfl)) (by rfl)) (by rfl)) (by rfl)) (by omega) (by rfl) (by rfl) (by decide) (by rfl) (by rfl)) (by rfl) (by first | exact .inl rfl | exact .inr rfl | assumption)) (@pss_cons _ _ _ _ _ (@ps_if _ _ _ _ _ _ _ _ (@pw_or _ _ _ _ _ _ _ (@pt_not _ _ _ _ (@pt_val _ _ _ (@pe_fn _ _ _ _ _ _ _ _ _ _ _ _ F_law_alike hr (@pa_cons _ _ _ _ _ (@pv _ 12 _ _ (by rfl) (by first | exact Or.inl rfl | exact Or.inr (Or.inl rfl) | exact Or.inr (Or.inr rfl)) (by decide) (by decide)) (@pa_cons _ _ _ _ _ (@pv _ 9 _ _ (by rfl) (by first | exact Or.inl rfl | exact Or.inr (Or.inl rfl) | exact Or.inr (Or.inr rfl)) (by decide) (by decide)) pa_nil (by rfl)) (by rfl)) (by omega) (by rfl) (by rfl) (by decide) (by rfl) (by rfl)) (by intro _; rfl))) (@pw_or1 _ _ _ _ (@pt_cmpR _ _ _ _ _ _ _ _ (op_neD hr.units) (@pv _ 11 _ _ (by rfl) (by first | exact Or.inl rfl | exact Or.inr (Or.inl rfl) | exact Or.inr (Or.inr rfl)) (by decide) (by decide)) (@pv _ 8 _ _ (by rfl) (by first | exact Or.inl rfl | exact Or.inr (Or.inl rfl) | exact Or.inr (Or.inr rfl)) (by decide) (by decide)) (nomark _)))).pt (@pss_one _ _ _ (@ps_ret _ _ _ _ pe_bl)) pss_nil) (@pss_cons _ _ _ _ _ (@ps_expr _ _ _ _ (@pe_bm _ _ _ _ _ _ _ _ _ _ _ _ PySem.F.plainAttrs_list PySem.F.slot_list_append PySem.F.type_list_append mt_append (@pv _ 12 _ _ (by rfl) (by first | exact Or.inl rfl | exact Or.inr (Or.inl rfl) | exact Or.inr (Or.inr rfl)) (by decide) (by decide)) (@pa_cons _ _ _ _ _ pe_int pa_nil (by rfl)) (by rfl) (by rfl) (by rfl) (by rfl) (by rfl)) (by rfl)) (@pss_cons _ _ _ _ _ (@ps_expr _ _ _ _ (@pe_bm _ _ _ _ _ _ _ _ _ _ _ _ PySem.F.plainAttrs_list PySem.F.slot_list_append PySem.F.type_list_append mt_append (@pv _ 11 _ _ (by rfl) (by first | exact Or.inl rfl | exact Or.inr (Or.inl rfl) | exact Or.inr (Or.inr rfl)) (by decide) (by decide)) (@pa_cons _ _ _ _ _ pe_int pa_nil (by rfl)) (by rfl) (by rfl) (by rfl) (by rfl) (by rfl)) (by rfl)) (@pss_cons _ _ _ _ _ (@ps_if _ _ _ _ _ _ _ _ (@pt_cmpR _ _ _ _ _ _ _ _ (op_neD hr.units) (@pe_fnX _ _ _ _ _ _ _ _ _ _ _ _ _ F_drawn_values hr passNo (@pa_cons _ _ _ _ _ (@pv _ 4 _ _ (by rfl) (by first | exact Or.inl rfl | exact Or.inr (Or.inl rfl) | exact Or.inr (Or.inr rfl)) (by decide) (by decide)) (@pa_cons _ _ _ _ _ (@pv _ 2 _ _ (by rfl) (by first | exact Or.inl rfl | exact Or.inr (Or.inl rfl) | exact Or.inr (Or.inr rfl)) (by decide) (by decide)) (@pa_cons _ _ _ _ _ (@pv _ 3 _ _ (by rfl) (by first | exact Or.inl rfl | exact Or.inr (Or.inl rfl) | exact Or.inr (Or.inr rfl)) (by decide) (by decide)) (@pa_cons _ _ _ _ _ (@pe_lst _ _ _ _ pa_nil) (@pa_cons _ _ _ _ _ (@pv _ 6 _ _ (by rfl) (by first | exact Or.inl rfl | exact Or.inr (Or.inl rfl) | exact Or.inr (Or.inr rfl)) (by decide) (by decide)) pa_nil (by rfl)) (star_lst _ _ _ _)) (by rfl)) (by rfl)) (by rfl)) (by omega) (by rfl) (by rfl) (by decide) (by rfl) (by rfl)) (@pe_lst _ _ _ _ pa_nil) (nomark _)) (@pss_one _ _ _ (@ps_ret _ _ _ _ pe_bl)) pss_nil) (@pss_one _ _ _ (@ps_ret _ _ _ _ (@pe_fn _ _ _ _ _ _ _ _ _ _ _ _ F_law_alike hr (@pa_cons _ _ _ _ _ (@pe_fnX _ _ _ _ _ _ _ _ _ _ _ _ _ F_drawn_values hr passNo (@pa_cons _ _ _ _ _ (@pv _ 4 _ _ (by rfl) (by first | exact Or.inl rfl | exact Or.inr (Or.inl rfl) | exact Or.inr (Or.inr rfl)) (by decide) (by decide)) (@pa_cons _ _ _ _ _ (@pv _ 2 _ _ (by rfl) (by first | exact Or.inl rfl | exact Or.inr (Or.inl rfl) | exact Or.inr (Or.inr rfl)) (by decide) (by decide)) (@pa_cons _ _ _ _ _ (@pv _ 3 _ _ (by rfl) (by first | exact Or.inl rfl | exact Or.inr (Or.inl rfl) | exact Or.inr (Or.inr rfl)) (by decide) (by decide)) (@pa_cons _ _ _ _ _ (@pv _ 8 _ _ (by rfl) (by first | exact Or.inl rfl | exact Or.inr (Or.inl rfl) | exact Or.inr (Or.inr rfl)) (by decide) (by decide)) (@pa_cons _ _ _ _ _ (@pv _ 6 _ _ (by rfl) (by first | exact Or.inl rfl | exact Or.inr (Or.inl rfl) | exact Or.inr (Or.inr rfl)) (by decide) (by decide)) pa_nil (by rfl)) (by rfl)) (by rfl)) (by rfl)) (by rfl)) (by omega) (by rfl) (by rfl) (by decide) (by rfl) (by rfl)) (@pa_cons _ _ _ _ _ (@pv _ 9 _ _ (by rfl) (by first | exact Or.inl rfl | exact Or.inr (Or.inl rfl) | exact Or.inr (Or.inr rfl)) (by decide) (by decide)) pa_nil (by rfl)) (by rfl)) (by omega) (by rfl) (by rfl) (by decide) (by rfl) (by rfl)))))))))))))))))))))))), ?_⟩
  refine cut3 (fun σ H' => ∃ (lo : Int) (Sa : Addr) (sh : Sh), σ = [some (.ref a), some (.int lo), some (.ref Sa), none, none, none, none, none, none, none, none, none, none] ∧ Same H H' ∧ AtSh H' Sa sh ∧ sh.ok2) ?_ (fun N hN => ?_)
  rotate_left
  · walk_at "rd"
    refine ⟨a, ns, 1, rfl, hS, hl, cpow, _, rfl, by decide +kernel, cpow, .inl (cm (m := 3) (n := 197) (by decide +kernel) (by decide +kernel)), ?_⟩
    refine ⟨a, ns, 2, rfl, hS, hl, _, rfl, .inr (.inr ⟨by decide, by decide⟩), by decide, few (by decide), fun Sw gw => ?_⟩
    have ww := Same.upd_new gw (.tup [.str "whole", .int (ns.getD 1 0 % 10 ^ Int.toNat 60 - 5 * 10 ^ Int.toNat 59), .int (ns.getD 1 0 % 10 ^ Int.toNat 60 - 5 * 10 ^ Int.toNat 59 + ns.getD 2 0 * 48271 % 40009)])
    refine ⟨a, ns, 0, rfl, ww.seq hS, hl, _, rfl, by decide, ite2 (fun c => ?_) (fun c => ?_)⟩
    · have p3 : 0 ≤ ns.getD 2 0 % 62 := Int.emod_nonneg _ (by decide)
      have p4 : ns.getD 2 0 % 62 < 62 := Int.emod_lt_of_pos _ (by decide)
      refine ⟨a, ns, 1, rfl, ww.seq hS, hl, a, ns, 2, rfl, ww.seq hS, hl, _, rfl, by decide, ns.getD 1 0, (1 + ns.getD 2 0 % 62).toNat, by rw [Int.toNat_of_nonneg (by omega)], by omega, fun sg H1 hsg s1 => ⟨few (by decide), fun p hp => hN _ _ ⟨_, p, .t sg, rfl, (ww.trans s1).trans (.upd_new hp _), upd_same, ⟨by omega, by omega⟩⟩⟩⟩
    · have p1 : 0 ≤ ns.getD 2 0 * 48271 % 40009 := Int.emod_nonneg _ (by decide)
      refine hN _ _ ⟨_, Sw, .w (ns.getD 1 0 % 10 ^ Int.toNat 60 - 5 * 10 ^ Int.toNat 59) (ns.getD 2 0 * 48271 % 40009).toNat, rfl, ww, ?_, trivial⟩
      show upd H Sw _ Sw = some (.tup [.str "whole", .int _, .int (_ + (((ns.getD 2 0 * 48271 % 40009).toNat : Nat) : Int))])
      rw [upd_same, Int.toNat_of_nonneg p1]
  rintro σ H1 ⟨lo, Sa, sh, rfl, s1, hSa, hok⟩
  have hS1 := s1.seq hS
  refine cut3 (fun σ H' => ∃ (k : Nat) (B : Addr), σ = [some (.ref a), some (.int lo), some (.ref Sa), some (.int k), some (.ref B), some (.int (cnt sh k)), none, none, none, none, none, none, none] ∧ Same H1 H' ∧ k ≤ 16) ?_ (fun N hN => ?_)
  rotate_left
  · have p1 : 0 ≤ ns.getD 3 0 % 17 := Int.emod_nonneg _ (by decide)
    have p2 : ns.getD 3 0 % 17 < 17 := Int.emod_lt_of_pos _ (by decide)
    walk_at "rd"
    refine ⟨a, ns, 3, rfl, hS1, hl, _, rfl, by decide, few (by decide), fun p0 g0 => ⟨few (by decide), fun p1' g1 => ⟨few (by decide), fun p2' g2 => ?_⟩⟩⟩
    have wA := ((Same.upd_new g0 (.tup [.str "text", .str "ab"])).trans (.upd_new g1 (.tup [.str "some", .ref p0]))).trans (.upd_new g2 (.lst [.ref p1']))
    obtain ⟨k, hk⟩ : ∃ k : Nat, ns.getD 3 0 % 17 = (k : Int) := ⟨_, (Int.toNat_of_nonneg p1).symm⟩
    rw [hk]
    exact ⟨Sa, sh, k, rfl, wA _ _ hSa, hok, by omega, hN _ _ ⟨k, p2', rfl, wA, by omega⟩⟩
  rintro σ H2 ⟨k, B, rfl, s2, hk⟩
  have hS2 := s2.seq hS1
  have c0 := cnt_nonneg (sh := sh) k
  refine cut3 (fun σ H' => ∃ (base fst : Int), σ = [some (.ref a), some (.int lo), some (.ref Sa), some (.int k), some (.ref B), some (.int (cnt sh k)), some (.int base), some (.int fst), none, none, none, none, none] ∧ H2 = H' ∧ 0 < base) ?_ (fun N hN => ?_)
  rotate_left
  · walk_at "rd"
    refine ⟨a, ns, 4, rfl, hS2, hl, cpow, _, rfl, by decide +kernel, a, ns, 4, rfl, hS2, hl, _, rfl, by decide, ite2 (fun c => ?_) (fun c => ?_)⟩
    · refine ⟨a, ns, 4, rfl, hS2, hl, _, rfl, small_div (by decide) (by decide), .inr (.inl ⟨by decide, by decide⟩), by omega, a, ns, 4, rfl, hS2, hl, hN _ _ ⟨_, _, rfl, rfl, ?_⟩⟩
      have := Int.emod_nonneg (ns.getD 4 0 / 3) (show 3 * cnt sh k + 2 ≠ 0 by omega)
      omega
    · refine ⟨a, ns, 4, rfl, hS2, hl, hN _ _ ⟨_, _, rfl, rfl, ?_⟩⟩
      have := Int.emod_nonneg (ns.getD 4 0) (show (10 : Int) ^ Int.toNat 61 ≠ 0 by decide +kernel)
      omega
  rintro σ H2 ⟨base, fst, rfl, rfl, hb⟩
  refine cut2 (fun σ H' => ∃ (Nn : Addr) (zs : List Int), σ = [some (.ref a), some (.int lo), some (.ref Sa), some (.int k), some (.ref B), some (.int (cnt sh k)), some (.int base), some (.int fst), some (.ref Nn), none, none, none, none] ∧ Same H2 H' ∧ H' Nn = some (.lst (zs.map V.int)) ∧ zs.length ≤ 200) ?_ (fun N hN => ?_)
  rotate_left
  · walk_at "rd"
    refine tLC_filt (K := g.K) (xs := (((ns.drop 5).take 100).map V.int)) (fun _ => true) (fun v => match v with | .int i => V.int (i % base) | v => v) (fun R r => ?_) (by rw [List.length_map, List.length_take]; omega) (fun x H' hx sm R r => r H' (.refl _)) ?_ ?_
    · walk_at "rd"
      refine ⟨_, hS2, fun p hp => r p _ (.upd_new hp _) (SqL.of ?_)⟩
      rw [upd_same, show (5 : Int) = ((5 : Nat) : Int) from rfl, show (105 : Int) = ((105 : Nat) : Int) from rfl, cutV_nn, List.map_take, List.map_drop]
    · intro x H' hx hp' sm R r
      obtain ⟨i, _, rfl⟩ := List.mem_map.mp hx
      walk_at "rd"
      exact ⟨hb, r H' (.refl _)⟩
    · intro D H3 hD s3 hd3
      have p1 : 0 ≤ fst / 5 % 13 := Int.emod_nonneg _ (by decide)
      have p2 : fst / 5 % 13 < 13 := Int.emod_lt_of_pos _ (by decide)
      obtain ⟨m, hm⟩ : ∃ m : Nat, fst / 5 % 13 = (m : Int) := ⟨_, (Int.toNat_of_nonneg p1).symm⟩
      refine tLC_rangeG (n := m) (fun (i : Nat) => V.int ((fst + 69621 * (i : Int) * (i : Int)) % base)) (fun R r => by walk_at "rd"; exact ⟨small_div (by decide) (by decide), by decide, by rw [hm]; exact r _ (.refl _)⟩) (by omega) ?_ ?_
      · intro i H' hi sm R r
        walk_at "rd"
        exact ⟨.inr (.inl ⟨by decide, by decide⟩), .inr (.inr ⟨by omega, by omega⟩), hb, r H' (.refl _)⟩
      · intro D2 H4 hD2 s4 hd4
        have e1 : ((((ns.drop 5).take 100).map V.int).filter fun _ => true).map (fun v => match v with | .int i => V.int (i % base) | v => v) = (((ns.drop 5).take 100).map fun i => i % base).map V.int := by
          rw [List.filter_eq_self.mpr (fun _ _ => rfl), List.map_map, List.map_map]; rfl
        rw [e1] at hd3
        have e2 : (List.range m).map (fun (i : Nat) => V.int ((fst + 69621 * (i : Int) * (i : Int)) % base)) = ((List.range m).map fun (i : Nat) => (fst + 69621 * (i : Int) * (i : Int)) % base).map V.int := by rw [List.map_map]; rfl
        rw [e2] at hd4
        refine ⟨D, rfl, D2, rfl, _, s4 _ _ hd3, _, hd4, ?_, fun p hp => hN _ _ ⟨p, _, rfl, (s3.trans s4).trans (.upd_new hp _), by rw [upd_same, ← List.map_append], ?_⟩⟩
        · simp only [List.length_map, List.length_take, List.length_range]
          exact few (by omega)
        · simp only [List.length_append, List.length_map, List.length_take, List.length_range]
          omega
  rintro σ H3 ⟨Nn, zs, rfl, s3, hNn, hzl⟩
  have hSa3 : AtSh H3 Sa sh := s3 _ _ (s2 _ _ hSa)
  refine cut1 (fun σ H' => σ = [some (.ref a), some (.int lo), some (.ref Sa), some (.int k), some (.ref B), some (.int (cnt sh k)), some (.int base), some (.int fst), some (.ref Nn), none, none, none, none] ∧ H3 = H' ∧ 0 < cnt sh k) ?_ (fun N hN => ?_)
  rotate_left
  · walk_at "rd"
    refine ite2 (fun c => ⟨_, .inl (SqL.of hNn), fun l gl => ?_⟩) (fun c => hN _ _ ⟨rfl, rfl, by omega⟩)
    have wl := Same.upd_new gl (.lst (zs.map V.int))
    refine ⟨Sa, l, .ref B, sh, k, base, zs, rfl, wl _ _ hSa3, hok, hk, SqL.of upd_same, by omega, by omega, fun H' s' => ⟨true, rfl, iteY rfl ⟨few (by decide), fun p hp => ?_⟩⟩⟩
    exact ⟨Sa, p, .ref B, sh, k, base, [], rfl, (s'.trans (.upd_new hp _)) _ _ (wl _ _ hSa3), hok, hk, SqL.of upd_same, by simp, by omega, fun H'' _ => q H''⟩
  rintro σ H3 ⟨rfl, rfl, hc⟩
  walk_at "rd"
  refine ⟨few (by decide), fun Du gD => ?_⟩
  have nND : Nn ≠ Du := ne_of_none hNn gD
  refine tFor_listN (K := g.K) (xs := zs.map V.int) (fun c i σ H' => c = Nn ∧ (∃ o10, σ = [some (.ref a), some (.int lo), some (.ref Sa), some (.int k), some (.ref B), some (.int (cnt sh k)), some (.int base), some (.int fst), some (.ref Nn), some (.ref Du), o10, none, none]) ∧ Same H3 H' ∧ H' Du = some (.lst ((drawn base (cnt sh k) (zs.take i)).map (val sh k)))) (fun R r => by walk_at "rd"; exact r Nn _ ⟨rfl, ⟨_, rfl⟩, .upd_new gD _, by rw [upd_same]; rfl⟩) (fun c i σ H' _ ⟨e, _, s, _⟩ => by subst e; exact SqL.of (s _ _ hNn)) ?_ ?_
  · rintro c i x σ H' hx ⟨rfl, ⟨o10, rfl⟩, sm, hDu⟩
    rw [List.getElem?_map] at hx
    obtain ⟨z, hz, rfl⟩ := Option.map_eq_some_iff.mp hx
    have hi := (List.getElem?_eq_some_iff.mp hz).1
    have hk0 : k = 0 → z % cnt sh k = 0 := fun e => by subst e; rw [cnt_zero]; exact Int.emod_one z
    have hdl : ((drawn base (cnt sh k) (zs.take i)).map (val sh k)).length ≤ 200 := by
      rw [List.length_map]
      refine Nat.le_trans (drawn_len _ _ _) ?_
      rw [List.length_take]; omega
    walk_at "rd"
    refine ⟨hc, ite2 (fun c1 => ?_) (fun c1 => ?_)⟩
    · refine ⟨.inl ⟨rfl, _, SqL.of hDu⟩, hc, Sa, sh, k, z % cnt sh k, rfl, sm _ _ hSa3, hok, hk, hk0, fun H'' s'' => ⟨_, s'' _ _ hDu, few (by omega), .upd_over gD (sm.trans s'') _, ?_⟩⟩
      rw [upd_same, drawn_snoc hz, if_pos c1, List.map_append]
      rfl
    · refine ⟨sm, ?_⟩
      rw [hDu, drawn_snoc hz, if_neg c1, List.append_nil]
  · rintro c σ H4 ⟨rfl, ⟨o10, rfl⟩, sm, hDu⟩
    rw [List.length_map, List.take_length] at hDu
    have hN4 := sm _ _ hNn
    have hS4 : AtSh H4 Sa sh := sm _ _ hSa3
    have hdl : ((drawn base (cnt sh k) zs).map (val sh k)).length ≤ 200 := by
      rw [List.length_map]
      exact Nat.le_trans (drawn_len _ _ _) hzl
    have his : ∀ x ∈ (drawn base (cnt sh k) zs).map (val sh k), IntStr x := fun x hx => by
      obtain ⟨n, _, rfl⟩ := List.mem_map.mp hx
      cases sh with
      | w lo span => exact .inl ⟨_, rfl⟩
      | t sg => exact .inr ⟨_, rfl⟩
    walk_at "rd"
    refine ⟨_, .inl (SqL.of hN4), fun Hd gH => ?_⟩
    have wH := Same.upd_new gH (.lst (zs.map V.int))
    refine ⟨Sa, Hd, .ref B, sh, k, base, zs, rfl, wH _ _ hS4, hok, hk, SqL.of upd_same, by omega, fun _ Fd H5 s5 gF hFd => ?_, fun z => absurd z (by omega)⟩
    have w5 := wH.trans s5
    refine ⟨Fd, Du, _, rfl, hFd, w5 _ _ hDu, by omega, his, fun H6 s6 => ⟨true, rfl, iteN (by decide) ?_⟩⟩
    have w6 := w5.trans s6
    have hH6 : H6 Hd = some (.lst (zs.map V.int)) := (s5.trans s6) _ _ upd_same
    have hF6 := s6 _ _ hFd
    have dH : Den g.K H6 (.ref Hd) (.list (zs.map PyData.int)) := .lst (SqL.of hH6) (Dens.ints zs)
    have dN : Den g.K H6 (.ref c) (.list (zs.map PyData.int)) := .lst (SqL.of (w6 _ _ hN4)) (Dens.ints zs)
    refine ⟨_, dH, _, dN, depth_ints zs, ?_⟩
    rw [PySem.SeqAt.eqv_refl _ dH.lay]
    refine iteN (by decide) ?_
    have gF4 : H4 Fd = none := wH.free gF
    have nHF : Hd ≠ Fd := fun z => by rw [← z, upd_same] at gF; cases gF
    have e6 : upd H6 Fd (.lst ((drawn base (cnt sh k) zs).map (val sh k) ++ [V.int 0])) Hd = some (.lst (zs.map V.int)) := (upd_ne nHF).trans hH6
    refine ⟨.inl ⟨rfl, _, SqL.of hF6⟩, Fd, rfl, _, hF6, few (by omega), .inl ⟨rfl, _, SqL.of e6⟩, _, e6, by rw [List.length_map]; exact few (by omega), few (by decide), fun p hp => ?_⟩
    have w7 : Same H4 (upd (upd H6 Fd (.lst ((drawn base (cnt sh k) zs).map (val sh k) ++ [V.int 0]))) Hd (.lst (zs.map V.int ++ [V.int 0]))) := .upd_over gH (.upd_over gF4 w6 _) _
    have wp := w7.trans (.upd_new hp (.lst []))
    refine ⟨Sa, p, .ref B, sh, k, base, [], rfl, wp _ _ hS4, hok, hk, SqL.of upd_same, by simp, fun _ R H8 s8 gR hR => ⟨few (by decide), fun p2 hp2 => ?_⟩, fun z => absurd z (by omega)⟩
    have w2 := Same.upd_new hp2 (.lst [])
    have dR : Den g.K (upd H8 p2 (.lst [])) (.ref R) (.list []) := .lst (SqL.of (w2 _ _ hR)) .nil
    refine ⟨_, dR, _, .lst (SqL.of upd_same) .nil, by simp [PyData.depth, PyData.depthAll], ?_⟩
    rw [PySem.SeqAt.eqv_refl _ dR.lay]
    refine iteN (by decide) ?_
    have w9 := (wp.trans s8).trans w2
    exact ⟨Sa, c, .ref B, sh, k, base, zs, rfl, w9 _ _ hS4, hok, hk, SqL.of (w9 _ _ hN4), by omega, fun _ R2 H10 s10 gR2 hR2 => ⟨R2, Du, _, rfl, hR2, (w9.trans s10) _ _ hDu, by omega, his, fun H11 _ => q H11⟩, fun z => absurd z (by omega)⟩
end KW
set_option maxHeartbeats 8000000
namespace KW
open PySem L2

variable {g : Gx}
variable {m : Nat}
local macro_rules | `(tactic| walk_at "gn") => `(tactic| simp only [gName, List.set_cons_zero, List.set_cons_succ])

local macro_rules | `(tactic| walk_at "rd") => `(tactic| simp (config := { failIfUnchanged := false, maxSteps := 10000000 }) only [L2.start, cxOf_K, nox_K, List.map_cons, List.map_nil, List.length_cons, List.length_nil, List.cons_append, List.nil_append, List.replicate_succ, List.replicate_zero, Nat.zero_add, Nat.reduceAdd, Nat.reduceSub, Nat.sub_self, tSeq, tIfS, tTest, tOp, tC, tVar, rI0, rI, rU, tUn, tRet, tRetN, tDrop, tNext, tBreak, tCont, tAsg, gName, gNil, gCons, tCons, tNil, tCB, tCall, tTry, tTryAs, tRaise, sFld, tFld, tMake, tMeth, Ends.gone, caught_K, tB, tAnd, tOr, tNot, tAndV, tOrV, tNotV, tIf, tChain, tNoPart, tPart, tSl, tNever, tAug, rIxL, rIxT, rSlL, tLst, tTup, gTup, tRev, tLZ, tConT, tDict0, tDNewT, tDGet, sDPut, rNotInD, rInD, tEither, tSlStep, rBits, rFind, rIn, tBM, tBM0, rAppend, rReverse, rEq, rNe, scal_ii, scal_ss, rCat, rSetL, gSub, ipI, capSt, List.getD_cons_zero, List.getD_cons_succ, decide_true, not_true_eq_false, not_false_eq_true,
  exists_eq_left', exists_eq_left, exists_eq', exists_eq, exists_and_left, and_assoc, Option.some.injEq, V.int.injEq, V.bl.injEq, V.ref.injEq, V.str.injEq, List.getElem?_cons_zero, List.getElem?_cons_succ, List.set_cons_zero, List.set_cons_succ, List.cons.injEq, and_true, true_and, List.append_nil, decide_eq_true_eq, Bool.not_eq_true', decide_eq_false_iff_not, Bool.not_not, Bool.not_true, Bool.not_false, Bool.true_eq_false, Bool.false_eq_true, if_true, if_false, ite_true, ite_false])

structure Top (K : PySem.W.Frag) (mg : Str → Option Value) (C_CountError : Addr) (C_NoDraw : Addr) (C_NoNumber : Addr) (C_TooMany : Addr) (C_Lister : Addr) (C_TextMaker : Addr) (C_WholeMaker : Addr) : Prop where
  f_law_cell_at : ∀ P w base, (Gx.mk P w K mg base).Raw "_law_cell_at" "_law_cell_at" s_law_cell_at ["_law_script", "_law_k"]
  f_Maker___init__ : ∀ P w base, (Gx.mk P w K mg base).RawC "Maker" "__init__" "Maker.__init__" s_Maker___init__ ["self"]
  f_WholeMaker___init__ : ∀ P w base, (Gx.mk P w K mg base).RawI "WholeMaker" C_WholeMaker "WholeMaker.__init__" s_WholeMaker___init__ ["self", "low", "high"]
  f_TextMaker___init__ : ∀ P w base, (Gx.mk P w K mg base).RawI "TextMaker" C_TextMaker "TextMaker.__init__" s_TextMaker___init__ ["self", "signs"]
  f_least_distance : ∀ P w base, (Gx.mk P w K mg base).Raw "least_distance" "least_distance" s_least_distance ["size"]
  f_WholeMaker_reckoned : ∀ P w base, (Gx.mk P w K mg base).RawM C_WholeMaker "reckoned" "WholeMaker.reckoned" s_WholeMaker_reckoned ["self", "size"]
  f_WholeMaker_count_at : ∀ P w base, (Gx.mk P w K mg base).RawM C_WholeMaker "count_at" "Maker.count_at" s_WholeMaker_count_at ["self", "size"]
  f_TextMaker_reckoned : ∀ P w base, (Gx.mk P w K mg base).RawM C_TextMaker "reckoned" "TextMaker.reckoned" s_TextMaker_reckoned ["self", "size"]
  f_TextMaker_count_at : ∀ P w base, (Gx.mk P w K mg base).RawM C_TextMaker "count_at" "Maker.count_at" s_TextMaker_count_at ["self", "size"]
  f_Lister___init__ : ∀ P w base, (Gx.mk P w K mg base).RawI "Lister" C_Lister "Lister.__init__" s_Lister___init__ ["self", "book"]
  f_Lister_new_maker : ∀ P w base, (Gx.mk P w K mg base).RawM C_Lister "new_maker" "Lister.new_maker" s_Lister_new_maker ["self", "shape"]
  f_Lister_maker_of : ∀ P w base, (Gx.mk P w K mg base).RawM C_Lister "maker_of" "Lister.maker_of" s_Lister_maker_of ["self", "shape"]
  f_maker_for : ∀ P w base, (Gx.mk P w K mg base).Raw "maker_for" "maker_for" s_maker_for ["book", "shape"]
  f_WholeMaker_value_at : ∀ P w base, (Gx.mk P w K mg base).RawM C_WholeMaker "value_at" "WholeMaker.value_at" s_WholeMaker_value_at ["self", "size", "number"]
  f_TextMaker_value_at : ∀ P w base, (Gx.mk P w K mg base).RawM C_TextMaker "value_at" "TextMaker.value_at" s_TextMaker_value_at ["self", "size", "number"]
  f_edge_of : ∀ P w base, (Gx.mk P w K mg base).Raw "edge_of" "edge_of" s_edge_of ["base", "count"]
  f_all_fair : ∀ P w base, (Gx.mk P w K mg base).Raw "all_fair" "all_fair" s_all_fair ["numbers", "base", "count"]
  f_drawn_values : ∀ P w base, (Gx.mk P w K mg base).Raw "drawn_values" "drawn_values" s_drawn_values ["book", "shape", "size", "numbers", "base"]
  f_law_refused : ∀ P w base, (Gx.mk P w K mg base).Raw "_law_refused" "_law_refused" s_law_refused ["_law_book", "_law_shape", "_law_size", "_law_numbers", "_law_base"]
  f_law_alike : ∀ P w base, (Gx.mk P w K mg base).Raw "_law_alike" "_law_alike" s_law_alike ["_law_found", "_law_due"]
  f_law_signs : ∀ P w base, (Gx.mk P w K mg base).Raw "_law_signs" "_law_signs" s_law_signs ["_law_cell", "_law_many"]
  f_law_count : ∀ P w base, (Gx.mk P w K mg base).Raw "_law_count" "_law_count" s_law_count ["_law_shape", "_law_size"]
  f_law_value : ∀ P w base, (Gx.mk P w K mg base).Raw "_law_value" "_law_value" s_law_value ["_law_shape", "_law_size", "_law_number"]
  cl_Lister : Cls K C_Lister
  n_Lister_book : NoAttr K C_Lister "book"
  n_Lister_makers : NoAttr K C_Lister "makers"
  cl_TextMaker : Cls K C_TextMaker
  n_TextMaker_counts : NoAttr K C_TextMaker "counts"
  n_TextMaker_signs : NoAttr K C_TextMaker "signs"
  cl_WholeMaker : Cls K C_WholeMaker
  n_WholeMaker_counts : NoAttr K C_WholeMaker "counts"
  n_WholeMaker_low : NoAttr K C_WholeMaker "low"
  n_WholeMaker_span : NoAttr K C_WholeMaker "span"
  b_ValueError : mg "ValueError" = none
  b_bool : mg "bool" = none
  b_divmod : mg "divmod" = none
  b_int : mg "int" = none
  b_isinstance : mg "isinstance" = none
  b_len : mg "len" = none
  b_list : mg "list" = none
  b_max : mg "max" = none
  b_min : mg "min" = none
  b_range : mg "range" = none
  b_str : mg "str" = none
  b_zip : mg "zip" = none
  x_CountError : mg "CountError" = some (.ref C_CountError)
  x_NoDraw : mg "NoDraw" = some (.ref C_NoDraw)
  x_NoNumber : mg "NoNumber" = some (.ref C_NoNumber)
  x_TooMany : mg "TooMany" = some (.ref C_TooMany)
  r_NoDraw : PySem.W.excIn K C_NoDraw veLine "ValueError.__new__" = true
  t_NoDraw : ExcT K C_NoDraw
  i_NoDraw_CountError : PySem.W.kitOne K (.ref C_NoDraw) (.ref C_CountError) = some true
  i_NoDraw_NoNumber : PySem.W.kitOne K (.ref C_NoDraw) (.ref C_NoNumber) = some false
  i_NoDraw_TooMany : PySem.W.kitOne K (.ref C_NoDraw) (.ref C_TooMany) = some false
  i_NoDraw_ValueError : PySem.W.kitOne K (.ref C_NoDraw) (.type "ValueError") = some true
  m_NoDraw_NoDraw : PySem.W.exmOne K (.ref C_NoDraw) (.ref C_NoDraw) = some true
theorem law_body {K : PySem.W.Frag} {mg : Str → Option Value} {C_CountError : Addr} {C_NoDraw : Addr} {C_NoNumber : Addr} {C_TooMany : Addr} {C_Lister : Addr} {C_TextMaker : Addr} {C_WholeMaker : Addr}  (t : Top K mg C_CountError C_NoDraw C_NoNumber C_TooMany C_Lister C_TextMaker C_WholeMaker) (P : Program) (w : World) (base : Heap) :
    Body (Gx.mk P w K mg base) 8 ["_law_script", "_law_low", "_law_shape", "_law_size", "_law_book", "_law_count_here", "_law_base", "_law_first", "_law_numbers", "_law_due", "_law_number", "_law_handed", "_law_found"] "law" s_law (spTrue K) := by
  have G_law_cell_at := ok_law_cell_at (g := Gx.mk P w K mg base) (C_CountError := C_CountError) (C_NoDraw := C_NoDraw) (C_NoNumber := C_NoNumber) (C_TooMany := C_TooMany) (C_Lister := C_Lister) (C_TextMaker := C_TextMaker) (C_WholeMaker := C_WholeMaker) (t.f_law_cell_at P w base) t.b_len
  have G_Maker___init__ := ok_Maker___init__ (g := Gx.mk P w K mg base) (C_CountError := C_CountError) (C_NoDraw := C_NoDraw) (C_NoNumber := C_NoNumber) (C_TooMany := C_TooMany) (C_Lister := C_Lister) (C_TextMaker := C_TextMaker) (C_WholeMaker := C_WholeMaker) (t.f_Maker___init__ P w base) t.cl_TextMaker t.n_TextMaker_counts t.n_TextMaker_signs t.cl_WholeMaker t.n_WholeMaker_counts t.n_WholeMaker_low t.n_WholeMaker_span
  have G_WholeMaker___init__ := ok_WholeMaker___init__ (g := Gx.mk P w K mg base) (k := 1) (C_CountError := C_CountError) (C_NoDraw := C_NoDraw) (C_NoNumber := C_NoNumber) (C_TooMany := C_TooMany) (C_Lister := C_Lister) (C_TextMaker := C_TextMaker) (C_WholeMaker := C_WholeMaker) (t.f_WholeMaker___init__ P w base) (G_Maker___init__.mono (by decide)) t.cl_WholeMaker t.n_WholeMaker_counts t.n_WholeMaker_low t.n_WholeMaker_span
  have G_TextMaker___init__ := ok_TextMaker___init__ (g := Gx.mk P w K mg base) (k := 1) (C_CountError := C_CountError) (C_NoDraw := C_NoDraw) (C_NoNumber := C_NoNumber) (C_TooMany := C_TooMany) (C_Lister := C_Lister) (C_TextMaker := C_TextMaker) (C_WholeMaker := C_WholeMaker) (t.f_TextMaker___init__ P w base) (G_Maker___init__.mono (by decide)) t.cl_TextMaker t.n_TextMaker_counts t.n_TextMaker_signs
  have G_least_distance := ok_least_distance (g := Gx.mk P w K mg base) (C_CountError := C_CountError) (C_NoDraw := C_NoDraw) (C_NoNumber := C_NoNumber) (C_TooMany := C_TooMany) (C_Lister := C_Lister) (C_TextMaker := C_TextMaker) (C_WholeMaker := C_WholeMaker) (t.f_least_distance P w base) 
  have G_WholeMaker_reckoned := ok_WholeMaker_reckoned (g := Gx.mk P w K mg base) (k := 1) (C_CountError := C_CountError) (C_NoDraw := C_NoDraw) (C_NoNumber := C_NoNumber) (C_TooMany := C_TooMany) (C_Lister := C_Lister) (C_TextMaker := C_TextMaker) (C_WholeMaker := C_WholeMaker) (t.f_WholeMaker_reckoned P w base) (G_least_distance.mono (by decide)) t.b_max t.b_min t.cl_WholeMaker t.n_WholeMaker_counts t.n_WholeMaker_low t.n_WholeMaker_span
  have G_WholeMaker_count_at := ok_WholeMaker_count_at (g := Gx.mk P w K mg base) (k := 2) (C_CountError := C_CountError) (C_NoDraw := C_NoDraw) (C_NoNumber := C_NoNumber) (C_TooMany := C_TooMany) (C_Lister := C_Lister) (C_TextMaker := C_TextMaker) (C_WholeMaker := C_WholeMaker) (t.f_WholeMaker_count_at P w base) (G_WholeMaker_reckoned.mono (by decide)) t.b_len t.cl_WholeMaker t.n_WholeMaker_counts t.n_WholeMaker_low t.n_WholeMaker_span
  have G_TextMaker_reckoned_1 := ok_TextMaker_reckoned (g := Gx.mk P w K mg base) (m := 0) (k := 0) (C_CountError := C_CountError) (C_NoDraw := C_NoDraw) (C_NoNumber := C_NoNumber) (C_TooMany := C_TooMany) (C_Lister := C_Lister) (C_TextMaker := C_TextMaker) (C_WholeMaker := C_WholeMaker) (t.f_TextMaker_reckoned P w base) ((t.f_TextMaker_count_at P w base).none (fun _ _ _ _ h => no_Tcount h)) t.b_len t.cl_TextMaker t.n_TextMaker_counts t.n_TextMaker_signs
  have G_TextMaker_count_at_1 := ok_TextMaker_count_at (g := Gx.mk P w K mg base) (m := 0) (k := 0) (C_CountError := C_CountError) (C_NoDraw := C_NoDraw) (C_NoNumber := C_NoNumber) (C_TooMany := C_TooMany) (C_Lister := C_Lister) (C_TextMaker := C_TextMaker) (C_WholeMaker := C_WholeMaker) (t.f_TextMaker_count_at P w base) ((t.f_TextMaker_reckoned P w base).none (fun _ _ _ _ h => no_Treck h)) t.b_len t.cl_TextMaker t.n_TextMaker_counts t.n_TextMaker_signs
  have G_TextMaker_reckoned_2 := ok_TextMaker_reckoned (g := Gx.mk P w K mg base) (m := 1) (k := 1) (C_CountError := C_CountError) (C_NoDraw := C_NoDraw) (C_NoNumber := C_NoNumber) (C_TooMany := C_TooMany) (C_Lister := C_Lister) (C_TextMaker := C_TextMaker) (C_WholeMaker := C_WholeMaker) (t.f_TextMaker_reckoned P w base) (G_TextMaker_count_at_1.mono (by decide)) t.b_len t.cl_TextMaker t.n_TextMaker_counts t.n_TextMaker_signs
  have G_TextMaker_count_at_2 := ok_TextMaker_count_at (g := Gx.mk P w K mg base) (m := 1) (k := 1) (C_CountError := C_CountError) (C_NoDraw := C_NoDraw) (C_NoNumber := C_NoNumber) (C_TooMany := C_TooMany) (C_Lister := C_Lister) (C_TextMaker := C_TextMaker) (C_WholeMaker := C_WholeMaker) (t.f_TextMaker_count_at P w base) (G_TextMaker_reckoned_1.mono (by decide)) t.b_len t.cl_TextMaker t.n_TextMaker_counts t.n_TextMaker_signs
  have G_TextMaker_reckoned := ok_TextMaker_reckoned (g := Gx.mk P w K mg base) (m := 2) (k := 2) (C_CountError := C_CountError) (C_NoDraw := C_NoDraw) (C_NoNumber := C_NoNumber) (C_TooMany := C_TooMany) (C_Lister := C_Lister) (C_TextMaker := C_TextMaker) (C_WholeMaker := C_WholeMaker) (t.f_TextMaker_reckoned P w base) (G_TextMaker_count_at_2.mono (by decide)) t.b_len t.cl_TextMaker t.n_TextMaker_counts t.n_TextMaker_signs
  have G_TextMaker_count_at := ok_TextMaker_count_at (g := Gx.mk P w K mg base) (m := 2) (k := 2) (C_CountError := C_CountError) (C_NoDraw := C_NoDraw) (C_NoNumber := C_NoNumber) (C_TooMany := C_TooMany) (C_Lister := C_Lister) (C_TextMaker := C_TextMaker) (C_WholeMaker := C_WholeMaker) (t.f_TextMaker_count_at P w base) (G_TextMaker_reckoned_2.mono (by decide)) t.b_len t.cl_TextMaker t.n_TextMaker_counts t.n_TextMaker_signs
  have G_Lister___init__ := ok_Lister___init__ (g := Gx.mk P w K mg base) (C_CountError := C_CountError) (C_NoDraw := C_NoDraw) (C_NoNumber := C_NoNumber) (C_TooMany := C_TooMany) (C_Lister := C_Lister) (C_TextMaker := C_TextMaker) (C_WholeMaker := C_WholeMaker) (t.f_Lister___init__ P w base) t.cl_Lister t.n_Lister_book t.n_Lister_makers
  have G_Lister_new_maker := ok_Lister_new_maker (g := Gx.mk P w K mg base) (k := 3) (C_CountError := C_CountError) (C_NoDraw := C_NoDraw) (C_NoNumber := C_NoNumber) (C_TooMany := C_TooMany) (C_Lister := C_Lister) (C_TextMaker := C_TextMaker) (C_WholeMaker := C_WholeMaker) (t.f_Lister_new_maker P w base) G_WholeMaker___init__ (by decide) G_TextMaker___init__ (by decide)
  have G_Lister_maker_of := ok_Lister_maker_of (g := Gx.mk P w K mg base) (k := 4) (C_CountError := C_CountError) (C_NoDraw := C_NoDraw) (C_NoNumber := C_NoNumber) (C_TooMany := C_TooMany) (C_Lister := C_Lister) (C_TextMaker := C_TextMaker) (C_WholeMaker := C_WholeMaker) (t.f_Lister_maker_of P w base) (G_Lister_new_maker.mono (by decide)) t.cl_Lister t.n_Lister_book t.n_Lister_makers
  have G_maker_for := ok_maker_for (g := Gx.mk P w K mg base) (k := 5) (C_CountError := C_CountError) (C_NoDraw := C_NoDraw) (C_NoNumber := C_NoNumber) (C_TooMany := C_TooMany) (C_Lister := C_Lister) (C_TextMaker := C_TextMaker) (C_WholeMaker := C_WholeMaker) (t.f_maker_for P w base) G_Lister___init__ (by decide) (G_Lister_maker_of.mono (by decide)) t.cl_Lister t.n_Lister_book t.n_Lister_makers
  have G_WholeMaker_value_at := ok_WholeMaker_value_at (g := Gx.mk P w K mg base) (k := 1) (C_CountError := C_CountError) (C_NoDraw := C_NoDraw) (C_NoNumber := C_NoNumber) (C_TooMany := C_TooMany) (C_Lister := C_Lister) (C_TextMaker := C_TextMaker) (C_WholeMaker := C_WholeMaker) (t.f_WholeMaker_value_at P w base) (G_least_distance.mono (by decide)) t.cl_WholeMaker t.n_WholeMaker_counts t.n_WholeMaker_low t.n_WholeMaker_span
  have G_TextMaker_value_at := ok_TextMaker_value_at (g := Gx.mk P w K mg base) (C_CountError := C_CountError) (C_NoDraw := C_NoDraw) (C_NoNumber := C_NoNumber) (C_TooMany := C_TooMany) (C_Lister := C_Lister) (C_TextMaker := C_TextMaker) (C_WholeMaker := C_WholeMaker) (t.f_TextMaker_value_at P w base) t.b_len t.b_range t.cl_TextMaker t.n_TextMaker_counts t.n_TextMaker_signs
  have G_edge_of := ok_edge_of (g := Gx.mk P w K mg base) (C_CountError := C_CountError) (C_NoDraw := C_NoDraw) (C_NoNumber := C_NoNumber) (C_TooMany := C_TooMany) (C_Lister := C_Lister) (C_TextMaker := C_TextMaker) (C_WholeMaker := C_WholeMaker) (t.f_edge_of P w base) t.x_NoDraw t.r_NoDraw
  have G_all_fair := ok_all_fair (g := Gx.mk P w K mg base) (k := 1) (C_CountError := C_CountError) (C_NoDraw := C_NoDraw) (C_NoNumber := C_NoNumber) (C_TooMany := C_TooMany) (C_Lister := C_Lister) (C_TextMaker := C_TextMaker) (C_WholeMaker := C_WholeMaker) (t.f_all_fair P w base) (G_edge_of.mono (by decide))
  have G_drawn_values := ok_drawn_values (g := Gx.mk P w K mg base) (k := 6) (C_CountError := C_CountError) (C_NoDraw := C_NoDraw) (C_NoNumber := C_NoNumber) (C_TooMany := C_TooMany) (C_Lister := C_Lister) (C_TextMaker := C_TextMaker) (C_WholeMaker := C_WholeMaker) (t.f_drawn_values P w base) (G_all_fair.mono (by decide)) (G_maker_for.mono (by decide)) (G_WholeMaker_value_at.mono (by decide)) (G_TextMaker_value_at.mono (by decide)) (G_WholeMaker_count_at.mono (by decide)) (G_TextMaker_count_at.mono (by decide)) t.cl_TextMaker t.n_TextMaker_counts t.n_TextMaker_signs t.cl_WholeMaker t.n_WholeMaker_counts t.n_WholeMaker_low t.n_WholeMaker_span
  have G_law_refused := ok_law_refused (g := Gx.mk P w K mg base) (k := 7) (C_CountError := C_CountError) (C_NoDraw := C_NoDraw) (C_NoNumber := C_NoNumber) (C_TooMany := C_TooMany) (C_Lister := C_Lister) (C_TextMaker := C_TextMaker) (C_WholeMaker := C_WholeMaker) (t.f_law_refused P w base) (G_drawn_values.mono (by decide)) t.b_ValueError t.b_isinstance t.x_CountError t.x_NoDraw t.x_NoNumber t.x_TooMany t.t_NoDraw t.i_NoDraw_NoNumber t.i_NoDraw_TooMany t.i_NoDraw_CountError t.i_NoDraw_ValueError t.m_NoDraw_NoDraw
  have G_law_alike := ok_law_alike (g := Gx.mk P w K mg base) (C_CountError := C_CountError) (C_NoDraw := C_NoDraw) (C_NoNumber := C_NoNumber) (C_TooMany := C_TooMany) (C_Lister := C_Lister) (C_TextMaker := C_TextMaker) (C_WholeMaker := C_WholeMaker) (t.f_law_alike P w base) t.b_bool t.b_int t.b_isinstance t.b_len t.b_list t.b_str t.b_zip
  have G_law_signs := ok_law_signs (g := Gx.mk P w K mg base) (C_CountError := C_CountError) (C_NoDraw := C_NoDraw) (C_NoNumber := C_NoNumber) (C_TooMany := C_TooMany) (C_Lister := C_Lister) (C_TextMaker := C_TextMaker) (C_WholeMaker := C_WholeMaker) (t.f_law_signs P w base) t.b_range
  have G_law_count := ok_law_count (g := Gx.mk P w K mg base) (C_CountError := C_CountError) (C_NoDraw := C_NoDraw) (C_NoNumber := C_NoNumber) (C_TooMany := C_TooMany) (C_Lister := C_Lister) (C_TextMaker := C_TextMaker) (C_WholeMaker := C_WholeMaker) (t.f_law_count P w base) t.b_len t.b_max t.b_min t.b_range
  have G_law_value := ok_law_value (g := Gx.mk P w K mg base) (C_CountError := C_CountError) (C_NoDraw := C_NoDraw) (C_NoNumber := C_NoNumber) (C_TooMany := C_TooMany) (C_Lister := C_Lister) (C_TextMaker := C_TextMaker) (C_WholeMaker := C_WholeMaker) (t.f_law_value P w base) t.b_divmod t.b_len t.b_range
  exact body_law (g := Gx.mk P w K mg base) (k := 8) (C_CountError := C_CountError) (C_NoDraw := C_NoDraw) (C_NoNumber := C_NoNumber) (C_TooMany := C_TooMany) (C_Lister := C_Lister) (C_TextMaker := C_TextMaker) (C_WholeMaker := C_WholeMaker) (G_drawn_values.mono (by decide)) (G_law_cell_at.mono (by decide)) (G_law_signs.mono (by decide)) (G_law_count.mono (by decide)) (G_law_value.mono (by decide)) (G_law_refused.mono (by decide)) (G_law_alike.mono (by decide)) t.b_list t.b_range
end KW
def PySem.W.Fast.tw2024268417578144512 : Nat := 0
def PySem.W.Fast.tw10101798072350230584 : Nat := 0
def PySem.W.Fast.tw1254735259534140970 : Nat := 0
def PySem.W.Fast.tw12299200879930029101 : Nat := 0
def PySem.W.Fast.tw12709019654953646159 : Nat := 0
def PySem.W.Fast.tw1240321452649500707 : Nat := 0
def PySem.W.Fast.tw1454274153175916795 : Nat := 0
def PySem.W.Fast.tw18378801413774589964 : Nat := 0
def PySem.W.Fast.tw6881208291172127900 : Nat := 0
def PySem.W.Fast.tw12992040945021783165 : Nat := 0
def PySem.W.Fast.tw7461817210419769145 : Nat := 0
def PySem.W.Fast.tw11846292714053368134 : Nat := 0
def PySem.W.Fast.tw17670484430579245545 : Nat := 0
def PySem.W.Fast.tw8659324953056977454 : Nat := 0
def PySem.W.Fast.tw4240960232515973328 : Nat := 0
def PySem.W.Fast.tw12192431600069268685 : Nat := 0
def PySem.W.Fast.tw3610007134959188868 : Nat := 0
def PySem.W.Fast.tw14977282598360470005 : Nat := 0
def PySem.W.Fast.tw3938809132223875297 : Nat := 0
def PySem.W.Fast.tw10167177522975115073 : Nat := 0
def PySem.W.Fast.tw5989741976288758201 : Nat := 0
def PySem.W.Fast.tw17742456594593474564 : Nat := 0
def PySem.W.Fast.tw12658367768547313338 : Nat := 0
def PySem.W.Fast.tw2713501017171252381 : Nat := 0
def PySem.W.Fast.tw1530314495646209543 : Nat := 0
def PySem.W.Fast.tw7941181062612708137 : Nat := 0
def PySem.W.Fast.tw8776049449246644238 : Nat := 0
def PySem.W.Fast.tw8185203191605546451 : Nat := 0
def PySem.W.Fast.tw9681284489808248681 : Nat := 0
def PySem.W.Fast.tw17799282570898336251 : Nat := 0
def PySem.W.Fast.tw14104594614847827902 : Nat := 0
def PySem.W.Fast.tw12851243870140671114 : Nat := 0
def PySem.W.Fast.tw13927158628258941486 : Nat := 0
def PySem.W.Fast.tw16580705354959473867 : Nat := 0
def PySem.W.Fast.tw45960544273708066 : Nat := 0
def PySem.W.Fast.tw16336663812495079298 : Nat := 0
def PySem.W.Fast.tw8233387421485234064 : Nat := 0
def PySem.W.Fast.tw18331001055311428340 : Nat := 0
def PySem.W.Fast.tw5734947694283689193 : Nat := 0
def PySem.W.Fast.tw7450695164889202296 : Nat := 0
def PySem.W.Fast.tw12302622691320676115 : Nat := 0
def PySem.W.Fast.tw10777629271708839209 : Nat := 0
def PySem.W.Fast.tw12085431663878362501 : Nat := 0
def PySem.W.Fast.tw4709112923297726553 : Nat := 0
open PySem PySem.W PyProof.Rows
set_option maxRecDepth 100000 in
set_option maxHeartbeats 0 in
theorem PySem.Challenge.cw_countgen_k62_drawn_values_holds : PySem.Challenge.rw_countgen_k62_drawn_values.Holds := by
  w_on; o_law; k_head; (case hw => w_witness2)
  k_fill
  refine L2.walk_gx (l := PySem.Challenge.rw_countgen_k62_drawn_values) 8 "_law_script" KW.s_law ["_law_script", "_law_low", "_law_shape", "_law_size", "_law_book", "_law_count_here", "_law_base", "_law_first", "_law_numbers", "_law_due", "_law_number", "_law_handed", "_law_found"] rfl rfl ⟨rfl, by decide, by decide⟩ KW.sc_law (fun w h Y => by first | exact PySem.W.kIn_of Y | exact PySem.W.km_in_of Y) ?F
  case F =>
    intro w mg h KX G
    refine' ⟨L2.lawRaw_mk KX G ?a ?l ?c ?k (fun _ _ _ _ _ _ _ _ => .of_eq rfl), fun base => KW.law_body ⟨?f_law_cell_at, ?f_Maker___init__, ?f_WholeMaker___init__, ?f_TextMaker___init__, ?f_least_distance, ?f_WholeMaker_reckoned, ?f_WholeMaker_count_at, ?f_TextMaker_reckoned, ?f_TextMaker_count_at, ?f_Lister___init__, ?f_Lister_new_maker, ?f_Lister_maker_of, ?f_maker_for, ?f_WholeMaker_value_at, ?f_TextMaker_value_at, ?f_edge_of, ?f_all_fair, ?f_drawn_values, ?f_law_refused, ?f_law_alike, ?f_law_signs, ?f_law_count, ?f_law_value, ?cl_Lister, ?n_Lister_book, ?n_Lister_makers, ?cl_TextMaker, ?n_TextMaker_counts, ?n_TextMaker_signs, ?cl_WholeMaker, ?n_WholeMaker_counts, ?n_WholeMaker_low, ?n_WholeMaker_span, ?b_ValueError, ?b_bool, ?b_divmod, ?b_int, ?b_isinstance, ?b_len, ?b_list, ?b_max, ?b_min, ?b_range, ?b_str, ?b_zip, ?x_CountError, ?x_NoDraw, ?x_NoNumber, ?x_TooMany, ?r_NoDraw, ?t_NoDraw, ?i_NoDraw_CountError, ?i_NoDraw_NoNumber, ?i_NoDraw_TooMany, ?i_NoDraw_ValueError, ?m_NoDraw_NoDraw⟩ _ w base⟩
    (case a => k_is)
    (case l => k_is)
    (case c => k_is)
    (case k => k_is)
    case f_WholeMaker___init__ =>
      refine' L2.rawI_mk KX G ["self", "low", "high"] ?aC ?mk ?kc ?a ?i ?l ?c ?k (fun _ _ _ _ _ _ us hl => match us, hl with | [_, _, _], _ => rfl)
      (case aC => k_is)
      (case mk => k_is)
      (case kc => k_is)
      (case a => k_is)
      (case i => k_is)
      (case l => k_is)
      (case c => k_is)
      (case k => k_is)
    case f_TextMaker___init__ =>
      refine' L2.rawI_mk KX G ["self", "signs"] ?aC ?mk ?kc ?a ?i ?l ?c ?k (fun _ _ _ _ _ _ us hl => match us, hl with | [_, _], _ => rfl)
      (case aC => k_is)
      (case mk => k_is)
      (case kc => k_is)
      (case a => k_is)
      (case i => k_is)
      (case l => k_is)
      (case c => k_is)
      (case k => k_is)
    case f_Lister___init__ =>
      refine' L2.rawI_mk KX G ["self", "book"] ?aC ?mk ?kc ?a ?i ?l ?c ?k (fun _ _ _ _ _ _ us hl => match us, hl with | [_, _], _ => rfl)
      (case aC => k_is)
      (case mk => k_is)
      (case kc => k_is)
      (case a => k_is)
      (case i => k_is)
      (case l => k_is)
      (case c => k_is)
      (case k => k_is)
    case f_law_cell_at =>
      refine' L2.raw_mk KX G ["_law_script", "_law_k"] ?a ?l ?c ?k (fun _ _ _ _ _ _ us hl => match us, hl with | [_, _], _ => rfl)
      (case a => k_is)
      (case l => k_is)
      (case c => k_is)
      (case k => k_is)
    case f_Maker___init__ =>
      refine' L2.rawC_mk KX G ["self"] ?aB ?ga ?rd ?a ?l ?c ?k (fun _ _ _ _ _ _ us hl => match us, hl with | [_], _ => rfl)
      (case aB => k_is)
      (case ga => k_is)
      (case rd => k_is)
      (case a => k_is)
      (case l => k_is)
      (case c => k_is)
      (case k => k_is)
    case f_least_distance =>
      refine' L2.raw_mk KX G ["size"] ?a ?l ?c ?k (fun _ _ _ _ _ _ us hl => match us, hl with | [_], _ => rfl)
      (case a => k_is)
      (case l => k_is)
      (case c => k_is)
      (case k => k_is)
    case f_WholeMaker_reckoned =>
      refine' L2.rawM_mk KX G ["self", "size"] ?a ?i ?l ?c ?k (fun _ _ _ _ _ _ us hl => match us, hl with | [_, _], _ => rfl)
      (case a => k_is)
      (case i => k_is)
      (case l => k_is)
      (case c => k_is)
      (case k => k_is)
    case f_WholeMaker_count_at =>
      refine' L2.rawM_mk KX G ["self", "size"] ?a ?i ?l ?c ?k (fun _ _ _ _ _ _ us hl => match us, hl with | [_, _], _ => rfl)
      (case a => k_is)
      (case i => k_is)
      (case l => k_is)
      (case c => k_is)
      (case k => k_is)
    case f_TextMaker_reckoned =>
      refine' L2.rawM_mk KX G ["self", "size"] ?a ?i ?l ?c ?k (fun _ _ _ _ _ _ us hl => match us, hl with | [_, _], _ => rfl)
      (case a => k_is)
      (case i => k_is)
      (case l => k_is)
      (case c => k_is)
      (case k => k_is)
    case f_TextMaker_count_at =>
      refine' L2.rawM_mk KX G ["self", "size"] ?a ?i ?l ?c ?k (fun _ _ _ _ _ _ us hl => match us, hl with | [_, _], _ => rfl)
      (case a => k_is)
      (case i => k_is)
      (case l => k_is)
      (case c => k_is)
      (case k => k_is)
    case f_Lister_new_maker =>
      refine' L2.rawM_mk KX G ["self", "shape"] ?a ?i ?l ?c ?k (fun _ _ _ _ _ _ us hl => match us, hl with | [_, _], _ => rfl)
      (case a => k_is)
      (case i => k_is)
      (case l => k_is)
      (case c => k_is)
      (case k => k_is)
    case f_Lister_maker_of =>
      refine' L2.rawM_mk KX G ["self", "shape"] ?a ?i ?l ?c ?k (fun _ _ _ _ _ _ us hl => match us, hl with | [_, _], _ => rfl)
      (case a => k_is)
      (case i => k_is)
      (case l => k_is)
      (case c => k_is)
      (case k => k_is)
    case f_maker_for =>
      refine' L2.raw_mk KX G ["book", "shape"] ?a ?l ?c ?k (fun _ _ _ _ _ _ us hl => match us, hl with | [_, _], _ => rfl)
      (case a => k_is)
      (case l => k_is)
      (case c => k_is)
      (case k => k_is)
    case f_WholeMaker_value_at =>
      refine' L2.rawM_mk KX G ["self", "size", "number"] ?a ?i ?l ?c ?k (fun _ _ _ _ _ _ us hl => match us, hl with | [_, _, _], _ => rfl)
      (case a => k_is)
      (case i => k_is)
      (case l => k_is)
      (case c => k_is)
      (case k => k_is)
    case f_TextMaker_value_at =>
      refine' L2.rawM_mk KX G ["self", "size", "number"] ?a ?i ?l ?c ?k (fun _ _ _ _ _ _ us hl => match us, hl with | [_, _, _], _ => rfl)
      (case a => k_is)
      (case i => k_is)
      (case l => k_is)
      (case c => k_is)
      (case k => k_is)
    case f_edge_of =>
      refine' L2.raw_mk KX G ["base", "count"] ?a ?l ?c ?k (fun _ _ _ _ _ _ us hl => match us, hl with | [_, _], _ => rfl)
      (case a => k_is)
      (case l => k_is)
      (case c => k_is)
      (case k => k_is)
    case f_all_fair =>
      refine' L2.raw_mk KX G ["numbers", "base", "count"] ?a ?l ?c ?k (fun _ _ _ _ _ _ us hl => match us, hl with | [_, _, _], _ => rfl)
      (case a => k_is)
      (case l => k_is)
      (case c => k_is)
      (case k => k_is)
    case f_drawn_values =>
      refine' L2.raw_mk KX G ["book", "shape", "size", "numbers", "base"] ?a ?l ?c ?k (fun _ _ _ _ _ _ us hl => match us, hl with | [_, _, _, _, _], _ => rfl)
      (case a => k_is)
      (case l => k_is)
      (case c => k_is)
      (case k => k_is)
    case f_law_refused =>
      refine' L2.raw_mk KX G ["_law_book", "_law_shape", "_law_size", "_law_numbers", "_law_base"] ?a ?l ?c ?k (fun _ _ _ _ _ _ us hl => match us, hl with | [_, _, _, _, _], _ => rfl)
      (case a => k_is)
      (case l => k_is)
      (case c => k_is)
      (case k => k_is)
    case f_law_alike =>
      refine' L2.raw_mk KX G ["_law_found", "_law_due"] ?a ?l ?c ?k (fun _ _ _ _ _ _ us hl => match us, hl with | [_, _], _ => rfl)
      (case a => k_is)
      (case l => k_is)
      (case c => k_is)
      (case k => k_is)
    case f_law_signs =>
      refine' L2.raw_mk KX G ["_law_cell", "_law_many"] ?a ?l ?c ?k (fun _ _ _ _ _ _ us hl => match us, hl with | [_, _], _ => rfl)
      (case a => k_is)
      (case l => k_is)
      (case c => k_is)
      (case k => k_is)
    case f_law_count =>
      refine' L2.raw_mk KX G ["_law_shape", "_law_size"] ?a ?l ?c ?k (fun _ _ _ _ _ _ us hl => match us, hl with | [_, _], _ => rfl)
      (case a => k_is)
      (case l => k_is)
      (case c => k_is)
      (case k => k_is)
    case f_law_value =>
      refine' L2.raw_mk KX G ["_law_shape", "_law_size", "_law_number"] ?a ?l ?c ?k (fun _ _ _ _ _ _ us hl => match us, hl with | [_, _, _], _ => rfl)
      (case a => k_is)
      (case l => k_is)
      (case c => k_is)
      (case k => k_is)
    case cl_Lister =>
      refine' ⟨?a, ?b, ?c, ?d⟩
      (case a => k_is)
      (case b => k_is)
      (case c => k_is)
      (case d => k_is)
    case n_Lister_book =>
      refine' L2.noattr_mk ?a
      (case a => k_is)
    case n_Lister_makers =>
      refine' L2.noattr_mk ?a
      (case a => k_is)
    case cl_TextMaker =>
      refine' ⟨?a, ?b, ?c, ?d⟩
      (case a => k_is)
      (case b => k_is)
      (case c => k_is)
      (case d => k_is)
    case n_TextMaker_counts =>
      refine' L2.noattr_mk ?a
      (case a => k_is)
    case n_TextMaker_signs =>
      refine' L2.noattr_mk ?a
      (case a => k_is)
    case cl_WholeMaker =>
      refine' ⟨?a, ?b, ?c, ?d⟩
      (case a => k_is)
      (case b => k_is)
      (case c => k_is)
      (case d => k_is)
    case n_WholeMaker_counts =>
      refine' L2.noattr_mk ?a
      (case a => k_is)
    case n_WholeMaker_low =>
      refine' L2.noattr_mk ?a
      (case a => k_is)
    case n_WholeMaker_span =>
      refine' L2.noattr_mk ?a
      (case a => k_is)
    case b_ValueError =>
      refine' PySem.W.mg_none_of KX G ?a
      (case a => k_is)
    case b_bool =>
      refine' PySem.W.mg_none_of KX G ?a
      (case a => k_is)
    case b_divmod =>
      refine' PySem.W.mg_none_of KX G ?a
      (case a => k_is)
    case b_int =>
      refine' PySem.W.mg_none_of KX G ?a
      (case a => k_is)
    case b_isinstance =>
      refine' PySem.W.mg_none_of KX G ?a
      (case a => k_is)
    case b_len =>
      refine' PySem.W.mg_none_of KX G ?a
      (case a => k_is)
    case b_list =>
      refine' PySem.W.mg_none_of KX G ?a
      (case a => k_is)
    case b_max =>
      refine' PySem.W.mg_none_of KX G ?a
      (case a => k_is)
    case b_min =>
      refine' PySem.W.mg_none_of KX G ?a
      (case a => k_is)
    case b_range =>
      refine' PySem.W.mg_none_of KX G ?a
      (case a => k_is)
    case b_str =>
      refine' PySem.W.mg_none_of KX G ?a
      (case a => k_is)
    case b_zip =>
      refine' PySem.W.mg_none_of KX G ?a
      (case a => k_is)
    case x_CountError =>
      refine' PySem.W.mg_of KX G ?a
      (case a => k_is)
    case x_NoDraw =>
      refine' PySem.W.mg_of KX G ?a
      (case a => k_is)
    case x_NoNumber =>
      refine' PySem.W.mg_of KX G ?a
      (case a => k_is)
    case x_TooMany =>
      refine' PySem.W.mg_of KX G ?a
      (case a => k_is)
    case r_NoDraw => k_exc
    case t_NoDraw =>
      refine' ⟨?a, ?b, ?c, ?d, ?e, ?f⟩
      (case a => k_is)
      (case b => k_is)
      (case c => k_is)
      (case d => k_is)
      (case e => k_is)
      (case f => k_is)
    case i_NoDraw_CountError => kit_is
    case i_NoDraw_NoNumber => kit_is
    case i_NoDraw_TooMany => kit_is
    case i_NoDraw_ValueError => kit_is
    case m_NoDraw_NoDraw => kts_exm
