import PyProof.Rows.All
import Wide.All
import OpenK.AllK
import Wide.FinOn
import Lean
import PyProof.EqAt
import PyProof.EqKinds
import PyProof.TupleCall
import PyProof.NeData
import KE.KTryMore
import PyProof.ExcBaseAll.ValueError
import PyProof.ExcArgsOwn
import KE.KIntText
import PyProof.Rows.SetFrom
import PyProof.SetRoads
import PyProof.StrWalks
import PyProof.ListStr
import PyProof.Rows.StrSplitCount
import PyProof.MeetsStr
import PyProof.MeetsStr2
import PyProof.StrOps2
import PySem.Challenge.RW_countgen_k82_a_deed_judge_tried
set_option Elab.async false
set_option linter.all false
set_option maxRecDepth 100000
/-! THE HAND LAYER, for ints, bools, texts, own classes, LISTS and tuples (index, slices, in, append, pop ..), calls, loops. Paste it whole ahead of your own text; what your proof does not reach may be deleted. -/
namespace L2
open PySem PySem.Spec PyProof.Rows

/-- a key: an int or a str -/
abbrev Key := Sum Int Str
def keyIs : Key → Value → Bool
  | .inl k, v => Value.isInt k v
  | .inr x, v => Value.isStrOf x v
def keyH (w : World) : Key → Int
  | .inl k => hashInt k
  | .inr x => hashStr w x
theorem keyIs_shape : ∀ {k : Key} {v : Value}, keyIs k v = true → (∃ i t, k = Sum.inl i ∧ v = Value.int i t) ∨ (∃ x t, k = Sum.inr x ∧ v = Value.str x t)
  | .inl i, v, h => by
    obtain ⟨t, e⟩ := Value.isInt_shape (k := i) (v := v) h
    exact .inl ⟨i, t, rfl, e⟩
  | .inr x, v, h => by
    obtain ⟨t, e⟩ := Value.isStrOf_shape (x := x) (v := v) h
    exact .inr ⟨x, t, rfl, e⟩
theorem keyIs_int (i : Int) (t : Tok) : keyIs (.inl i) (.int i t) = true := by simp [keyIs, Value.isInt]
theorem keyIs_str (x : Str) (t : Tok) : keyIs (.inr x) (.str x t) = true := by simp [keyIs, Value.isStrOf]
theorem key_ll (a b : Int) : decide ((Sum.inl a : Key) = Sum.inl b) = (a == b) := by
  by_cases e : a = b
  · subst e; simp
  · have h : ¬ (Sum.inl a : Key) = Sum.inl b := fun q => e (Sum.inl.inj q)
    rw [decide_eq_false h]
    exact (beq_eq_false_iff_ne.mpr e).symm
theorem key_rr (a b : Str) : decide ((Sum.inr a : Key) = Sum.inr b) = decide (a = b) := by
  by_cases e : a = b
  · subst e; simp
  · have h : ¬ (Sum.inr a : Key) = Sum.inr b := fun q => e (Sum.inr.inj q)
    rw [decide_eq_false h, decide_eq_false e]
theorem key_lr (a : Int) (b : Str) : decide ((Sum.inl a : Key) = Sum.inr b) = false := decide_eq_false (fun q => nomatch q)
theorem key_rl (a : Str) (b : Int) : decide ((Sum.inr a : Key) = Sum.inl b) = false := decide_eq_false (fun q => nomatch q)

def mixKind (prog : Program) (w : World) : PySem.KeyKind prog w Key where
  is := keyIs
  hash := keyH w
  inj := fun v a b ha hb => by
    rcases keyIs_shape ha with ⟨i, t, rfl, rfl⟩ | ⟨x, t, rfl, rfl⟩
    · rcases keyIs_shape hb with ⟨j, u, rfl, e⟩ | ⟨y, u, rfl, e⟩
      · injection e with e1 _; rw [e1]
      · exact nomatch e
    · rcases keyIs_shape hb with ⟨j, u, rfl, e⟩ | ⟨y, u, rfl, e⟩
      · exact nomatch e
      · injection e with e1 _; rw [e1]
  byValue := fun k v h => by
    rcases keyIs_shape h with ⟨i, t, rfl, rfl⟩ | ⟨x, t, rfl, rfl⟩ <;> rfl
  pyHash := fun hv h => by
    rcases keyIs_shape hv with ⟨i, t, rfl, rfl⟩ | ⟨x, t, rfl, rfl⟩
    · exact wpAny_pyHash_int h
    · exact wpAny_pyHash_str h
  eqBool := fun hu hv h => by
    rcases keyIs_shape hu with ⟨i, t, rfl, rfl⟩ | ⟨x, t, rfl, rfl⟩
    · rcases keyIs_shape hv with ⟨j, u, rfl, rfl⟩ | ⟨y, u, rfl, rfl⟩
      · rw [key_ll] at h; exact wpAny_eqBool_int h
      · rw [key_lr] at h; exact SeqAt.EqAt.int_str i t y u _ _ _ _ h
    · rcases keyIs_shape hv with ⟨j, u, rfl, rfl⟩ | ⟨y, u, rfl, rfl⟩
      · rw [key_rl] at h; exact SeqAt.EqAt.str_int x t j u _ _ _ _ h
      · rw [key_rr] at h; exact wpAny_eqBool_str h
  «strs» := fun k x t v h => by
    rcases keyIs_shape h with ⟨i, u, rfl, e⟩ | ⟨y, u, rfl, e⟩
    · exact nomatch e
    · injection e with e1 _
      subst e1
      cases v <;> rfl

theorem mixKind_int (prog : Program) (w : World) (i : Int) (t : Tok) : (mixKind prog w).is (.inl i) (.int i t) = true := keyIs_int i t
theorem mixKind_str (prog : Program) (w : World) (x : Str) (t : Tok) : (mixKind prog w).is (.inr x) (.str x t) = true := keyIs_str x t
end L2

namespace L2
open PySem PySem.Spec PyProof.Rows

/-- a value, without the heap -/
inductive V where
  | non | bl (b : Bool) | int (i : Int) | str (x : Str) | byt (b : Array UInt8) | flt (b : UInt64) | ref (a : Addr) | ty (n : String)
  deriving DecidableEq

def RelV : V → Value → Prop
  | .non, u => u = Value.none
  | .bl b, u => u = Value.bool b
  | .int i, u => ∃ t, u = Value.int i t
  | .str x, u => ∃ t, u = Value.str x t
  | .byt b, u => ∃ t, u = Value.bytes b t
  | .flt b, u => ∃ t, u = Value.float b t
  | .ref a, u => u = Value.ref a
  | .ty n, u => u = Value.type n

abbrev Vals : List V → List Value → Prop := Paired RelV
theorem Vals.length {xs : List V} {us : List Value} (r : Vals xs us) : xs.length = us.length := Paired.length r
theorem Vals.get : ∀ {xs : List V} {us : List Value} {i : Nat} {x : V}, Vals xs us → xs[i]? = some x → ∃ u, us[i]? = some u ∧ RelV x u
  | _, _, _, _, .nil, e => by simp at e
  | _, _, 0, _, .cons r _, e => by simp at e; subst e; exact ⟨_, rfl, r⟩
  | _, _, i + 1, x, .cons _ t, e => by
    obtain ⟨u, h1, h2⟩ := Vals.get (i := i) (x := x) t (by simpa using e)
    exact ⟨u, by simpa using h1, h2⟩
theorem Vals.append : ∀ {xs ys : List V} {us ws : List Value}, Vals xs us → Vals ys ws → Vals (xs ++ ys) (us ++ ws)
  | _, _, _, _, .nil, s => s
  | _, _, _, _, .cons r t, s => .cons r (Vals.append t s)
theorem Vals.take : ∀ {xs : List V} {us : List Value} (n : Nat), Vals xs us → Vals (xs.take n) (us.take n)
  | _, _, 0, _ => .nil
  | _, _, _ + 1, .nil => .nil
  | _, _, n + 1, .cons r t => .cons r (Vals.take n t)
theorem Vals.drop : ∀ {xs : List V} {us : List Value} (n : Nat), Vals xs us → Vals (xs.drop n) (us.drop n)
  | _, _, 0, r => r
  | _, _, _ + 1, .nil => .nil
  | _, _, n + 1, .cons _ t => Vals.drop n t
def RelO : Option V → Option Value → Prop
  | some v, some u => RelV v u
  | none, none => True
  | _, _ => False
def KV {κ : Type} : List (κ × V) → List (κ × Value) → Prop := Paired fun (p : κ × V) (q : κ × Value) => p.1 = q.1 ∧ RelV p.2 q.2

/-- a key of a dict (00_mix): an int or a text -/
def kV : Key → V
  | .inl i => .int i
  | .inr x => .str x

/-- what stands at a tracked address -/
inductive HO where
  /-- a list -/
  | lst (xs : List V)
  /-- a tuple (never changes) -/
  | tup (xs : List V)
  /-- a dict whose keys are ints and texts; one whose keys are tuples of ints and texts (the empty one is both) -/
  | dK (kvs : List (Key × V)) | dT (kvs : List (List Key × V))
  /-- a set of ints: its members, its size -/
  | set (S : Int → Bool) (n : Nat)
  /-- an instance of the class at C, its dict at dx, its attributes -/
  | ins (C dx : Addr) (fs : List (Str × V))
  /-- the dict of the instance at x -/
  | own (x : Addr)
  /-- the dict of an exception -/
  | xd (fs : List (Str × V))
  /-- a bound method, f of x -/
  | met (f x : Addr)
  /-- a range object lo, lo + 1, .. below hi -/
  | rng (lo hi : Int)
  /-- a thing that is known to the object (the script; a dict while a loop walks it): read, never written while it is so -/
  | frz (o : Obj) (u : HO)
  /-- a code object's table -/
  | tbl (ps : Array Value)
  /-- any other thing, by what is true of its one object (a def of one's own: SetO a S n := HO.ext fun h => ..) -/
  | ext (φ : Heap → Prop)

abbrev Hp := Addr → Option HO
def upd (H : Hp) (a : Addr) (o : HO) : Hp := fun b => if b = a then some o else H b
theorem upd_same {H : Hp} {a : Addr} {o : HO} : upd H a o a = some o := by unfold upd; rw [if_pos rfl]
theorem upd_ne {H : Hp} {a b : Addr} {o : HO} (h : b ≠ a) : upd H a o b = H b := by unfold upd; rw [if_neg h]
/-- two objects of different content stand apart -/
theorem ne_of {H : Hp} {a b : Addr} {o u : HO} (h : H a = some o) (h' : H b = some u) (d : o ≠ u) : a ≠ b := by
  intro e; subst e; rw [h] at h'; exact d (Option.some.inj h')
theorem ne_of_none {H : Hp} {a b : Addr} {o : HO} (h : H a = some o) (h' : H b = none) : a ≠ b := by
  intro e; subst e; rw [h] at h'; cases h'

section
variable (P : Program) (w : World)
def ObjOk (H : Hp) (h : Heap) (a : Addr) : HO → Prop
  | .lst xs => xs.length ≤ sizeLine ∧ ∃ (its : List Value) (n : Nat), Vals xs its ∧ h.get? a = some { cls := .type "list", data := .seq its.toArray n }
  | .tup xs => xs.length ≤ sizeLine ∧ ∃ its : List Value, Vals xs its ∧ IsTup h a its.toArray
  | .dK kvs => kvs.length ≤ sizeLine ∧ (a == sysModules) = false ∧ ∃ vs, KV kvs vs ∧ h.DictOf (mixKind P w) a vs
  | .dT kvs => kvs.length ≤ sizeLine ∧ (a == sysModules) = false ∧ ∃ xs : List (List Key × Addr × Value),
      Paired (fun (p : List Key × V) (q : List Key × Addr × Value) => p.1 = q.1 ∧ H q.2.1 = some (.tup (p.1.map kV)) ∧ RelV p.2 q.2.2) kvs xs ∧
      ∃ o es ep, h.get? a = some o ∧ o.ExactDict ∧ o.data = .dict es ep ∧ es.toList = xs.map (entryOfKey (tupleKind (mixKind P w))) ∧ (xs.map (·.1)).Nodup
  | .set S n => h.SetOf (intKind P w) a S n
  | .ins C dx fs => H dx = some (.own a) ∧ fs.length ≤ 1000 ∧ dx ≠ a ∧ h.get? a = some (PySem.W.instObj C dx) ∧
      ∃ mA, h.Ns1 dx mA ∧ (∀ f, RelO (fs.lookup f) (mA f)) ∧ PySem.Within mA (fs.map (·.1))
  | .own _ => ∃ o, h.get? a = some o
  | .xd fs => ∃ mA, h.Ns1 a mA ∧ ∀ f, RelO (fs.lookup f) (mA f)
  | .rng lo hi => ∃ t u v, h.get? a = some { cls := .type "range", data := .fields #[.int lo t, .int hi u, .int 1 v] }
  | .frz o u => h.get? a = some o ∧ ObjOk H h a u
  | .tbl ps => h.get? a = some { cls := .none, data := .fields ps }
  | .met f x => h.get? a = some (PySem.W.methodObj (.ref f) (.ref x))
  | .ext φ => φ h ∧ (∃ o, h.get? a = some o) ∧ ∀ h1 h2 : Heap, φ h1 → (∀ o, h1.get? a = some o → h2.get? a = some o) → φ h2
/-- the abstract heap is held -/
def HOk (H : Hp) (h : Heap) : Prop := ∀ a o, H a = some o → ObjOk P w H h a o
end

section
variable {P : Program} {w : World} {H H' : Hp} {h h' : Heap} {a : Addr} {o : HO}
theorem ObjOk.lt (x : ObjOk P w H h a o) : a < h.objs.size := by
  cases o with
  | lst xs => obtain ⟨_, _, _, _, e⟩ := x; exact Heap.lt_size e
  | tup xs => obtain ⟨_, _, _, p⟩ := x; exact p.lt
  | dK kvs => obtain ⟨_, _, _, _, o, _, _, e, _⟩ := x; exact Heap.lt_size e
  | dT kvs => obtain ⟨_, _, _, _, o, _, _, e, _⟩ := x; exact Heap.lt_size e
  | set S n => obtain ⟨o, _, _, _, e, _⟩ := x; exact Heap.lt_size e
  | ins C dx fs => obtain ⟨_, _, _, e, _⟩ := x; exact Heap.lt_size e
  | own y => obtain ⟨_, e⟩ := x; exact Heap.lt_size e
  | xd fs => obtain ⟨_, ⟨_, _, _, e, _⟩, _⟩ := x; exact Heap.lt_size e
  | rng lo hi => obtain ⟨_, _, _, e⟩ := x; exact Heap.lt_size e
  | frz ob u => obtain ⟨e, _⟩ := x; exact Heap.lt_size e
  | tbl ps => exact Heap.lt_size (show h.get? a = some _ from x)
  | met f y => exact Heap.lt_size (show h.get? a = some _ from x)
  | ext φ => obtain ⟨_, ⟨_, e⟩, _⟩ := x; exact Heap.lt_size e
theorem Paired.mapP {α β : Type} {F G : α → β → Prop} : ∀ {l₁ : List α} {l₂ : List β}, Paired F l₁ l₂ → (∀ a b, F a b → G a b) → Paired G l₁ l₂
  | _, _, .nil, _ => .nil
  | _, _, .cons r t, f => .cons (f _ _ r) (Paired.mapP t f)
/-- what an object's description leans on: its own object, its own dict, the tuples -/
theorem ObjOk.stay (x : ObjOk P w H h a o) (k : ∀ b u, (b = a ∨ H b = some (.own a)) → h.get? b = some u → h'.get? b = some u)
    (ho : ∀ b, H b = some (.own a) → H' b = some (.own a)) (ht : ∀ b xs, H b = some (.tup xs) → H' b = some (.tup xs)) : ObjOk P w H' h' a o := by
  induction o with
  | lst xs => obtain ⟨z, its, n, r, e⟩ := x; exact ⟨z, its, n, r, k _ _ (.inl rfl) e⟩
  | tup xs => obtain ⟨z, its, r, ob, e, c⟩ := x; exact ⟨z, its, r, ob, k _ _ (.inl rfl) e, c⟩
  | dK kvs => obtain ⟨z, y, vs, r, ob, es, ep, e, c⟩ := x; exact ⟨z, y, vs, r, ob, es, ep, k _ _ (.inl rfl) e, c⟩
  | dT kvs =>
    obtain ⟨z, y, xs, r, ob, es, ep, e, c⟩ := x
    exact ⟨z, y, xs, Paired.mapP r fun p q z => ⟨z.1, ht _ _ z.2.1, z.2.2⟩, ob, es, ep, k _ _ (.inl rfl) e, c⟩
  | set S n => obtain ⟨ob, es, ep, t, e, c⟩ := x; exact ⟨ob, es, ep, t, k _ _ (.inl rfl) e, c⟩
  | ins C dx fs =>
    obtain ⟨d, z, ne, e, mA, ⟨od, es, ep, e2, c⟩, r⟩ := x
    exact ⟨ho _ d, z, ne, k _ _ (.inl rfl) e, mA, ⟨od, es, ep, k _ _ (.inr d) e2, c⟩, r⟩
  | own y => obtain ⟨ob, e⟩ := x; exact ⟨ob, k _ _ (.inl rfl) e⟩
  | xd fs => obtain ⟨mA, ⟨od, es, ep, e, c⟩, r⟩ := x; exact ⟨mA, ⟨od, es, ep, k _ _ (.inl rfl) e, c⟩, r⟩
  | rng lo hi => obtain ⟨t, u, v, e⟩ := x; exact ⟨t, u, v, k _ _ (.inl rfl) e⟩
  | frz ob u ih => obtain ⟨e, q⟩ := x; exact ⟨k _ _ (.inl rfl) e, ih q⟩
  | tbl ps =>
    have e : h.get? a = some { cls := .none, data := .fields ps } := x
    show h'.get? a = some { cls := .none, data := .fields ps }
    exact k a _ (.inl rfl) e
  | met f y =>
    have e : h.get? a = some (PySem.W.methodObj (.ref f) (.ref y)) := x
    show h'.get? a = some (PySem.W.methodObj (.ref f) (.ref y))
    exact k a _ (.inl rfl) e
  | ext φ => obtain ⟨p, ⟨o, e⟩, st⟩ := x; exact ⟨st _ _ p fun o q => k _ _ (.inl rfl) q, ⟨o, k _ _ (.inl rfl) e⟩, st⟩
theorem HOk.lt (x : HOk P w H h) (e : H a = some o) : a < h.objs.size := (x a o e).lt
theorem HOk.fresh (x : HOk P w H h) (e : h.objs.size ≤ a) : H a = none := by
  cases q : H a with
  | none => rfl
  | some u => exact absurd (Nat.lt_of_lt_of_le (x.lt q) e) (Nat.lt_irrefl _)
/-- every object of the heap is kept -/
theorem HOk.kept (x : HOk P w H h) (k : ∀ b u, h.get? b = some u → h'.get? b = some u) : HOk P w H h' := fun a o e =>
  (x a o e).stay (fun b u _ q => k b u q) (fun _ q => q) fun _ _ q => q
/-- a new object is laid and tracked -/
theorem HOk.laid (x : HOk P w H h) (k : ∀ b u, h.get? b = some u → h'.get? b = some u) (hp : h.objs.size ≤ a) (new : ObjOk P w (upd H a o) h' a o) : HOk P w (upd H a o) h' := fun b u e => by
  have hn := x.fresh hp
  by_cases hb : b = a
  · subst hb; rw [upd_same] at e; cases e; exact new
  · rw [upd_ne hb] at e
    exact (x b u e).stay (fun c v _ q => k c v q) (fun c q => by rw [upd_ne (ne_of_none q hn)]; exact q) fun c xs q => by rw [upd_ne (ne_of_none q hn)]; exact q
end

/-- what may be read as u: it is u, or a known u -/
def Rd (H : Hp) (a : Addr) (u : HO) : Prop := H a = some u ∨ ∃ o, H a = some (.frz o u)
theorem Rd.ok {P : Program} {w : World} {H : Hp} {h : Heap} {a : Addr} {u : HO} (r : Rd H a u) (x : HOk P w H h) : ObjOk P w H h a u := by
  rcases r with r | ⟨o, r⟩
  · exact x a u r
  · obtain ⟨_, q⟩ := x a _ r
    exact q
/-- what may be written -/
def Mut : Option HO → Prop
  | some (.lst _) => True
  | some (.dK _) => True
  | some (.dT _) => True
  | some (.set _ _) => True
  | some (.ins _ _ _) => True
  | some (.ext _) => True
  | _ => False
section
variable {P : Program} {w : World} {H : Hp} {h h' : Heap} {x e : Addr} {o' : HO}
/-- the object at e is changed: x itself, or the dict of the instance x -/
theorem HOk.write (ok : HOk P w H h) (mu : Mut (H x)) (he : e = x ∨ H e = some (.own x)) (k : ∀ b u, b ≠ e → h.get? b = some u → h'.get? b = some u) (heo : ∃ u, h'.get? e = some u)
    (new : ObjOk P w (upd H x o') h' x o') : HOk P w (upd H x o') h' := fun b u q => by
  have nown : ∀ c y, H c = some (.own y) → c ≠ x := fun c y r z => by subst z; rw [r] at mu; exact mu
  have ntup : ∀ c xs, H c = some (.tup xs) → c ≠ x := fun c xs r z => by subst z; rw [r] at mu; exact mu
  by_cases hb : b = x
  · subst hb; rw [upd_same] at q; cases q; exact new
  · rw [upd_ne hb] at q
    by_cases hbe : b = e
    · have q' : H b = some (.own x) := by
        rcases he with z | z
        · exact absurd (hbe.trans z) hb
        · rw [hbe]; exact z
      rw [q] at q'; cases q'
      obtain ⟨v, hv⟩ := heo
      exact ⟨v, by rw [hbe]; exact hv⟩
    · refine (ok b u q).stay (fun c v hc r => k c v ?_ r) (fun c r => by rw [upd_ne (nown c b r)]; exact r) fun c xs r => by rw [upd_ne (ntup c xs r)]; exact r
      rcases hc with rfl | hc
      · exact hbe
      · rintro rfl
        rcases he with z | z
        · exact nown c b hc z
        · rw [hc] at z; cases z; exact hb rfl
end

/-! ### kept unless tracked; of the frames at fs (the callers') the slots may change (an exception that passes writes there); of the records at ex (iterators) nothing is said -/
structure Un (fs ex : List Addr) (H H' : Hp) (h h' : Heap) : Prop where
  keep : ∀ b o, h.get? b = some o → H b = none → b ∉ fs → b ∉ ex → h'.get? b = some o
  slot : ∀ b o, h.get? b = some o → H b = none → b ∈ fs → b ∉ ex → ∃ sl, h'.get? b = some { o with slots := sl }
  free : ∀ b o, h.get? b = some o → H b = none → b ∉ ex → H' b = none
  there : ∀ b o, h.get? b = some o → b ∉ ex → ∃ o', h'.get? b = some o'
  tups : ∀ b xs, H b = some (.tup xs) → H' b = some (.tup xs)
  frzs : ∀ b o u, H b = some (.frz o u) → H' b = some (.frz o u)
  tbls : ∀ b ps, H b = some (.tbl ps) → ∃ more, H' b = some (.tbl (ps ++ more))
section
variable {fs fs' ex ex' : List Addr} {H H1 H2 : Hp} {h h1 h2 h' : Heap} {a x e : Addr} {o : HO}
theorem Un.any (u : Un fs ex H H1 h h1) {b : Addr} {ob : Obj} (q : h.get? b = some ob) (n : H b = none) (hx : b ∉ ex) : ∃ sl, h1.get? b = some { ob with slots := sl } := by
  by_cases hb : b ∈ fs
  · exact u.slot b ob q n hb hx
  · exact ⟨ob.slots, u.keep b ob q n hb hx⟩
theorem Un.kept (k : ∀ b u, h.get? b = some u → h'.get? b = some u) : Un fs ex H H h h' :=
  ⟨fun b ob q _ _ _ => k b ob q, fun b ob q _ _ _ => ⟨ob.slots, k b ob q⟩, fun _ _ _ n _ => n, fun b ob q _ => ⟨ob, k b ob q⟩, fun _ _ q => q, fun _ _ _ q => q, fun _ ps q => ⟨#[], by rw [q]; simp⟩⟩
theorem Un.refl : Un fs ex H H h h := Un.kept fun _ _ q => q
theorem Un.laid (k : ∀ b u, h.get? b = some u → h'.get? b = some u) (hp : h.objs.size ≤ a) (hn : H a = none) : Un fs ex H (upd H a o) h h' where
  keep := fun b u q _ _ _ => k b u q
  slot := fun b u q _ _ _ => ⟨u.slots, k b u q⟩
  free := fun b u q n _ => by rw [upd_ne (Nat.ne_of_lt (Nat.lt_of_lt_of_le (Heap.lt_size q) hp))]; exact n
  there := fun b u q _ => ⟨u, k b u q⟩
  tups := fun b xs q => by rw [upd_ne (ne_of_none q hn)]; exact q
  frzs := fun b u xs q => by rw [upd_ne (ne_of_none q hn)]; exact q
  tbls := fun b ps q => ⟨#[], by rw [upd_ne (ne_of_none q hn), q]; simp⟩
theorem Un.write (mu : Mut (H x)) (he : e = x ∨ H e = some (.own x)) (k : ∀ b u, b ≠ e → h.get? b = some u → h'.get? b = some u) (heo : ∃ u, h'.get? e = some u) : Un fs ex H (upd H x o) h h' := by
  have hx : ∀ b, H b = none → b ≠ x := fun b n z => by subst z; rw [n] at mu; exact mu
  have hb : ∀ b, H b = none → b ≠ e := fun b n z => by
    subst z
    rcases he with r | r
    · exact hx b n r
    · rw [n] at r; cases r
  have hm : ∀ b u, H b = some u → ¬ Mut (some u) → b ≠ x := fun b u q nm z => by subst z; rw [q] at mu; exact nm mu
  refine ⟨fun b u q n _ _ => k b u (hb b n) q, fun b u q n _ _ => ⟨u.slots, k b u (hb b n) q⟩, fun b u q n _ => by rw [upd_ne (hx b n)]; exact n, fun b u q _ => ?_,
    fun b xs q => by rw [upd_ne (hm b _ q fun z => z)]; exact q, fun b u xs q => by rw [upd_ne (hm b _ q fun z => z)]; exact q, fun b ps q => ⟨#[], by rw [upd_ne (hm b _ q fun z => z), q]; simp⟩⟩
  by_cases hbe : b = e
  · subst hbe; exact heo
  · exact ⟨u, k b u hbe q⟩
end

/-! ### the heap without what is tracked -/
def trk (h : Heap) (H : Hp) : List Addr := (List.range h.objs.size).filter fun a => (H a).isSome
def hidT (h : Heap) (H : Hp) : Heap := PySem.W.hideAll h (trk h H)
theorem hidT_size (h : Heap) (H : Hp) : (hidT h H).objs.size = h.objs.size := PySem.W.hideAll_size _ _
theorem hidT_get {h : Heap} {H : Hp} {b : Addr} {o : Obj} (e : h.get? b = some o) (n : H b = none) : (hidT h H).get? b = some o :=
  PySem.W.hideAll_get _ e fun hm => by
    have q : (H b).isSome = true := (List.mem_filter.mp hm).2
    rw [n] at q; simp at q
theorem of_hidT {h : Heap} {H : Hp} {b : Addr} {o : Obj} (e : (hidT h H).get? b = some o) : h.get? b = some o ∧ H b = none := by
  have e' : h.get? b = some o := PySem.W.of_hideAll (trk h H) e
  refine ⟨e', ?_⟩
  cases q : H b with
  | none => rfl
  | some x =>
    have hm : b ∈ trk h H := List.mem_filter.mpr ⟨List.mem_range.mpr (Heap.lt_size e'), by simp [q]⟩
    have z : (hidT h H).get? b = none := PySem.W.hideAll_none (trk h H) hm
    rw [z] at e; cases e

/-! ### OpenK's ledger, filled with every new object but one -/
def allNews (g h : Heap) (L : Addr) : List (Addr × Obj) := (List.range h.objs.size).filterMap fun a => if a = L ∨ (g.get? a).isSome = true then none else (h.get? a).map fun o => (a, o)
def rest (g h : Heap) (L d : Addr) : List (Addr × Obj) := (allNews g h L).filter fun p => decide (p.1 ≠ d)
end L2

namespace L2
open PySem PySem.Spec PyProof.Rows

/-- the module's facts, over the base: the heap at the law's entry without what is tracked there -/
structure Mod (K : PySem.W.Frag) (mg : Str → Option Value) (base : Heap) : Prop where
  kin : K.In base
  glob : base.Ns mainGlobals mg
  blt : ∃ mb, base.Ns builtinsNs mb ∧ ∀ x : Str, x ≠ "__name__" → mb x = bootBuiltins x
  nolimit : base.NoLimit

/-- the context: a def's body (or a comprehension's block) running. base: fixed through the whole law; s₀, H₀: the entry; outer: the frames whose slots others may change (a def's callers); stack: all frames that run;
   ex: iterators that were made ahead of the entry and are walked here (a comprehension's); fn: the names whose cells were made at the entry (a def: all; a comprehension's block: its own); calm: not within an except suite; pn: pins that every state bears; xe: what is wanted of an exception that leaves the code -/
structure Cx where
  prog : Program
  w : World
  K : PySem.W.Frag
  mg : Str → Option Value
  base : Heap
  A : Around
  N : List Str
  s₀ : Shared
  H₀ : Hp
  env : Env
  outer : List Env
  stack : List Env
  ex : List Addr
  fn : Str → Bool
  calm : Bool
  pn : List (Addr × Obj)
  xe : Value → Shared → Prop
/-- the callers' frames -/
def frs (l : List Env) : List Addr := l.filterMap (·.frame)
abbrev Cx.fs (X : Cx) : List Addr := frs X.outer

def Vis (sc : Scope) (x : Str) : Prop := sc.names.lookup x = some .local ∨ sc.names.lookup x = some .cell ∨ sc.names.lookup x = some .free
def Loc (sc : Scope) (x : Str) : Prop := sc.names.lookup x = some .local ∨ sc.names.lookup x = some .cell
def Look (env : Env) (h : Heap) (m : Str → Option Value) (x : Str) (u : Value) : Prop :=
  (env.kindOf x = some .local ∧ m x = some u) ∨ ((env.kindOf x = some .cell ∨ env.kindOf x = some .free) ∧ ∃ c, env.cells.lookup x = some c ∧ h.IsCell c (some u))

structure Cx.Ok (X : Cx) : Prop where
  mod : Mod X.K X.mg X.base
  kind : X.env.scope.kind = .function
  glob : X.env.globals = mainGlobals
  blt : X.env.builtins = builtinsNs
  above : X.s₀.heap.objs.size ≤ X.env.locals
  inj : ∀ x y c, X.env.cells.lookup x = some c → X.env.cells.lookup y = some c → x = y
  has : ∀ x, (X.env.kindOf x = some .cell ∨ X.env.kindOf x = some .free) → ∃ c, X.env.cells.lookup x = some c
  cab : ∀ x c, X.fn x = true → X.env.cells.lookup x = some c → X.s₀.heap.objs.size ≤ c
  hd : X.calm = true → X.A.handled = none
  frames : X.A.frames = some X.stack
  stk : X.stack = X.outer ∨ (X.stack = X.env :: X.outer ∧ X.env.frame = some X.env.locals)
  exf : ∀ b ∈ X.ex, b ≠ X.env.locals ∧ ∀ x c, X.env.cells.lookup x = some c → c ≠ b
  bs : ∀ b o, X.base.get? b = some o → X.s₀.heap.get? b = some o ∧ X.H₀ b = none
  bsz : X.base.objs.size ≤ X.s₀.heap.objs.size
  noex : ∀ b o, X.base.get? b = some o → b ∉ X.ex
  exfs : ∀ b ∈ X.ex, b ∉ X.fs
  funs : X.s₀.heap.FunFrames X.base X.outer
  frf : ∀ b ∈ X.fs, X.H₀ b = none

structure Inv (X : Cx) (pins : List (Addr × Obj)) (σ : List (Option V)) (H : Hp) (s : Shared) : Prop where
  ok : X.Ok
  os : s.os = X.s₀.os
  bare : AllBare s.gens
  base : Un X.fs X.ex X.H₀ H X.s₀.heap s.heap
  loc : ∃ m, s.heap.Ns X.env.locals m ∧ ∀ (i : Nat) (x : Str) (v : V), X.N[i]? = some x → σ[i]? = some (some v) → Vis X.env.scope x → ∃ u, RelV v u ∧ Look X.env s.heap m x u
  cell : ∀ x c, X.env.cells.lookup x = some c → ∃ v, s.heap.IsCell c v
  free : H X.env.locals = none
  freeC : ∀ x c, X.env.cells.lookup x = some c → H c = none
  pin : ∀ p ∈ X.pn ++ pins, s.heap.get? p.1 = some p.2 ∧ H p.1 = none ∧ p.1 ≠ X.env.locals ∧ p.1 ∉ X.fs ∧ ∀ v, p.2.data ≠ .cell v
  hok : HOk X.prog X.w H s.heap
  len : σ.length = X.N.length

section
variable {X : Cx} {pins : List (Addr × Obj)} {σ : List (Option V)} {H H' : Hp} {s : Shared} {h' : Heap}

theorem Cx.Ok.nofr (ok : X.Ok) {b : Addr} {o : Obj} (e : X.base.get? b = some o) : b ∉ X.fs := fun hb => by
  have := (ok.funs.mem hb).1
  rw [e] at this; cases this
theorem Inv.bs (I : Inv X pins σ H s) : ∀ b o, X.base.get? b = some o → s.heap.get? b = some o ∧ H b = none := fun b o e =>
  ⟨I.base.keep b o (I.ok.bs b o e).1 (I.ok.bs b o e).2 (I.ok.nofr e) (I.ok.noex b o e), I.base.free b o (I.ok.bs b o e).1 (I.ok.bs b o e).2 (I.ok.noex b o e)⟩
theorem Inv.bk (I : Inv X pins σ H s) : ∀ b o, X.base.get? b = some o → s.heap.get? b = some o := fun b o e => (I.bs b o e).1
theorem Inv.mod (I : Inv X pins σ H s) : Mod X.K X.mg X.base := I.ok.mod
theorem Inv.kIn (I : Inv X pins σ H s) : X.K.In s.heap := I.ok.mod.kin.keeps I.bk
theorem Inv.lt (I : Inv X pins σ H s) : X.env.locals < s.heap.objs.size := let ⟨_, hn, _⟩ := I.loc; hn.lt
theorem Inv.sz (I : Inv X pins σ H s) : X.s₀.heap.objs.size ≤ s.heap.objs.size := Nat.le_trans I.ok.above (Nat.le_of_lt I.lt)
theorem Inv.nofs (I : Inv X pins σ H s) {a : Addr} (h : s.heap.objs.size ≤ a) : a ∉ X.fs := fun hb => by
  obtain ⟨_, o, ho, _⟩ := I.ok.funs.mem hb
  exact absurd (Nat.lt_of_lt_of_le (Heap.lt_size ho) (Nat.le_trans I.sz h)) (Nat.lt_irrefl _)
theorem Inv.cne (I : Inv X pins σ H s) : ∀ x c, X.env.cells.lookup x = some c → c ≠ X.env.locals := fun x c e z => by
  obtain ⟨v, o, ho, hd⟩ := I.cell x c e
  obtain ⟨m, ⟨o', es, ep, ho', hd', _⟩, _⟩ := I.loc
  rw [z, ho'] at ho; cases ho; rw [hd'] at hd; cases hd
theorem Inv.funs (I : Inv X pins σ H s) : s.heap.FunFrames X.base X.outer := by
  have all : ∀ (l : List Env), (∀ b ∈ frs l, b ∈ X.fs) → X.s₀.heap.FunFrames X.base l → s.heap.FunFrames X.base l := by
    intro l
    induction l with
    | nil => intro _ _; trivial
    | cons env r ih =>
      intro hs hl
      obtain ⟨hk, ⟨L, o, hf, hn, ho, hd⟩, hr⟩ := hl
      have hL : L ∈ X.fs := hs L (by unfold frs; rw [List.filterMap_cons, hf]; exact List.mem_cons_self)
      obtain ⟨sl, e⟩ := I.base.slot L o ho (I.ok.frf L hL) hL fun z => I.ok.exfs L z hL
      exact ⟨hk, ⟨L, _, hf, hn, e, hd⟩, ih (fun b hb => hs b (by unfold frs; rw [List.filterMap_cons, hf]; exact List.mem_cons_of_mem _ hb)) hr⟩
  exact all X.outer (fun _ hb => hb) I.ok.funs

/-- the frames that run, for a call -/
theorem Inv.stack (I : Inv X pins σ H s) : s.heap.FunFrames X.base X.stack := by
  rcases I.ok.stk with e | ⟨e, hf⟩
  · rw [e]; exact I.funs
  · rw [e]
    obtain ⟨m, hn, _⟩ := I.loc
    refine .cons (by rw [I.ok.kind]; decide) hf hn ?_ I.funs
    exact Heap.get?_none_of_le (Nat.le_trans I.ok.bsz I.ok.above)
theorem Inv.stkSub (I : Inv X pins σ H s) : ∀ b ∈ frs X.stack, b ∈ X.env.locals :: X.fs := fun b hb => by
  rcases I.ok.stk with e | ⟨e, hf⟩
  · rw [e] at hb; exact List.mem_cons_of_mem _ hb
  · rw [e] at hb
    unfold frs at hb
    rw [List.filterMap_cons, hf] at hb
    exact hb
theorem Inv.stkFree (I : Inv X pins σ H s) : ∀ b ∈ frs X.stack, H b = none := fun b hb => by
  rcases List.mem_cons.mp (I.stkSub b hb) with e | hb
  · rw [e]; exact I.free
  · obtain ⟨_, o, ho, _⟩ := I.ok.funs.mem hb
    exact I.base.free b o ho (I.ok.frf b hb) fun z => I.ok.exfs b z hb

/-- THE STEP: the untracked objects but the frame and the records at ch are kept (the callers' frames up to slots), the frame's map is kept, the new abstract heap is held -/
theorem Inv.step {g' : Array GenState} {t' : Nat} {d' : Drawn} {ch : List Addr} (I : Inv X pins σ H s)
    (hch : ∀ b ∈ ch, (b ∈ X.ex ∨ X.s₀.heap.objs.size ≤ b) ∧ b ≠ X.env.locals ∧ (∀ x c, X.env.cells.lookup x = some c → c ≠ b) ∧ ∀ p ∈ X.pn ++ pins, p.1 ≠ b)
    (keep : ∀ b o, b ≠ X.env.locals → b ∉ X.fs → b ∉ ch → s.heap.get? b = some o → H b = none → h'.get? b = some o)
    (slot : ∀ b o, b ≠ X.env.locals → b ∈ X.fs → b ∉ ch → s.heap.get? b = some o → H b = none → ∃ sl, h'.get? b = some { o with slots := sl }) (free : ∀ b o, b ∉ ch → s.heap.get? b = some o → H b = none → H' b = none)
    (there : ∀ b o, b ∉ ch → s.heap.get? b = some o → ∃ o', h'.get? b = some o')
    (tups : ∀ b xs, H b = some (.tup xs) → H' b = some (.tup xs)) (frzs : ∀ b o u, H b = some (.frz o u) → H' b = some (.frz o u)) (tbls : ∀ b ps, H b = some (.tbl ps) → ∃ more, H' b = some (.tbl (ps ++ more)))
    (ns : ∀ m, s.heap.Ns X.env.locals m → h'.Ns X.env.locals m) (hok : HOk X.prog X.w H' h') (hg : AllBare g') :
    Inv X pins σ H' { s with heap := h', gens := g', drawn := d', toks := t' } := by
  have neL : ∀ b o, X.s₀.heap.get? b = some o → b ≠ X.env.locals := fun b o e => Nat.ne_of_lt (Nat.lt_of_lt_of_le (Heap.lt_size e) I.ok.above)
  have neC : ∀ b o, X.s₀.heap.get? b = some o → b ∉ X.ex → b ∉ ch := fun b o e hx hb => by
    rcases (hch b hb).1 with z | z
    · exact hx z
    · exact absurd (Nat.lt_of_lt_of_le (Heap.lt_size e) z) (Nat.lt_irrefl _)
  have cellK : ∀ x c, X.env.cells.lookup x = some c → ∀ v, s.heap.IsCell c v → h'.IsCell c v := fun x c e v ⟨o, ho, hd⟩ => by
    have nch : c ∉ ch := fun z => (hch c z).2.2.1 x c e rfl
    by_cases hc : c ∈ X.fs
    · obtain ⟨sl, q⟩ := slot c o (I.cne x c e) hc nch ho (I.freeC x c e)
      exact ⟨_, q, hd⟩
    · exact ⟨o, keep c o (I.cne x c e) hc nch ho (I.freeC x c e), hd⟩
  refine ⟨I.ok, I.os, hg, ⟨fun b o e n hb hx => ?_, fun b o e n hb hx => ?_, fun b o e n hx => ?_, fun b o e hx => ?_, fun b xs e => tups b xs (I.base.tups b xs e), fun b o xs e => frzs b o xs (I.base.frzs b o xs e), fun b ps e => ?_⟩, ?_, fun x c e => ?_, ?_, fun x c e => ?_, fun p hp => ?_, hok, I.len⟩
  · exact keep b o (neL b o e) hb (neC b o e hx) (I.base.keep b o e n hb hx) (I.base.free b o e n hx)
  · obtain ⟨sl, e1⟩ := I.base.slot b o e n hb hx
    obtain ⟨sl', e2⟩ := slot b _ (neL b o e) hb (neC b o e hx) e1 (I.base.free b o e n hx)
    exact ⟨sl', e2⟩
  · obtain ⟨o', e1⟩ := I.base.there b o e hx
    exact free b o' (neC b o e hx) e1 (I.base.free b o e n hx)
  · obtain ⟨o', e1⟩ := I.base.there b o e hx
    exact there b o' (neC b o e hx) e1
  · obtain ⟨m1, e1⟩ := I.base.tbls b ps e
    obtain ⟨m2, e2⟩ := tbls b _ e1
    exact ⟨m1 ++ m2, by rw [e2, Array.append_assoc]⟩
  · obtain ⟨m, hn, hl⟩ := I.loc
    refine ⟨m, ns m hn, fun i x v e1 e2 e3 => ?_⟩
    obtain ⟨u, r, l⟩ := hl i x v e1 e2 e3
    refine ⟨u, r, ?_⟩
    rcases l with l | ⟨k, c, e, z⟩
    · exact .inl l
    · exact .inr ⟨k, c, e, cellK x c e _ z⟩
  · obtain ⟨v, z⟩ := I.cell x c e
    exact ⟨v, cellK x c e v z⟩
  · obtain ⟨m, ⟨o, _, _, ho, _⟩, _⟩ := I.loc
    exact free _ o (fun z => (hch _ z).2.1 rfl) ho I.free
  · obtain ⟨v, o, ho, hd⟩ := I.cell x c e
    exact free c o (fun z => (hch c z).2.2.1 x c e rfl) ho (I.freeC x c e)
  · obtain ⟨e, n, ne, nf, d⟩ := I.pin p hp
    have nch : p.1 ∉ ch := fun z => (hch p.1 z).2.2.2 p hp rfl
    exact ⟨keep p.1 p.2 ne nf nch e n, free p.1 p.2 nch e n, ne, nf, d⟩
/-- .. where the frame's own object is kept too -/
theorem Inv.un {t' : Nat} (I : Inv X pins σ H s) (u : Un X.fs [] H H' s.heap h') (hok : HOk X.prog X.w H' h') : Inv X pins σ H' { s with heap := h', toks := t' } := by
  obtain ⟨m, ⟨o, es, ep, ho, r⟩, _⟩ := id I.loc
  obtain ⟨sl, hL⟩ := u.any ho I.free (by simp)
  exact I.step (g' := s.gens) (d' := s.drawn) (ch := []) (fun _ z => nomatch z) (fun b o _ hb _ e n => u.keep b o e n hb (by simp)) (fun b o _ hb _ e n => u.slot b o e n hb (by simp)) (fun b o _ e n => u.free b o e n (by simp)) (fun b o _ e => u.there b o e (by simp)) u.tups u.frzs u.tbls (fun m' hm => by
    obtain ⟨o', es', ep', ho', r'⟩ := hm
    rw [ho] at ho'; cases ho'
    exact ⟨_, es', ep', hL, r'⟩) hok I.bare
/-- behind a call (or a comprehension's block): the slots of this frame may have changed too, the records at ch may have turned -/
theorem Inv.call {g' : Array GenState} {t' : Nat} {d' : Drawn} {ch : List Addr} (I : Inv X pins σ H s) (u : Un (frs X.stack) ch H H' s.heap h') (hok : HOk X.prog X.w H' h') (hg : AllBare g')
    (hch : ∀ b ∈ ch, (b ∈ X.ex ∨ X.s₀.heap.objs.size ≤ b) ∧ b ≠ X.env.locals ∧ (∀ x c, X.env.cells.lookup x = some c → c ≠ b) ∧ ∀ p ∈ X.pn ++ pins, p.1 ≠ b) :
    Inv X pins σ H' { s with heap := h', gens := g', drawn := d', toks := t' } := by
  obtain ⟨m, ⟨o, es, ep, ho, r⟩, _⟩ := id I.loc
  obtain ⟨sl, hL⟩ := u.any ho I.free fun z => (hch _ z).2.1 rfl
  exact I.step (ch := ch) hch (fun b o hL hb hc e n => u.keep b o e n (fun z => (List.mem_cons.mp (I.stkSub b z)).elim hL hb) hc) (fun b o _ _ hc e n => u.any e n hc) (fun b o hc e n => u.free b o e n hc) (fun b o hc e => u.there b o e hc) u.tups u.frzs u.tbls (fun m' hm => by
    obtain ⟨o', es', ep', ho', r'⟩ := hm
    rw [ho] at ho'; cases ho'
    exact ⟨_, es', ep', hL, r'⟩) hok hg
/-- an untracked record of ours (an iterator) has turned -/
theorem Inv.turned {t' : Nat} {it : Addr} (I : Inv X pins σ H s) (k : ∀ b o, b ≠ it → s.heap.get? b = some o → h'.get? b = some o) (hn : H it = none) (hL : it ≠ X.env.locals)
    (h1 : it ∈ X.ex ∨ X.s₀.heap.objs.size ≤ it) (h2 : ∀ x c, X.env.cells.lookup x = some c → c ≠ it) (h3 : ∀ p ∈ X.pn ++ pins, p.1 ≠ it) : Inv X pins σ H { s with heap := h', toks := t' } := by
  have nit : ∀ b u, H b = some u → b ≠ it := fun b u e z => by rw [z, hn] at e; cases e
  refine I.step (g' := s.gens) (d' := s.drawn) (ch := [it]) (fun b hb => ?_) (fun b o _ _ hc e _ => k b o (fun z => hc (by simp [z])) e) (fun b o _ _ hc e _ => ⟨o.slots, k b o (fun z => hc (by simp [z])) e⟩) (fun _ _ _ _ n => n)
    (fun b o hc e => ⟨o, k b o (fun z => hc (by simp [z])) e⟩) (fun _ _ e => e) (fun _ _ _ e => e) (fun b ps e => ⟨#[], by rw [e]; simp⟩) (fun m hm => ?_) (fun b u e => ?_) I.bare
  · have e : b = it := by simpa using hb
    subst e
    exact ⟨h1, hL, h2, h3⟩
  · obtain ⟨o, es, ep, ho, r⟩ := hm
    exact ⟨o, es, ep, k _ o (Ne.symm hL) ho, r⟩
  · refine (I.hok b u e).stay (fun c v hc q => k c v ?_ q) (fun _ q => q) fun _ _ q => q
    rcases hc with z | z
    · rw [z]; exact nit b u e
    · exact nit c _ z
theorem Inv.tok (I : Inv X pins σ H s) (t : Nat) : Inv X pins σ H { s with toks := t } := I.un (h' := s.heap) (t' := t) Un.refl I.hok
/-- all objects kept -/
theorem Inv.kept {t' : Nat} (I : Inv X pins σ H s) (k : ∀ b u, s.heap.get? b = some u → h'.get? b = some u) : Inv X pins σ H { s with heap := h', toks := t' } := I.un (Un.kept k) (I.hok.kept k)
/-- a new object laid and tracked -/
theorem Inv.laid {a : Addr} {o : HO} {t' : Nat} (I : Inv X pins σ H s) (k : ∀ b u, s.heap.get? b = some u → h'.get? b = some u) (hp : s.heap.objs.size ≤ a) (new : ObjOk X.prog X.w (upd H a o) h' a o) :
    Inv X pins σ (upd H a o) { s with heap := h', toks := t' } := I.un (Un.laid k hp (I.hok.fresh hp)) (I.hok.laid k hp new)
/-- an object written -/
theorem Inv.write {x e : Addr} {o : HO} {t' : Nat} (I : Inv X pins σ H s) (mu : Mut (H x)) (he : e = x ∨ H e = some (.own x)) (k : ∀ b u, b ≠ e → s.heap.get? b = some u → h'.get? b = some u) (heo : ∃ u, h'.get? e = some u)
    (new : ObjOk X.prog X.w (upd H x o) h' x o) : Inv X pins σ (upd H x o) { s with heap := h', toks := t' } := I.un (Un.write mu he k heo) (I.hok.write mu he k heo new)
theorem Inv.pins_of {pins' : List (Addr × Obj)} (I : Inv X pins σ H s) (h : ∀ p ∈ pins', s.heap.get? p.1 = some p.2 ∧ H p.1 = none ∧ p.1 ≠ X.env.locals ∧ p.1 ∉ X.fs ∧ ∀ v, p.2.data ≠ .cell v) : Inv X pins' σ H s :=
  ⟨I.ok, I.os, I.bare, I.base, I.loc, I.cell, I.free, I.freeC, fun p hp => (List.mem_append.mp hp).elim (fun z => I.pin p (List.mem_append_left _ z)) (h p), I.hok, I.len⟩

theorem nodup_ix {N : List Str} (hN : N.Nodup) {i j : Nat} {x : Str} (a : N[i]? = some x) (b : N[j]? = some x) : i = j := by
  obtain ⟨h1, e1⟩ := List.getElem?_eq_some_iff.mp a
  obtain ⟨h2, e2⟩ := List.getElem?_eq_some_iff.mp b
  exact (List.getElem_inj hN).mp (e1.trans e2.symm)

/-- a name is stored; what changed -/
theorem store_ok2 {M : Model} {A : Around} {E : Value → Shared → Prop} {i : Nat} {x : Str} {v : V} {u : Value} {Q : Unit → Shared → Prop} (I : Inv X pins σ H s) (hN : X.N.Nodup) (hi : X.N[i]? = some x) (hx : Loc X.env.scope x) (r : RelV v u)
    (h : ∀ s', Inv X pins (σ.set i (some v)) H s' → (∃ a, Heap.SameBut a s.heap s'.heap ∧ (a = X.env.locals ∨ X.env.cells.lookup x = some a)) → Q () s') (hf : X.fn x = true ∨ X.env.scope.names.lookup x = some .local := by first | exact .inl rfl | exact .inr rfl | assumption) : wpAny M A (storeName X.env x u) Q E s := by
  obtain ⟨m, hn, hl⟩ := id I.loc
  have hcls : (X.env.scope.kind == .class || (X.env.scope.kind == .module && X.env.locals != X.env.globals)) = false := by rw [I.ok.kind]; rfl
  have hiσ : i < σ.length := by rw [I.len]; exact (List.getElem?_eq_some_iff.mp hi).1
  have cne := I.cne
  have tracked : ∀ {a : Addr} {h' : Heap}, (∃ o, s.heap.get? a = some o ∧ H a = none) → Heap.SameBut a s.heap h' → HOk X.prog X.w H h' := fun {a h'} ha hs b ob e => by
    obtain ⟨_, _, hfree⟩ := ha
    refine (I.hok b ob e).stay (fun c w' hc q => (hs.2 c ?_).trans q) (fun _ q => q) fun _ _ q => q
    rintro rfl
    rcases hc with rfl | hc
    · rw [hfree] at e; cases e
    · rw [hfree] at hc; cases hc
  rcases hx with hk | hk
  · refine wpAny_storeName_local hk hn (fun h' hn' hs => ?_) hcls
    obtain ⟨oL, _, _, hoL, _⟩ := id hn
    refine h _ ⟨I.ok, I.os, I.bare, ⟨fun b o e n hb hx => ?_, fun b o e n hb hx => ?_, I.base.free, fun b o e hx => ?_, I.base.tups, I.base.frzs, I.base.tbls⟩, ⟨_, hn', fun j y v' e1 e2 e3 => ?_⟩, fun y c e => ?_, I.free, I.freeC, fun p hp => ?_, tracked ⟨oL, hoL, I.free⟩ hs, by simpa using I.len⟩ ⟨_, hs, .inl rfl⟩
    · exact (hs.2 b (Nat.ne_of_lt (Nat.lt_of_lt_of_le (Heap.lt_size e) I.ok.above))).trans (I.base.keep b o e n hb hx)
    · obtain ⟨sl, e1⟩ := I.base.slot b o e n hb hx
      exact ⟨sl, (hs.2 b (Nat.ne_of_lt (Nat.lt_of_lt_of_le (Heap.lt_size e) I.ok.above))).trans e1⟩
    · obtain ⟨o', e1⟩ := I.base.there b o e hx
      exact ⟨o', (hs.2 b (Nat.ne_of_lt (Nat.lt_of_lt_of_le (Heap.lt_size e) I.ok.above))).trans e1⟩
    · by_cases hj : j = i
      · subst hj
        rw [hi] at e1; cases e1
        rw [List.getElem?_set_self hiσ] at e2
        cases e2
        exact ⟨u, r, .inl ⟨hk, by simp⟩⟩
      · rw [List.getElem?_set_ne (Ne.symm hj)] at e2
        obtain ⟨u', r', q⟩ := hl j y v' e1 e2 e3
        refine ⟨u', r', ?_⟩
        rcases q with ⟨k, e⟩ | ⟨k, c, e, z⟩
        · refine .inl ⟨k, ?_⟩
          have : y ≠ x := fun e => hj (nodup_ix hN e1 (e ▸ hi))
          simp [this, e]
        · exact .inr ⟨k, c, e, z.sameBut hs (cne y c e)⟩
    · obtain ⟨w', z⟩ := I.cell y c e
      exact ⟨w', z.sameBut hs (cne y c e)⟩
    · obtain ⟨e, n, ne, nf, d⟩ := I.pin p hp
      exact ⟨(hs.2 p.1 ne).trans e, n, ne, nf, d⟩
  · have hfn : X.fn x = true := by
      rcases hf with z | z
      · exact z
      · rw [z] at hk; cases hk
    obtain ⟨c, hc⟩ := I.ok.has x (.inl hk)
    obtain ⟨w', z⟩ := I.cell x c hc
    refine wpAny_storeName_cell I.ok.kind hk hc z (fun h' hc' hs => ?_)
    obtain ⟨oc, hoc, hocd⟩ := id z
    refine h { s with heap := h' } ⟨I.ok, I.os, I.bare, ⟨fun b o e n hb hx => ?_, fun b o e n hb hx => ?_, I.base.free, fun b o e hx => ?_, I.base.tups, I.base.frzs, I.base.tbls⟩, ⟨m, hn.sameBut hs (Ne.symm (cne x c hc)), fun j y v' e1 e2 e3 => ?_⟩, fun y c' e => ?_, I.free, I.freeC, fun p hp => ?_, tracked ⟨oc, hoc, I.freeC x c hc⟩ hs, by simpa using I.len⟩ ⟨c, hs, .inr hc⟩
    · exact (hs.2 b (Nat.ne_of_lt (Nat.lt_of_lt_of_le (Heap.lt_size e) (I.ok.cab x c hfn hc)))).trans (I.base.keep b o e n hb hx)
    · obtain ⟨sl, e1⟩ := I.base.slot b o e n hb hx
      exact ⟨sl, (hs.2 b (Nat.ne_of_lt (Nat.lt_of_lt_of_le (Heap.lt_size e) (I.ok.cab x c hfn hc)))).trans e1⟩
    · obtain ⟨o', e1⟩ := I.base.there b o e hx
      exact ⟨o', (hs.2 b (Nat.ne_of_lt (Nat.lt_of_lt_of_le (Heap.lt_size e) (I.ok.cab x c hfn hc)))).trans e1⟩
    · by_cases hj : j = i
      · subst hj
        rw [hi] at e1; cases e1
        rw [List.getElem?_set_self hiσ] at e2
        cases e2
        exact ⟨u, r, .inr ⟨.inl hk, c, hc, hc'⟩⟩
      · rw [List.getElem?_set_ne (Ne.symm hj)] at e2
        obtain ⟨u', r', q⟩ := hl j y v' e1 e2 e3
        refine ⟨u', r', ?_⟩
        rcases q with q | ⟨k, c', e, z'⟩
        · exact .inl q
        · refine .inr ⟨k, c', e, z'.sameBut hs ?_⟩
          rintro rfl
          exact hj (nodup_ix hN e1 (I.ok.inj _ _ _ e hc ▸ hi))
    · by_cases hcc : c' = c
      · subst hcc; exact ⟨_, hc'⟩
      · obtain ⟨w2, z2⟩ := I.cell y c' e
        exact ⟨w2, z2.sameBut hs hcc⟩
    · obtain ⟨e, n, ne, nf, d⟩ := I.pin p hp
      refine ⟨(hs.2 p.1 ?_).trans e, n, ne, nf, d⟩
      intro q
      rw [q, hoc] at e
      have q' : oc = p.2 := Option.some.inj e
      exact d w' (by rw [← q']; exact hocd)
theorem store_ok {M : Model} {A : Around} {E : Value → Shared → Prop} {i : Nat} {x : Str} {v : V} {u : Value} {Q : Unit → Shared → Prop} (I : Inv X pins σ H s) (hN : X.N.Nodup) (hi : X.N[i]? = some x) (hx : Loc X.env.scope x) (r : RelV v u)
    (h : ∀ s', Inv X pins (σ.set i (some v)) H s' → Q () s') (hf : X.fn x = true ∨ X.env.scope.names.lookup x = some .local := by first | exact .inl rfl | exact .inr rfl | assumption) : wpAny M A (storeName X.env x u) Q E s :=
  store_ok2 I hN hi hx r (fun s' I' _ => h s' I') hf
/-- behind a call or a block, the state as it is -/
theorem Inv.call' {s' : Shared} {ch : List Addr} (I : Inv X pins σ H s) (ho : s'.os = s.os) (u : Un (frs X.stack) ch H H' s.heap s'.heap) (hok : HOk X.prog X.w H' s'.heap) (hg : AllBare s'.gens)
    (hch : ∀ b ∈ ch, (b ∈ X.ex ∨ X.s₀.heap.objs.size ≤ b) ∧ b ≠ X.env.locals ∧ (∀ x c, X.env.cells.lookup x = some c → c ≠ b) ∧ ∀ p ∈ X.pn ++ pins, p.1 ≠ b) : Inv X pins σ H' s' := by
  obtain ⟨h', g', d', t', o'⟩ := s'
  have e : o' = s.os := ho
  subst e
  exact I.call (g' := g') (t' := t') (d' := d') u hok hg hch
end

/-! ### the judgements -/
/-- an exception: its class, its own dict's address (where it has one), the abstract heap behind it -/
abbrev XK := Value → Option Addr → Hp → Prop
abbrev St := List (Option V)
abbrev VK := V → Hp → Prop
/-- an expression's reading; a test's; an argument list's -/
abbrev TE := St → Hp → VK → Prop
abbrev TT := St → Hp → (Bool → Hp → Prop) → Prop
abbrev TA := St → Hp → (List V → Hp → Prop) → Prop
/-- what is wanted behind a statement -/
structure Ends where
  nx : St → Hp → Prop
  rt : VK
  bk : St → Hp → Prop := fun _ _ => False
  ct : St → Hp → Prop := fun _ _ => False
abbrev TS := Ends → St → Hp → Prop

def EP (X : Cx) (pins : List (Addr × Obj)) (σ : St) (Q : VK) (u : Value) (s' : Shared) : Prop := ∃ v H', Inv X pins σ H' s' ∧ RelV v u ∧ Q v H'
def TP (X : Cx) (pins : List (Addr × Obj)) (σ : St) (Q : Bool → Hp → Prop) (b : Bool) (s' : Shared) : Prop := ∃ H', Inv X pins σ H' s' ∧ Q b H'
def AP (X : Cx) (pins : List (Addr × Obj)) (σ : St) (Q : List V → Hp → Prop) (us : List Value) (s' : Shared) : Prop := ∃ vs H', Inv X pins σ H' s' ∧ Vals vs us ∧ Q vs H'
def SP (X : Cx) (pins : List (Addr × Obj)) (D : Ends) (f : Flow) (s' : Shared) : Prop :=
  match f with
  | .next => ∃ σ' H', Inv X pins σ' H' s' ∧ D.nx σ' H'
  | .brk => ∃ σ' H', Inv X pins σ' H' s' ∧ D.bk σ' H'
  | .cont => ∃ σ' H', Inv X pins σ' H' s' ∧ D.ct σ' H'
  | .ret u => ∃ v σ' H', Inv X pins σ' H' s' ∧ RelV v u ∧ D.rt v H'

def PE (X : Cx) (e : Expr) (t : TE) : Prop :=
  ∀ (pins : List (Addr × Obj)) (s : Shared) (σ : St) (H : Hp) (Q : VK), Inv X pins σ H s → t σ H Q → wpAny (model X.prog X.w) X.A (eval e X.env) (EP X pins σ Q) X.xe s
def PT (X : Cx) (e : Expr) (t : TT) : Prop :=
  ∀ (pins : List (Addr × Obj)) (s : Shared) (σ : St) (H : Hp) (Q : Bool → Hp → Prop), Inv X pins σ H s → t σ H Q → wpAny (model X.prog X.w) X.A (isTrue e X.env (eval e X.env)) (TP X pins σ Q) X.xe s
/-- a test whatever its 'whole' is (and, or) -/
def PW (X : Cx) (e : Expr) (t : TT) : Prop :=
  ∀ (whole : Sem Value) (pins : List (Addr × Obj)) (s : Shared) (σ : St) (H : Hp) (Q : Bool → Hp → Prop), Inv X pins σ H s → t σ H Q → wpAny (model X.prog X.w) X.A (isTrue e X.env whole) (TP X pins σ Q) X.xe s
theorem PW.pt {X : Cx} {e : Expr} {t : TT} (h : PW X e t) : PT X e t := h _
/-- an argument list (no star), from the left -/
def PA (X : Cx) (es : List Expr) (t : TA) : Prop :=
  ∀ (pos : Pos) (pins : List (Addr × Obj)) (s : Shared) (σ : St) (H : Hp) (Q : List V → Hp → Prop), Inv X pins σ H s → t σ H Q → wpAny (model X.prog X.w) X.A (spliced (backTo pos (starEach es X.env))) (AP X pins σ Q) X.xe s
def PS (X : Cx) (st : Stmt) (t : TS) : Prop :=
  ∀ (pins : List (Addr × Obj)) (s : Shared) (σ : St) (H : Hp) (D : Ends), Inv X pins σ H s → t D σ H → wpAny (model X.prog X.w) X.A (exec st X.env) (SP X pins D) X.xe s
def PSs (X : Cx) (st : List Stmt) (t : TS) : Prop :=
  ∀ (pins : List (Addr × Obj)) (s : Shared) (σ : St) (H : Hp) (D : Ends), Inv X pins σ H s → t D σ H → wpAny (model X.prog X.w) X.A (execs st X.env) (SP X pins D) X.xe s
/-- weaken the end -/
theorem thn {α : Type} {t : Sem α} {Q Q' : α → Shared → Prop} {M : Model} {A : Around} {E : Value → Shared → Prop} {s : Shared} (h : wpAny M A t Q E s) (hQ : ∀ a s, Q a s → Q' a s) : wpAny M A t Q' E s := wpAny_mono h hQ fun _ _ x => x
end L2

namespace L2
open PySem PySem.Spec PyProof.Rows
section
variable {X : Cx}

/-! ### names and constants -/
def tVar (i : Nat) : TE := fun σ H Q => ∃ v, σ[i]? = some (some v) ∧ Q v H
def tC (v : V) : TE := fun _ H Q => Q v H
theorem pe_var {i : Nat} {x : Str} {pos : Pos} (hN : X.N[i]? = some x) (hv : Vis X.env.scope x) (hd : (x == ("__debug__" : Str)) = false := by decide) (hcd : (x == ("__classdict__" : Str)) = false := by decide) : PE X (.Name x pos) (tVar i) := by
  intro pins s σ H Q I h
  obtain ⟨v, e, h⟩ := h
  obtain ⟨m, hn, hl⟩ := I.loc
  obtain ⟨u, r, l⟩ := hl i x v hN e hv
  have fin : EP X pins σ Q u s := ⟨v, H, I, r, h⟩
  rcases l with ⟨hk, hm⟩ | ⟨hk, c, hc, hcell⟩
  · exact wpAny_Name (wpAny_loadName_local I.ok.kind hk hn hm fin) hd
  · rcases hk with hk | hk
    · exact wpAny_Name (wpAny_loadName_cell I.ok.kind hk hc hcell fin) hd
    · exact wpAny_Name (wpAny_loadName_free I.ok.kind hk hc hcell fin hcd) hd
theorem pe_int {i j pos} : PE X (.Constant (.int i) j pos) (tC (.int i)) := fun _ _ _ H _ I h => wpAny_Constant_int ⟨.int i, H, I.tok _, ⟨_, rfl⟩, h⟩
theorem pe_bl {b j pos} : PE X (.Constant (.bool b) j pos) (tC (.bl b)) := fun _ _ _ H _ I h => Constant_bool ⟨.bl b, H, I, rfl, h⟩
theorem pe_non {j pos} : PE X (.Constant .none j pos) (tC .non) := fun _ _ _ H _ I h => Constant_none ⟨.non, H, I, rfl, h⟩
theorem pe_str {x j pos} : PE X (.Constant (.str x) j pos) (tC (.str x)) := fun _ _ _ H _ I h => Calls.Constant_str ⟨.str x, H, I.tok _, ⟨_, rfl⟩, h⟩

/-- a global name of the def -/
def Gl (X : Cx) (x : Str) : Prop := X.env.kindOf x = some .globalImplicit
theorem ld_glob {E : Value → Shared → Prop} {pins : List (Addr × Obj)} {s : Shared} {σ : St} {H : Hp} {x : Str} {u : Value} {pos : Pos} {Q : Value → Shared → Prop} (I : Inv X pins σ H s) (hg : Gl X x) (hm : X.mg x = some u) (h : Q u s)
    (hd : (x == ("__debug__" : Str)) = false := by decide) : wpAny (model X.prog X.w) X.A (eval (.Name x pos) X.env) Q E s :=
  Calls.Name_function_global I.ok.kind hg (Calls.loadGlobal_global (by rw [I.ok.glob]; exact I.mod.glob.keeps I.bk) hm h) hd
theorem ld_blt {E : Value → Shared → Prop} {pins : List (Addr × Obj)} {s : Shared} {σ : St} {H : Hp} {x : Str} {u : Value} {pos : Pos} {Q : Value → Shared → Prop} (I : Inv X pins σ H s) (hg : Gl X x) (hm : X.mg x = none) (hv : bootBuiltins x = some u) (h : Q u s)
    (hn : x ≠ "__name__" := by decide) (hd : (x == ("__debug__" : Str)) = false := by decide) : wpAny (model X.prog X.w) X.A (eval (.Name x pos) X.env) Q E s := by
  obtain ⟨mb, h1, h2⟩ := I.mod.blt
  exact Calls.Name_function_global I.ok.kind hg (Calls.loadGlobal_builtin (by rw [I.ok.glob]; exact I.mod.glob.keeps I.bk) hm (by rw [I.ok.blt]; exact h1.keeps I.bk) ((h2 x hn).trans hv) h) hd
/-- a module's constant, a class, a function, as a value -/
theorem pe_glob {x : Str} {v : V} {u : Value} {pos : Pos} (hg : Gl X x) (hm : X.mg x = some u) (r : RelV v u) (hd : (x == ("__debug__" : Str)) = false := by decide) : PE X (.Name x pos) (tC v) :=
  fun _ _ _ H _ I h => ld_glob I hg hm ⟨v, H, I, r, h⟩ hd
theorem pe_bltn {x : Str} {v : V} {u : Value} {pos : Pos} (hg : Gl X x) (hm : X.mg x = none) (hv : bootBuiltins x = some u) (r : RelV v u) (hn : x ≠ "__name__" := by decide) (hd : (x == ("__debug__" : Str)) = false := by decide) : PE X (.Name x pos) (tC v) :=
  fun _ _ _ H _ I h => ld_blt I hg hm hv ⟨v, H, I, r, h⟩ hn hd

/-! ### arithmetic -/
/-- two ints -/
def t2I (ta tb : TE) (k : Int → Int → Hp → Prop) : St → Hp → Prop := fun σ H => ta σ H fun x H1 => tb σ H1 fun y H2 => ∃ i j, x = .int i ∧ y = .int j ∧ k i j H2
def tAdd (ta tb : TE) : TE := fun σ H Q => t2I ta tb (fun i j H2 => Q (.int (i + j)) H2) σ H
def tSub (ta tb : TE) : TE := fun σ H Q => t2I ta tb (fun i j H2 => Q (.int (i - j)) H2) σ H
/-- the left factor below 2^64 -/
def tMul (ta tb : TE) : TE := fun σ H Q => t2I ta tb (fun i j H2 => (-(2 ^ 64) < i ∧ i < 2 ^ 64) ∧ Q (.int (i * j)) H2) σ H
variable {a b : Expr} {ta tb : TE} {pos : Pos}
/-! ### comparisons -/
def PC (X : Cx) (op : CmpOp) (a b : Expr) (t : TE) : Prop :=
  ∀ (pins : List (Addr × Obj)) (s : Shared) (σ : St) (H : Hp) (Q : VK), Inv X pins σ H s → t σ H Q →
    wpAny (model X.prog X.w) X.A (eval a X.env) (fun v s₁ => wpAny (model X.prog X.w) X.A (eval b X.env) (fun u s₂ => wpAny (model X.prog X.w) X.A (compareOp op v u) (EP X pins σ Q) X.xe s₂) X.xe s₁) X.xe s
def tCmp (p : Int → Int → Bool) (ta tb : TE) : TE := fun σ H Q => t2I ta tb (fun i j H2 => Q (.bl (p i j)) H2) σ H
abbrev tLt : TE → TE → TE := tCmp fun i j => decide (i < j)
abbrev tLe : TE → TE → TE := tCmp fun i j => decide (i ≤ j)
abbrev tGt : TE → TE → TE := tCmp fun i j => decide (j < i)
abbrev tGe : TE → TE → TE := tCmp fun i j => decide (j ≤ i)
abbrev tEqI : TE → TE → TE := tCmp fun i j => decide (i = j)
abbrev tNeI : TE → TE → TE := tCmp fun i j => !decide (i = j)
/-- is None -/
def tIsN (ta : TE) : TE := fun σ H Q => ta σ H fun x H1 => Q (.bl (decide (x = .non))) H1
def tNotN (ta : TE) : TE := fun σ H Q => ta σ H fun x H1 => Q (.bl (!decide (x = .non))) H1
/-- a comparison as a value, as a test -/
def tB (t : TE) : TT := fun σ H Q => t σ H fun x H1 => ∃ c, x = .bl c ∧ Q c H1
/-- an expression whose value is a bool, as a test -/
theorem pt_val {e : Expr} {t : TE} (h : PE X e t) (he : ∀ whole, isTrue e X.env whole = (do let v ← whole; standAt e.pos; holding [v] (truthy v)) := by intro _; rfl) : PT X e (tB t) := by
  intro pins s σ H Q I hw
  refine isTrue_plain (thn (h pins s σ H _ I hw) fun v s1 ⟨x, H1, I1, r1, q1⟩ => ?_) (he _)
  obtain ⟨d, rfl, q⟩ := q1
  cases r1
  exact wpAny_truthy_bool ⟨H1, I1, q⟩

/-! ### and, or, not -/
variable {tA tB' : TT} {rest : List Expr}
def tAnd (t u : TT) : TT := fun σ H Q => t σ H fun c H1 => if c = true then u σ H1 Q else Q false H1
def tOr (t u : TT) : TT := fun σ H Q => t σ H fun c H1 => if c = true then Q true H1 else u σ H1 Q
def tNot (t : TT) : TT := fun σ H Q => t σ H fun c H1 => Q (!c) H1
theorem pw_and1 (ha : PT X a tA) : PW X (.BoolOp .And [a] pos) tA := by
  intro wh pins s σ H Q I h
  refine isTrue_and (thn (ha pins s σ H Q I h) fun c s1 e => ?_)
  cases c with
  | true => exact isTrue_and_nil e
  | false => exact e
theorem pw_or1 (ha : PT X a tA) : PW X (.BoolOp .Or [a] pos) tA := by
  intro wh pins s σ H Q I h
  refine isTrue_or (thn (ha pins s σ H Q I h) fun c s1 e => ?_)
  cases c with
  | false => exact isTrue_or_nil e
  | true => exact e
theorem pw_and (ha : PT X a tA) (hb : PW X (.BoolOp .And (b :: rest) pos) tB') : PW X (.BoolOp .And (a :: b :: rest) pos) (tAnd tA tB') := by
  intro wh pins s σ H Q I h
  refine isTrue_and (thn (ha pins s σ H _ I h) fun c s1 ⟨H1, I1, q1⟩ => ?_)
  cases c with
  | true => exact hb wh pins s1 σ H1 Q I1 q1
  | false => exact ⟨H1, I1, q1⟩
theorem pw_or (ha : PT X a tA) (hb : PW X (.BoolOp .Or (b :: rest) pos) tB') : PW X (.BoolOp .Or (a :: b :: rest) pos) (tOr tA tB') := by
  intro wh pins s σ H Q I h
  refine isTrue_or (thn (ha pins s σ H _ I h) fun c s1 ⟨H1, I1, q1⟩ => ?_)
  cases c with
  | true => exact ⟨H1, I1, q1⟩
  | false => exact hb wh pins s1 σ H1 Q I1 q1
theorem pt_not (ha : PT X a tA) : PT X (.UnaryOp .Not a pos) (tNot tA) := by
  intro pins s σ H Q I h
  exact isTrue_not (ha pins s σ H (fun c H1 => Q (!c) H1) I h)
/-- .. as values (bools) -/
def tAndV (ta tb : TE) : TE := fun σ H Q => ta σ H fun x H1 => ∃ c, x = .bl c ∧ if c = true then tb σ H1 Q else Q (.bl false) H1
def tOrV (ta tb : TE) : TE := fun σ H Q => ta σ H fun x H1 => ∃ c, x = .bl c ∧ if c = true then Q (.bl true) H1 else tb σ H1 Q
def tNotV (ta : TE) : TE := fun σ H Q => ta σ H fun x H1 => ∃ c, x = .bl c ∧ Q (.bl (!c)) H1
theorem pe_one {op} {t : TE} (h : PE X a t) : PE X (.BoolOp op [a] pos) t := fun pins s σ H Q I hw => BoolOp_one (h pins s σ H Q I hw)
theorem pe_and (ha : PE X a ta) (hb : PE X (.BoolOp .And (b :: rest) pos) tb) : PE X (.BoolOp .And (a :: b :: rest) pos) (tAndV ta tb) := by
  intro pins s σ H Q I h
  refine BoolOp_and (thn (ha pins s σ H _ I h) fun v s1 ⟨x, H1, I1, r1, q1⟩ => ?_)
  obtain ⟨c, rfl, q1⟩ := q1
  cases r1
  refine wpAny_truthy_bool ?_
  cases c with
  | true => exact hb pins s1 σ H1 Q I1 q1
  | false => exact ⟨.bl false, H1, I1, rfl, q1⟩
theorem pe_not (ha : PE X a ta) : PE X (.UnaryOp .Not a pos) (tNotV ta) := by
  intro pins s σ H Q I h
  refine UnaryOp_ (thn (ha pins s σ H _ I h) fun v s1 ⟨x, H1, I1, r1, q1⟩ => ?_)
  obtain ⟨c, rfl, q1⟩ := q1
  cases r1
  exact not_of (wpAny_truthy_bool ⟨.bl (!c), H1, I1, rfl, q1⟩)
/-- a if t else b -/
def tIf (t : TT) (ta tb : TE) : TE := fun σ H Q => t σ H fun c H1 => if c = true then ta σ H1 Q else tb σ H1 Q
theorem pe_ifExp {c : Expr} (hc : PT X c tA) (ha : PE X a ta) (hb : PE X b tb) : PE X (.IfExp c a b pos) (tIf tA ta tb) := by
  intro pins s σ H Q I h
  refine wpAny_IfExp (thn (hc pins s σ H _ I h) fun d s1 ⟨H1, I1, q1⟩ => ?_)
  cases d with
  | true => exact ha pins s1 σ H1 Q I1 q1
  | false => exact hb pins s1 σ H1 Q I1 q1
end
end L2

namespace L2
open PySem PySem.Spec PyProof.Rows

/-! ### a list, a tuple that is read: tracked, frozen, or an object of the module -/
def SqL (K : PySem.W.Frag) (H : Hp) (a : Addr) (xs : List V) : Prop :=
  Rd H a (.lst xs) ∨
    ∃ (o : Obj) (its : Array Value) (n : Nat), K.lookup a = some o ∧ o.cls = .type "list" ∧ o.dict = none ∧ o.data = .seq its n ∧ its.size ≤ sizeLine ∧ Vals xs its.toList
def SqT (K : PySem.W.Frag) (H : Hp) (a : Addr) (xs : List V) : Prop :=
  Rd H a (.tup xs) ∨
    ∃ (o : Obj) (its : Array Value) (n : Nat), K.lookup a = some o ∧ o.cls = .type "tuple" ∧ o.data = .seq its n ∧ its.size ≤ sizeLine ∧ Vals xs its.toList
def absV : Value → Option V
  | .none => some .non
  | .bool b => some (.bl b)
  | .int i _ => some (.int i)
  | .str x _ => some (.str x)
  | .bytes b _ => some (.byt b)
  | .float b _ => some (.flt b)
  | .ref a => some (.ref a)
  | .type n => some (.ty n)
  | _ => none
theorem RelV.abs {x : V} {u : Value} (r : RelV x u) : absV u = some x := by
  cases x with
  | non => cases r; rfl
  | bl _ => cases r; rfl
  | int _ => obtain ⟨t, rfl⟩ := r; rfl
  | str _ => obtain ⟨t, rfl⟩ := r; rfl
  | byt _ => obtain ⟨t, rfl⟩ := r; rfl
  | flt _ => obtain ⟨t, rfl⟩ := r; rfl
  | ref _ => cases r; rfl
  | ty _ => cases r; rfl
theorem RelV.inj {x y : V} {u : Value} (r : RelV x u) (q : RelV y u) : x = y := Option.some.inj (r.abs.symm.trans q.abs)
theorem Vals.inj : ∀ {xs ys : List V} {us : List Value}, Vals xs us → Vals ys us → xs = ys
  | _, _, _, .nil, .nil => rfl
  | _, _, _, .cons r t, .cons r' t' => by rw [r.inj r', Vals.inj t t']
section
variable {X : Cx} {pins : List (Addr × Obj)} {σ : St} {H : Hp} {s : Shared} {a : Addr} {xs ys : List V}
theorem SqL.of {K : PySem.W.Frag} (h : H a = some (.lst xs)) : SqL K H a xs := .inl (.inl h)
theorem SqT.of {K : PySem.W.Frag} (h : H a = some (.tup xs)) : SqT K H a xs := .inl (.inl h)
theorem Inv.list (I : Inv X pins σ H s) (h : SqL X.K H a xs) : ∃ its : List Value, Vals xs its ∧ PlainL s.heap a its.toArray ∧ xs.length ≤ sizeLine := by
  rcases h with h | ⟨o, its, n, hk, hc, hd, hs, hz, r⟩
  · obtain ⟨z, its, n, r, e⟩ := h.ok I.hok
    exact ⟨its, r, ⟨_, n, e, rfl, rfl, rfl⟩, z⟩
  · refine ⟨its.toList, r, ⟨o, n, I.kIn a o hk, hc, hd, by simpa using hs⟩, ?_⟩
    have e := r.length
    simp only [Array.length_toList] at e
    omega
theorem Inv.tuple (I : Inv X pins σ H s) (h : SqT X.K H a xs) : ∃ its : List Value, Vals xs its ∧ IsTup s.heap a its.toArray ∧ xs.length ≤ sizeLine := by
  rcases h with h | ⟨o, its, n, hk, hc, hs, hz, r⟩
  · obtain ⟨z, its, r, p⟩ := h.ok I.hok
    exact ⟨its, r, p, z⟩
  · refine ⟨its.toList, r, ⟨o, I.kIn a o hk, hc, n, by simpa using hs⟩, ?_⟩
    have e := r.length
    simp only [Array.length_toList] at e
    omega
theorem Inv.list_inj (I : Inv X pins σ H s) (h : SqL X.K H a xs) (h' : SqL X.K H a ys) : xs = ys := by
  obtain ⟨its, r, ⟨o, n, e, _, _, d⟩, _⟩ := I.list h
  obtain ⟨its', r', ⟨o', n', e', _, _, d'⟩, _⟩ := I.list h'
  rw [e] at e'; cases e'
  rw [d] at d'
  injection d' with d1 _
  have : its = its' := by simpa using congrArg Array.toList d1
  subst this
  exact r.inj r'
end

/-! ### another wish about exceptions -/
abbrev Cx.wish (X : Cx) (E : Value → Shared → Prop) : Cx := { X with xe := E }
/-- no exception leaves -/
abbrev Cx.nox (X : Cx) : Cx := X.wish fun _ _ => False
theorem Cx.Ok.wish {X : Cx} (ok : X.Ok) (E : Value → Shared → Prop) : (X.wish E).Ok :=
  ⟨ok.mod, ok.kind, ok.glob, ok.blt, ok.above, ok.inj, ok.has, ok.cab, ok.hd, ok.frames, ok.stk, ok.exf, ok.bs, ok.bsz, ok.noex, ok.exfs, ok.funs, ok.frf⟩
theorem Cx.Ok.unwish {X : Cx} {E : Value → Shared → Prop} (ok : (X.wish E).Ok) : X.Ok :=
  ⟨ok.mod, ok.kind, ok.glob, ok.blt, ok.above, ok.inj, ok.has, ok.cab, ok.hd, ok.frames, ok.stk, ok.exf, ok.bs, ok.bsz, ok.noex, ok.exfs, ok.funs, ok.frf⟩
section
variable {X : Cx} {pins : List (Addr × Obj)} {σ : St} {H : Hp} {s : Shared} {E : Value → Shared → Prop}
theorem Inv.wish (I : Inv X pins σ H s) (E : Value → Shared → Prop) : Inv (X.wish E) pins σ H s := ⟨I.ok.wish E, I.os, I.bare, I.base, I.loc, I.cell, I.free, I.freeC, I.pin, I.hok, I.len⟩
theorem Inv.unwish (I : Inv (X.wish E) pins σ H s) : Inv X pins σ H s := ⟨I.ok.unwish, I.os, I.bare, I.base, I.loc, I.cell, I.free, I.freeC, I.pin, I.hok, I.len⟩
theorem SP.unwish {D : Ends} {f : Flow} {s' : Shared} (h : SP (X.wish E) pins D f s') : SP X pins D f s' := by
  cases f with
  | next => obtain ⟨σ', H', I, q⟩ := h; exact ⟨σ', H', I.unwish, q⟩
  | brk => obtain ⟨σ', H', I, q⟩ := h; exact ⟨σ', H', I.unwish, q⟩
  | cont => obtain ⟨σ', H', I, q⟩ := h; exact ⟨σ', H', I.unwish, q⟩
  | ret u => obtain ⟨v, σ', H', I, r, q⟩ := h; exact ⟨v, σ', H', I.unwish, r, q⟩
theorem PSs.nox {st : List Stmt} {t : TS} (h : PSs X.nox st t) : PSs X st t := fun pins s σ H D I hw =>
  wpAny_mono (h pins s σ H D (I.wish _) hw) (fun _ _ q => q.unwish) fun _ _ z => False.elim z
end

/-! ### blocks and small statements -/
section
variable {X : Cx} {st : Stmt} {rest : List Stmt} {t u : TS} {e : Expr} {te : TE} {pos : Pos}
def tNext : TS := fun D σ H => D.nx σ H
def tSeq (t u : TS) : TS := fun D σ H => t { D with nx := u D } σ H
theorem pss_nil : PSs X [] tNext := fun _ _ σ H _ I h => wpAny_execs_nil ⟨σ, H, I, h⟩
theorem pss_cons (h1 : PS X st t) (h2 : PSs X rest u) : PSs X (st :: rest) (tSeq t u) := by
  intro pins s σ H D I h
  refine wpAny_execs_cons (thn (h1 pins s σ H { D with nx := u D } I h) fun f s1 q => ?_)
  cases f with
  | next =>
    obtain ⟨σ', H', I', q⟩ := q
    exact h2 pins s1 σ' H' D I' q
  | ret v => exact q
  | brk => exact q
  | cont => exact q
theorem pss_one (h1 : PS X st t) : PSs X [st] t := by
  intro pins s σ H D I h
  refine wpAny_execs_cons (thn (h1 pins s σ H D I h) fun f s1 q => ?_)
  cases f with
  | next => exact wpAny_execs_nil q
  | ret v => exact q
  | brk => exact q
  | cont => exact q
def tBreak : TS := fun D σ H => D.bk σ H
def tCont : TS := fun D σ H => D.ct σ H
/-- in a def's body nothing is shown -/
theorem Inv.quiet {pins : List (Addr × Obj)} {σ : St} {H : Hp} {s : Shared} (I : Inv X pins σ H s) : interactive X.env = false := by simp [interactive, I.ok.kind]
/-- an expression whose value is dropped -/
def tDrop (te : TE) : TS := fun D σ H => te σ H fun _ H1 => D.nx σ H1
theorem ps_expr (he : PE X e te) (hs : swapsWith e none pos.line X.env = pure false := by rfl) : PS X (.Expr e pos) (tDrop te) := by
  intro pins s σ H D I h
  exact wpAny_Expr_any (thn (he pins s σ H _ I h) fun v s1 ⟨x, H1, I1, r1, q1⟩ => ⟨σ, H1, I1, q1⟩) I.quiet hs
def tRet (te : TE) : TS := fun D σ H => te σ H D.rt
theorem ps_ret (he : PE X e te) : PS X (.Return (some e) pos) (tRet te) := by
  intro pins s σ H D I h
  exact wpAny_Return_some (thn (he pins s σ H _ I h) fun v s1 ⟨x, H1, I1, r1, q1⟩ => ⟨x, σ, H1, I1, r1, q1⟩)
def tRetN : TS := fun D _ H => D.rt .non H
def tIfS (c : TT) (t u : TS) : TS := fun D σ H => c σ H fun b H1 => if b = true then t D σ H1 else u D σ H1
theorem ps_if {c : Expr} {a b : List Stmt} {tc : TT} (hc : PT X c tc) (ha : PSs X a t) (hb : PSs X b u) : PS X (.If c a b pos) (tIfS tc t u) := by
  intro pins s σ H D I h
  refine wpAny_If (thn (hc pins s σ H _ I h) fun d s1 ⟨H1, I1, q1⟩ => ?_)
  cases d with
  | true => exact ha pins s1 σ H1 D I1 q1
  | false => exact hb pins s1 σ H1 D I1 q1
/-- code that the proof never comes to -/
def tNever : TS := fun _ _ _ => False
theorem ps_never : PS X st tNever := fun _ _ _ _ _ _ h => h.elim
end

/-! ### targets -/
abbrev TG := V → St → Hp → (St → Hp → Prop) → Prop
abbrev TGs := List V → St → Hp → (St → Hp → Prop) → Prop
def PG (X : Cx) (target : Expr) (t : TG) : Prop :=
  ∀ (pins : List (Addr × Obj)) (s : Shared) (σ : St) (H : Hp) (v : V) (u : Value) (Q : St → Hp → Prop), Inv X pins σ H s → RelV v u → t v σ H Q →
    wpAny (model X.prog X.w) X.A (assign target X.env u) (fun _ s' => ∃ σ' H', Inv X pins σ' H' s' ∧ Q σ' H') X.xe s
/-- several targets, one after another -/
def PGs (X : Cx) (ts : List Expr) (t : TGs) : Prop :=
  ∀ (pins : List (Addr × Obj)) (s : Shared) (σ : St) (H : Hp) (vs : List V) (us : List Value) (Q : St → Hp → Prop), Inv X pins σ H s → Vals vs us → t vs σ H Q →
    wpAny (model X.prog X.w) X.A (assignInOrder ((assignEach ts X.env).map (·.2)) us) (fun _ s' => ∃ σ' H', Inv X pins σ' H' s' ∧ Q σ' H') X.xe s
/-- o[i] = v, by values -/
abbrev TSet := V → V → V → Hp → (Hp → Prop) → Prop
def PSet (X : Cx) (t : TSet) : Prop :=
  ∀ (pins : List (Addr × Obj)) (s : Shared) (σ : St) (H : Hp) (o i v : V) (ov iv u : Value) (Q : Hp → Prop), Inv X pins σ H s → RelV o ov → RelV i iv → RelV v u → t o i v H Q →
    wpAny (model X.prog X.w) X.A (setItem ov iv u) (fun _ s' => ∃ H', Inv X pins σ H' s' ∧ Q H') X.xe s
/-- a op= b, by values -/
abbrev TIp := V → V → Hp → VK → Prop
def PIp (X : Cx) (op : Operator) (t : TIp) : Prop :=
  ∀ (pins : List (Addr × Obj)) (s : Shared) (σ : St) (H : Hp) (x y : V) (v u : Value) (Q : VK), Inv X pins σ H s → RelV x v → RelV y u → t x y H Q →
    wpAny (model X.prog X.w) X.A (inplaceOp op v u) (EP X pins σ Q) X.xe s
section
variable {X : Cx} {pos : Pos}
def gName (i : Nat) : TG := fun v σ H Q => Q (σ.set i (some v)) H
theorem pg_name {i : Nat} {x : Str} (hN : X.N.Nodup) (hi : X.N[i]? = some x) (hx : Loc X.env.scope x) (hf : X.fn x = true ∨ X.env.scope.names.lookup x = some .local := by first | exact .inl rfl | exact .inr rfl | assumption) : PG X (.Name x pos) (gName i) := by
  intro pins s σ H v u Q I r h
  exact wpAny_assign_Name (store_ok I hN hi hx r (fun s' I' => ⟨_, H, I', h⟩) hf)
def gNil : TGs := fun vs σ H Q => vs = [] ∧ Q σ H
def gCons (t : TG) (u : TGs) : TGs := fun vs σ H Q => ∃ v r, vs = v :: r ∧ t v σ H fun σ' H' => u r σ' H' Q
theorem pgs_nil : PGs X [] gNil := by
  intro pins s σ H vs us Q I r h
  obtain ⟨e, h⟩ := h
  subst e
  cases r
  exact assignInOrder_nil ⟨σ, H, I, h⟩
theorem pgs_cons {e : Expr} {es : List Expr} {t : TG} {u : TGs} (h1 : PG X e t) (h2 : PGs X es u)
    (hs : (assignEach (e :: es) X.env).map (·.2) = assign e X.env :: (assignEach es X.env).map (·.2) := by rfl) : PGs X (e :: es) (gCons t u) := by
  intro pins s σ H vs us Q I r h
  obtain ⟨v, vr, e1, h⟩ := h
  subst e1
  cases r with
  | cons r rr =>
    rw [hs]
    refine assignInOrder_cons (thn (h1 pins s σ H _ _ _ I r h) fun _ s1 ⟨σ1, H1, I1, q1⟩ => ?_)
    exact h2 pins s1 σ1 H1 _ _ Q I1 rr q1
/-- (a, b, ..) = a tuple of that length -/
def gTup (K : PySem.W.Frag) (n : Nat) (t : TGs) : TG := fun v σ H Q => ∃ a xs, v = .ref a ∧ SqT K H a xs ∧ xs.length = n ∧ t xs σ H Q
theorem pg_tup {es : List Expr} {k : Nat} {t : TGs} {n : Nat} (hc : X.calm = true) (h : PGs X es t)
    (hn : (assignEach es X.env).length = n := by rfl) (hst : (assignEach es X.env).findIdx? (·.1) = none := by rfl) : PG X (.Tuple es k pos) (gTup X.K n t) := by
  intro pins s σ H v u Q I r hw
  obtain ⟨a, xs, e1, hq, hl, hw⟩ := hw
  subst e1
  cases r
  obtain ⟨its, rv, ht, hz⟩ := I.tuple hq
  refine assign_Tuple_tuple (I.ok.hd hc) ht (by simp [hn, ← hl, rv.length]) hst fun h' hx => ?_
  have I1 : Inv X pins σ H { s with heap := h' } := I.kept (t' := s.toks) fun b o e => hx b o (Nat.ne_of_lt (Heap.lt_size e)) e
  exact h pins _ σ H xs _ Q I1 (by simpa using rv) hw
/-- o[i] = .. -/
def gSub (to ti : TE) (t : TSet) : TG := fun v σ H Q => to σ H fun o H1 => ti σ H1 fun i H2 => t o i v H2 fun H3 => Q σ H3
/-- target = value -/
def tAsg (te : TE) (g : TG) : TS := fun D σ H => te σ H fun x H1 => g x σ H1 D.nx
/-- name = value -/
theorem ps_set {i : Nat} {x : Str} {e : Expr} {te : TE} {pos' : Pos} (hN : X.N.Nodup) (hi : X.N[i]? = some x) (hx : Loc X.env.scope x) (he : PE X e te) (hs : swapsWith e (some (.Name x pos')) pos.line X.env = pure false := by rfl) (hf : X.fn x = true ∨ X.env.scope.names.lookup x = some .local := by first | exact .inl rfl | exact .inr rfl | assumption) :
    PS X (.Assign [.Name x pos'] e pos) (tAsg te (gName i)) := by
  intro pins s σ H D I h
  refine wpAny_Assign_Name (thn (he pins s σ H _ I h) fun v s1 ⟨y, H1, I1, r1, q1⟩ => ?_) hs
  exact store_ok I1 hN hi hx r1 (fun s2 I2 => ⟨_, H1, I2, q1⟩) hf
/-- a, b = x, y with plain local names: stored from the right; the pair itself is not tracked (the opening rows as in PyProof/Rows/TupAssign.lean:23) -/
def tPar (i j : Nat) (ta : TA) : TS := fun D σ H => ta σ H fun vs H1 => ∃ v w, vs = [v, w] ∧ D.nx ((σ.set i (some v)).set j (some w)) H1
/-- name op= e -/
def tAug (i : Nat) (te : TE) (ti : TIp) : TS := fun D σ H => ∃ x, σ[i]? = some (some x) ∧ te σ H fun y H1 => ti x y H1 fun z H2 => D.nx (σ.set i (some z)) H2
theorem ps_aug {i : Nat} {x : Str} {e : Expr} {te : TE} {op : Operator} {ti : TIp} {pos' : Pos} (hN : X.N.Nodup) (hi : X.N[i]? = some x) (hx : Loc X.env.scope x) (he : PE X e te) (ho : PIp X op ti) (hf : X.fn x = true ∨ X.env.scope.names.lookup x = some .local := by first | exact .inl rfl | exact .inr rfl | assumption) :
    PS X (.AugAssign (.Name x pos') op e pos) (tAug i te ti) := by
  intro pins s σ H D I h
  obtain ⟨v, e1, h⟩ := h
  obtain ⟨m, hn, hl⟩ := I.loc
  have vis : Vis X.env.scope x := by rcases hx with k | k; exact .inl k; exact .inr (.inl k)
  obtain ⟨u, r, l⟩ := hl i x v hi e1 vis
  refine wpAny_AugAssign_Name ?_
  have go : wpAny (model X.prog X.w) X.A (eval e X.env) (fun w s₂ => wpAny (model X.prog X.w) X.A (inplaceOp op u w) (fun r s₃ => wpAny (model X.prog X.w) X.A (storeName X.env x r) (fun _ => SP X pins D .next) X.xe s₃) X.xe s₂) X.xe s := by
    refine thn (he pins s σ H _ I h) fun w s1 ⟨y, H1, I1, r1, q1⟩ => ?_
    refine thn (ho pins s1 σ H1 v y u w _ I1 r r1 q1) fun z s2 ⟨zv, H2, I2, r2, q2⟩ => ?_
    exact store_ok I2 hN hi hx r2 (fun s3 I3 => ⟨_, H2, I3, q2⟩) hf
  rcases l with ⟨hk, hm⟩ | ⟨hk, c, hc, hcell⟩
  · exact wpAny_loadName_local I.ok.kind hk hn hm go
  · rcases hk with hk | hk
    · exact wpAny_loadName_cell I.ok.kind hk hc hcell go
    · rcases hx with k | k
      · have : X.env.scope.names.lookup x = some .free := hk
        rw [k] at this; cases this
      · have : X.env.scope.names.lookup x = some .free := hk
        rw [k] at this; cases this
/-- o[i] op= e -/
def tAugS (to ti te : TE) (tget : V → V → Hp → VK → Prop) (tip : TIp) (tset : TSet) : TS := fun D σ H => to σ H fun o H1 => ti σ H1 fun i H2 => tget o i H2 fun x H3 => te σ H3 fun y H4 => tip x y H4 fun z H5 => tset o i z H5 fun H6 => D.nx σ H6
/-- o[i], by values -/
def PGet (X : Cx) (t : V → V → Hp → VK → Prop) : Prop :=
  ∀ (pins : List (Addr × Obj)) (s : Shared) (σ : St) (H : Hp) (o i : V) (ov iv : Value) (Q : VK), Inv X pins σ H s → RelV o ov → RelV i iv → t o i H Q →
    wpAny (model X.prog X.w) X.A (getItem ov iv) (EP X pins σ Q) X.xe s
/-- ints -/
def ipI (f : Int → Int → Int) : TIp := fun x y H Q => ∃ i j, x = .int i ∧ y = .int j ∧ Q (.int (f i j)) H
theorem ip_add : PIp X .Add (ipI fun i j => i + j) := by
  intro pins s σ H x y v u Q I r1 r2 h
  obtain ⟨i, j, e1, e2, q⟩ := h
  subst e1; subst e2
  obtain ⟨t, rfl⟩ := r1
  obtain ⟨t', rfl⟩ := r2
  exact iadd_int ⟨.int _, H, I.tok _, ⟨_, rfl⟩, q⟩
theorem ip_sub : PIp X .Sub (ipI fun i j => i - j) := by
  intro pins s σ H x y v u Q I r1 r2 h
  obtain ⟨i, j, e1, e2, q⟩ := h
  subst e1; subst e2
  obtain ⟨t, rfl⟩ := r1
  obtain ⟨t', rfl⟩ := r2
  exact isub_int ⟨.int _, H, I.tok _, ⟨_, rfl⟩, q⟩
end

/-! ### while -/
section
variable {X : Cx} {pos : Pos}
/-- the invariant W with its measure -/
def tWhile (c : TT) (tb : TS) : TS := fun D σ H => ∃ W : Nat → St → Hp → Prop, (∃ m, W m σ H) ∧ ∀ m σ H, W m σ H →
  c σ H fun b H1 => if b = true then ∃ N : St → Hp → Prop, (∀ σ' H', N σ' H' → ∃ m', m' < m ∧ W m' σ' H') ∧ tb { D with nx := N, ct := N, bk := D.nx } σ H1 else D.nx σ H1
theorem ps_while {c : Expr} {body : List Stmt} {tc : TT} {tb : TS} (hp : PassesOwn (model X.prog X.w) X.A X.env X.xe) (hc : PT X c tc) (hb : PSs X body tb) : PS X (.While c body [] pos) (tWhile tc tb) := by
  intro pins s σ H D I h
  obtain ⟨W, ⟨m0, w0⟩, turn⟩ := h
  refine wpAny_While (codeAny_whileLoop (fun n s' => ∃ σ' H', Inv X pins σ' H' s' ∧ W n σ' H') ?_ m0 ⟨σ, H, I, w0⟩)
  rintro n s1 ⟨σ1, H1, I1, w1⟩
  refine wpAny_passesOwn hp (thn (hc pins s1 σ1 H1 _ I1 (turn n σ1 H1 w1)) fun b s2 ⟨H2, I2, q2⟩ => ?_)
  cases b with
  | true =>
    obtain ⟨N, hN, q2⟩ := q2
    rw [if_pos rfl]
    refine wpAny_passesOwn hp (thn (hb pins s2 σ1 H2 _ I2 q2) fun f s3 q3 => ?_)
    cases f with
    | next =>
      obtain ⟨σ3, H3, I3, n3⟩ := q3
      obtain ⟨m', hm, w3⟩ := hN σ3 H3 n3
      exact ⟨m', hm, σ3, H3, I3, w3⟩
    | cont =>
      obtain ⟨σ3, H3, I3, n3⟩ := q3
      obtain ⟨m', hm, w3⟩ := hN σ3 H3 n3
      exact ⟨m', hm, σ3, H3, I3, w3⟩
    | brk => exact q3
    | ret v => exact q3
  | false =>
    rw [if_neg Bool.false_ne_true]
    exact wpAny_execs_nil ⟨σ1, H2, I2, q2⟩
end

/-! ### what a loop or a comprehension walks -/
/-- at turn i: it yields x (the heap may grow), or it stops -/
structure It where
  go : Nat → Hp → Prop
  yld : Nat → Hp → V → Hp → Prop
  stop : Nat → Hp → Prop
/-- the iterator's own objects may turn: they are not the frame's, not pinned, younger than the entry (or a comprehension's own) -/
def FpOk (X : Cx) (pins : List (Addr × Obj)) (H : Hp) (b : Addr) : Prop :=
  H b = none ∧ b ≠ X.env.locals ∧ b ∉ X.fs ∧ (b ∈ X.ex ∨ X.s₀.heap.objs.size ≤ b) ∧ (∀ x c, X.env.cells.lookup x = some c → c ≠ b) ∧ ∀ p ∈ X.pn ++ pins, p.1 ≠ b
theorem Inv.fpOk {X : Cx} {pins : List (Addr × Obj)} {σ : St} {H H' : Hp} {s : Shared} {b : Addr} (I : Inv X pins σ H s) (hb : s.heap.objs.size ≤ b) (hn : H' b = none) : FpOk X pins H' b := by
  refine ⟨hn, Nat.ne_of_gt (Nat.lt_of_lt_of_le I.lt hb), I.nofs hb, .inr (Nat.le_trans I.sz hb), fun x c e z => ?_, fun p hp z => ?_⟩
  · obtain ⟨v, q⟩ := I.cell x c e
    exact absurd (Nat.lt_of_lt_of_le q.lt (by rw [z]; exact hb)) (Nat.lt_irrefl _)
  · exact absurd (Nat.lt_of_lt_of_le (Heap.lt_size (I.pin p hp).1) (by rw [z]; exact hb)) (Nat.lt_irrefl _)
structure Turn (P : Program) (w : World) (K : PySem.W.Frag) (tg : Expr) (J : It) (fp : List Addr) (it : Addr) (tn : Nat → Heap → Prop) : Prop where
  mem : it ∈ fp
  obj : ∀ i h, tn i h → ∀ b ∈ fp, ∃ o, h.get? b = some o ∧ ∀ v, o.data ≠ .cell v
  keep : ∀ i h h', tn i h → (∀ b ∈ fp, ∀ o, h.get? b = some o → h'.get? b = some o) → tn i h'
  item : ∀ (X : Cx), X.prog = P → X.w = w → X.K = K → X.calm = true → ∀ (i : Nat) (pins : List (Addr × Obj)) (s : Shared) (σ : St) (H : Hp) (E : Value → Shared → Prop), Inv X pins σ H s → (∀ b ∈ fp, FpOk X pins H b) → tn i s.heap → J.go i H →
    wpAny (model P w) X.A (pyNext (.ref it)) (fun r s1 => ∃ u, r = some u ∧
      wpAny (model P w) X.A (letOwnedTupleGo tg (.ref it) u) (fun _ s2 => ∃ x H', Inv X pins σ H' s2 ∧ RelV x u ∧ J.yld i H x H' ∧ tn (i + 1) s2.heap ∧ ∀ b ∈ fp, H' b = none) E s1) E s
  done : ∀ (X : Cx), X.prog = P → X.w = w → X.K = K → X.calm = true → ∀ (i : Nat) (pins : List (Addr × Obj)) (s : Shared) (σ : St) (H : Hp) (E : Value → Shared → Prop), Inv X pins σ H s → (∀ b ∈ fp, FpOk X pins H b) → tn i s.heap → J.stop i H →
    wpAny (model P w) X.A (pyNext (.ref it)) (fun r s1 => r = none ∧ Inv X pins σ H s1) E s
  self : ∀ (A : Around) (i : Nat) (s : Shared) (Q : Value → Shared → Prop) (E : Value → Shared → Prop), tn i s.heap → Q (.ref it) s → wpAny (model P w) A (pyIter (.ref it)) Q E s
abbrev TI := St → Hp → (It → Hp → Prop) → Prop
/-- an iterator has come -/
def PIE (X : Cx) (pins : List (Addr × Obj)) (σ : St) (tg : Expr) (R : It → Hp → Prop) (itv : Value) (s2 : Shared) : Prop :=
  ∃ (it : Addr) (fp : List Addr) (tn : Nat → Heap → Prop) (J : It) (H' : Hp), itv = .ref it ∧ Inv X pins σ H' s2 ∧ Turn X.prog X.w X.K tg J fp it tn ∧ tn 0 s2.heap ∧ (∀ b ∈ fp, FpOk X pins H' b) ∧ R J H'
def PI (X : Cx) (tg iter : Expr) (wi : TI) : Prop :=
  ∀ (pins : List (Addr × Obj)) (s : Shared) (σ : St) (H : Hp) (R : It → Hp → Prop), Inv X pins σ H s → wi σ H R →
    wpAny (model X.prog X.w) X.A (eval iter X.env) (fun v s1 => wpAny (model X.prog X.w) X.A (pyIter v) (PIE X pins σ tg R) X.xe s1) X.xe s

/-- the step ahead of the store is nothing for an iterator that keeps no tuple -/
theorem go_of {M : Model} {A : Around} {E : Value → Shared → Prop} {s : Shared} {tg : Expr} {it : Addr} {u : Value} {o : Obj} {n : String} {vs : Array Value} {Q : Unit → Shared → Prop} (ho : s.heap.get? it = some o) (hc : o.cls = .type n) (hd : o.data = .fields vs)
    (hn : ["enumerate", "zip", "dict_itemiterator", "dict_reverseitemiterator", "odict_iterator", "itertools.zip_longest", "itertools.pairwise"].contains n = false) (hQ : Q () s) : wpAny M A (letOwnedTupleGo tg (.ref it) u) Q E s := by
  unfold letOwnedTupleGo
  cases tg <;> first
    | exact wpAny_pure hQ
    | (cases u <;> first
        | exact wpAny_pure hQ
        | (refine wpAny_bind (wpAny_load ho ?_)
           rw [hc, hd]
           show wpAny M A (if (["enumerate", "zip", "dict_itemiterator", "dict_reverseitemiterator", "odict_iterator", "itertools.zip_longest", "itertools.pairwise"].contains n && vs[0]? == some (rawInt _)) = true then _ else _) Q E s
           rw [if_neg (by intro h; rw [hn, Bool.false_and] at h; cases h)]
           exact wpAny_pure hQ))

/-- the list at a, as it stands at each turn (a loop may append to it) -/
def Itl (K : PySem.W.Frag) (a : Addr) : It :=
  ⟨fun i H => ∃ xs x, SqL K H a xs ∧ xs[i]? = some x, fun i H x H' => H' = H ∧ ∀ xs, SqL K H a xs → xs[i]? = some x, fun i H => ∃ xs, SqL K H a xs ∧ xs.length ≤ i⟩
def Itt (K : PySem.W.Frag) (a : Addr) : It :=
  ⟨fun i H => ∃ xs x, SqT K H a xs ∧ xs[i]? = some x, fun i H x H' => H' = H ∧ ∀ xs, SqT K H a xs → xs[i]? = some x, fun i H => ∃ xs, SqT K H a xs ∧ xs.length ≤ i⟩
/-- lo, lo + 1, .. (n of them) -/
def Itr (lo : Int) (n : Nat) : It := ⟨fun i _ => i < n, fun i H x H' => H' = H ∧ x = .int (lo + i), fun i _ => n ≤ i⟩
theorem turn_list {P : Program} {w : World} {K : PySem.W.Frag} {tg : Expr} (a it : Addr) : Turn P w K tg (Itl K a) [it] it (fun i h => h.IsListIter it a i) where
  mem := by simp
  obj := fun i h st b hb => by
    have e : b = it := by simpa using hb
    subst e
    obtain ⟨o, e, c, d⟩ := st
    exact ⟨o, e, fun v z => by rw [d] at z; cases z⟩
  keep := fun i h h' st k => st.at fun o e => k it (by simp) o e
  item := by
    intro X hP hw hK hc i pins s σ H E I hf st hg
    subst hP hw hK
    obtain ⟨xs, x, hq, hx⟩ := hg
    obtain ⟨its, rv, p, hz⟩ := I.list hq
    obtain ⟨u, hu, ru⟩ := rv.get hx
    obtain ⟨f0, f1, f2, f3, f4, f5⟩ := hf it (by simp)
    refine wpAny_pyNext_list_item st p.isList (x := u) (by simpa using hu) fun h' st' sb => ?_
    have I1 : Inv X pins σ H { s with heap := h' } := I.turned (t' := s.toks) (fun b o hb e => (sb.2 b hb).trans e) f0 f1 f3 f4 f5
    obtain ⟨o, e, c, d⟩ := id st'
    exact ⟨u, rfl, go_of (s := { s with heap := h' }) e c d (by decide) ⟨x, H, I1, ru, ⟨rfl, fun ys hy => by rw [I.list_inj hy hq]; exact hx⟩, st', fun b hb => (hf b hb).1⟩⟩
  done := by
    intro X hP hw hK hc i pins s σ H E I hf st hg
    subst hP hw hK
    obtain ⟨xs, hq, hx⟩ := hg
    obtain ⟨its, rv, p, hz⟩ := I.list hq
    obtain ⟨f0, f1, f2, f3, f4, f5⟩ := hf it (by simp)
    have hl := rv.length
    exact wpAny_pyNext_list_end (I.ok.hd hc) st p.isList (by simp; omega) fun h' eb => ⟨rfl, I.turned (t' := s.toks) (fun b o hb e => eb b o hb e) f0 f1 f3 f4 f5⟩
  self := fun _ _ _ _ _ st h => wpAny_pyIter_listiter st h
theorem turn_range {P : Program} {w : World} {K : PySem.W.Frag} {tg : Expr} (it : Addr) (lo : Int) (n : Nat) : Turn P w K tg (Itr lo n) [it] it (fun i h => IsRangeIter h it (lo + (i : Nat) * 1) ((n : Int) - (i : Nat)) 1) where
  mem := by simp
  obj := fun i h st b hb => by
    have e : b = it := by simpa using hb
    subst e
    exact ⟨_, st, fun v z => by
      have z' : Data.fields _ = Data.cell v := z
      cases z'⟩
  keep := fun i h h' st k => k it (by simp) _ st
  item := by
    intro X hP hw hK hc i pins s σ H E I hf st hg
    subst hP hw hK
    obtain ⟨f0, f1, f2, f3, f4, f5⟩ := hf it (by simp)
    have W := Walks.range (prog := X.prog) (w := X.w) (I.ok.hd hc) it lo 1 n
    refine W.item i s _ _ hg st fun v h' tk hv st' kk => ?_
    obtain ⟨t, rfl⟩ := hv
    have I1 : Inv X pins σ H { s with heap := h', toks := tk } := I.turned (fun b o hb e => kk b o (by simpa using hb) e) f0 f1 f3 f4 f5
    refine ⟨_, rfl, go_of (s := { s with heap := h', toks := tk }) (n := "range_iterator") st' rfl rfl (by decide) ⟨.int (lo + i), H, I1, ⟨t, ?_⟩, ⟨rfl, rfl⟩, st', fun b hb => (hf b hb).1⟩⟩
    rw [Int.mul_one]
  done := by
    intro X hP hw hK hc i pins s σ H E I hf st hg
    subst hP hw hK
    obtain ⟨f0, f1, f2, f3, f4, f5⟩ := hf it (by simp)
    exact wpAny_pyNext_range_end (I.ok.hd hc) st (by have : n ≤ i := hg; omega) fun h' eb => ⟨rfl, I.turned (t' := s.toks) (fun b o hb e => eb b o hb e) f0 f1 f3 f4 f5⟩
  self := fun _ _ _ _ _ st h => wpAny_pyIter_rangeiter st h
end L2

namespace L2
open PySem PySem.Spec PyProof.Rows
section
variable {X : Cx} {tg : Expr}
def iList (K : PySem.W.Frag) (tl : TE) : TI := fun σ H R => tl σ H fun x H1 => ∃ a, x = .ref a ∧ (∃ xs, SqL K H1 a xs) ∧ R (Itl K a) H1
def iTup (K : PySem.W.Frag) (tl : TE) : TI := fun σ H R => tl σ H fun x H1 => ∃ a, x = .ref a ∧ (∃ xs, SqT K H1 a xs) ∧ R (Itt K a) H1
theorem pi_list {l : Expr} {tl : TE} (hl : PE X l tl) : PI X tg l (iList X.K tl) := by
  intro pins s σ H R I h
  refine thn (hl pins s σ H _ I h) fun v s1 ⟨x, H1, I1, r1, q1⟩ => ?_
  obtain ⟨a, e, ⟨xs, hq⟩, q⟩ := q1
  subst e
  cases r1
  obtain ⟨its, rv, p, hz⟩ := I1.list hq
  refine wpAny_pyIter_list p.isList ?_
  refine ⟨s1.heap.objs.size, [s1.heap.objs.size], _, _, H1, rfl, I1.kept (t' := s1.toks) fun b o e => Heap.get?_push_of_some _ e, turn_list a _, ⟨_, Heap.get?_push_size _ rfl, rfl, rfl⟩, fun b hb => ?_, q⟩
  have e : b = s1.heap.objs.size := by simpa using hb
  subst e
  exact I1.fpOk (Nat.le_refl _) (I1.hok.fresh (Nat.le_refl _))
/-- a range object just made, walked -/
theorem range_it {pins : List (Addr × Obj)} {σ : St} {H : Hp} {s : Shared} {R : It → Hp → Prop} {E : Value → Shared → Prop} {lo hi : Int} {t u v : Tok} {tk : Nat} (I : Inv X pins σ H s) (h1 : -(2 ^ 62) ≤ lo) (h2 : lo < 2 ^ 62) (h3 : -(2 ^ 62) ≤ hi) (h4 : hi < 2 ^ 62)
    (q : R (Itr lo (hi - lo).toNat) H) : wpAny (model X.prog X.w) X.A (pyIter (.ref s.heap.objs.size)) (PIE X pins σ tg R) E { s with heap := s.heap.push { cls := .type "range", data := .fields #[.int lo t, .int hi u, .int 1 v] }, toks := tk } := by
  refine wpAny_pyIter_range (IsRange.new ..) (small_one h1 h2 h3 h4) ?_
  have I1 : Inv X pins σ H { s with heap := s.heap.push { cls := .type "range", data := .fields #[.int lo t, .int hi u, .int 1 v] }, toks := tk } := I.kept fun b o e => Heap.get?_push_of_some _ e
  refine ⟨(s.heap.push { cls := .type "range", data := .fields #[.int lo t, .int hi u, .int 1 v] }).objs.size, [(s.heap.push { cls := .type "range", data := .fields #[.int lo t, .int hi u, .int 1 v] }).objs.size], _, _, H, rfl,
    I1.kept (t' := tk) fun b o e => Heap.get?_push_of_some _ e, turn_range _ lo (hi - lo).toNat, ?_, fun b hb => ?_, q⟩
  · have e1 : lo + ((0 : Nat) : Int) * 1 = lo := by simp
    have e2 : (((hi - lo).toNat : Nat) : Int) - ((0 : Nat) : Int) = Builtin.Range.rangeSize lo hi 1 := by rw [rangeSize_one]; split <;> omega
    show IsRangeIter _ _ (lo + ((0 : Nat) : Int) * 1) ((((hi - lo).toNat : Nat) : Int) - ((0 : Nat) : Int)) 1
    rw [e1, e2]
    exact Heap.get?_push_size _ rfl
  · have e : b = (s.heap.push { cls := .type "range", data := .fields #[.int lo t, .int hi u, .int 1 v] }).objs.size := by simpa using hb
    subst e
    exact I1.fpOk (Nat.le_refl _) (I1.hok.fresh (Nat.le_refl _))
def iRng1 (ta : TA) : TI := fun σ H R => ta σ H fun vs H1 => ∃ j : Int, vs = [.int j] ∧ -(2 ^ 62) ≤ j ∧ j < 2 ^ 62 ∧ R (Itr 0 j.toNat) H1
def iRng2 (ta : TA) : TI := fun σ H R => ta σ H fun vs H1 => ∃ i j : Int, vs = [.int i, .int j] ∧ (-(2 ^ 62) ≤ i ∧ i < 2 ^ 62 ∧ -(2 ^ 62) ≤ j ∧ j < 2 ^ 62) ∧ R (Itr i (j - i).toNat) H1
theorem pi_range1 {a : Expr} {ta : TA} {p pos : Pos} (hg : Gl X "range") (hm : X.mg "range" = none) (ha : PA X [a] ta) (hs : starEach [a] X.env = [(false, eval a X.env)] := by rfl) : PI X tg (.Call (.Name "range" p) [a] [] pos) (iRng1 ta) := by
  intro pins s σ H R I h
  refine Call_ (ld_blt I hg hm boot_range (PyProof.Rows.callWith_type1 (thn (ha pos pins s σ H _ I h) fun us s1 ⟨vs, H1, I1, r1, q1⟩ => ?_) hs rfl))
  obtain ⟨j, e, q1, q2, q⟩ := q1
  subst e
  cases r1 with
  | cons r rr =>
    cases rr
    obtain ⟨t, rfl⟩ := r
    exact call_range_1 (range_it I1 (by omega) (by omega) q1 q2 (by simpa using q))
/-! ### for -/
/-- W: the invariant by the turn and a measure; N: what the body is to reach -/
def tFor (wi : TI) (g : TG) (tb : TS) : TS := fun D σ H => wi σ H fun J H1 => ∃ W : Nat → Nat → St → Hp → Prop, (∃ m, W 0 m σ H1) ∧ ∀ i m σ H, W i m σ H →
  (J.stop i H ∧ D.nx σ H) ∨ (J.go i H ∧ ∃ N : St → Hp → Prop, (∀ σ' H', N σ' H' → ∃ m', m' < m ∧ W (i + 1) m' σ' H') ∧ ∀ x H', J.yld i H x H' → g x σ H' fun σ2 H2 => tb { D with nx := N, ct := N, bk := D.nx } σ2 H2)
/-- the records at fp as they stand -/
def pinsAt (fp : List Addr) (h : Heap) : List (Addr × Obj) := fp.filterMap fun b => (h.get? b).map fun o => (b, o)
theorem mem_pinsAt {fp : List Addr} {h : Heap} {b : Addr} {o : Obj} (hb : b ∈ fp) (e : h.get? b = some o) : (b, o) ∈ pinsAt fp h := List.mem_filterMap.mpr ⟨b, hb, by rw [e]; rfl⟩
theorem of_pinsAt {fp : List Addr} {h : Heap} {p : Addr × Obj} (hp : p ∈ pinsAt fp h) : p.1 ∈ fp ∧ h.get? p.1 = some p.2 := by
  obtain ⟨b, hb, e⟩ := List.mem_filterMap.mp hp
  cases q : h.get? b with
  | none => rw [q] at e; cases e
  | some o =>
    rw [q] at e
    have e' : (b, o) = p := Option.some.inj e
    subst e'
    exact ⟨hb, q⟩
theorem Inv.pinned {pins : List (Addr × Obj)} {σ : St} {H : Hp} {s : Shared} {fp : List Addr} (I : Inv X pins σ H s) (hf : ∀ b ∈ fp, FpOk X pins H b) (ho : ∀ b ∈ fp, ∃ o, s.heap.get? b = some o ∧ ∀ v, o.data ≠ .cell v) : Inv X (pins ++ pinsAt fp s.heap) σ H s :=
  I.pins_of fun p hp => (List.mem_append.mp hp).elim (fun z => I.pin p (List.mem_append_right _ z)) fun z => by
    obtain ⟨hb, e⟩ := of_pinsAt z
    obtain ⟨f0, f1, f2, _⟩ := hf p.1 hb
    obtain ⟨o, e', d⟩ := ho p.1 hb
    rw [e] at e'; cases e'
    exact ⟨e, f0, f1, f2, d⟩
theorem Inv.unpinned {pins pl : List (Addr × Obj)} {σ : St} {H : Hp} {s : Shared} (I : Inv X (pins ++ pl) σ H s) : Inv X pins σ H s := I.pins_of fun p hp => I.pin p (List.mem_append_right _ (List.mem_append_left _ hp))
theorem ps_for {iter : Expr} {body : List Stmt} {wi : TI} {g : TG} {tb : TS} {pos : Pos} (hp : PassesOwn (model X.prog X.w) X.A X.env X.xe) (hc : X.calm = true) (hi : PI X tg iter wi) (hg : PG X tg g) (hb : PSs X body tb)
    (hs : ∀ x, foldedSetIterable iter X.env x = pure x := by intro _; rfl) : PS X (.For tg iter body [] pos) (tFor wi g tb) := by
  intro pins s σ H D I h
  refine wpAny_For (thn (hi pins s σ H _ I h) fun v s1 h1 => thn h1 fun itv s2 h2 => ?_) hs
  obtain ⟨it, fp, tn, J, H2, e, I2, T, st2, f2, W, ⟨m0, w0⟩, turn⟩ := h2
  subst e
  -- what stays true of the iterator's objects through the loop
  have stat : ∀ {H' : Hp}, (∀ b ∈ fp, H' b = none) → ∀ b ∈ fp, FpOk X pins H' b := fun hn b hb => ⟨hn b hb, (f2 b hb).2⟩
  refine codeAny_forLoop_any (fun n s' => ∃ i σ' H', Inv X pins σ' H' s' ∧ tn i s'.heap ∧ (∀ b ∈ fp, H' b = none) ∧ W i n σ' H') ?_ m0 ⟨0, σ, H2, I2, st2, fun b hb => (f2 b hb).1, w0⟩
  rintro n s3 ⟨i, σ3, H3, I3, st3, fr3, w3⟩
  rcases turn i n σ3 H3 w3 with ⟨stop, qn⟩ | ⟨go, N, hN, step⟩
  · refine wpAny_passesOwn hp (thn (T.done X rfl rfl rfl hc i pins s3 σ3 H3 X.xe I3 (stat fr3) st3 stop) fun r s4 ⟨hr, I4⟩ => ?_)
    subst hr
    exact wpAny_execs_nil ⟨σ3, H3, I4, qn⟩
  · refine wpAny_passesOwn hp (thn (T.item X rfl rfl rfl hc i pins s3 σ3 H3 X.xe I3 (stat fr3) st3 go) fun r s4 ⟨u, hr, h4⟩ => ?_)
    subst hr
    refine wpAny_passesOwn hp (thn h4 fun _ s5 ⟨x, H5, I5, r5, y5, st5, fr5⟩ => ?_)
    have I5' := I5.pinned (stat fr5) (T.obj _ _ st5)
    refine wpAny_passesOwn hp (thn (hg _ s5 σ3 H5 x u _ I5' r5 (step x H5 y5)) fun _ s6 ⟨σ6, H6, I6, q6⟩ => ?_)
    refine wpAny_passesOwn hp (thn (hb _ s6 σ6 H6 _ I6 q6) fun f s7 q7 => ?_)
    have again : ∀ {σ7 : St} {H7 : Hp}, Inv X (pins ++ pinsAt fp s5.heap) σ7 H7 s7 → N σ7 H7 → ∃ m, m < n ∧ ∃ i σ' H', Inv X pins σ' H' s7 ∧ tn i s7.heap ∧ (∀ b ∈ fp, H' b = none) ∧ W i m σ' H' := fun {σ7 H7} I7 n7 => by
      obtain ⟨m', hm, w7⟩ := hN σ7 H7 n7
      refine ⟨m', hm, i + 1, σ7, H7, I7.unpinned, T.keep _ _ _ st5 fun b hb o e => (I7.pin (b, o) (List.mem_append_right _ (List.mem_append_right _ (mem_pinsAt hb e)))).1, fun b hb => ?_, w7⟩
      obtain ⟨o, e, d⟩ := T.obj _ _ st5 b hb
      exact (I7.pin (b, o) (List.mem_append_right _ (List.mem_append_right _ (mem_pinsAt hb e)))).2.1
    cases f with
    | next => obtain ⟨σ7, H7, I7, n7⟩ := q7; exact again I7 n7
    | cont => obtain ⟨σ7, H7, I7, n7⟩ := q7; exact again I7 n7
    | brk => obtain ⟨σ7, H7, I7, q7⟩ := q7; exact ⟨σ7, H7, I7.unpinned, q7⟩
    | ret v => obtain ⟨x7, σ7, H7, I7, r7, q7⟩ := q7; exact ⟨x7, σ7, H7, I7.unpinned, r7, q7⟩
end

/-! ### the forms one uses -/
/-- over a list that the body leaves as it is -/
theorem for_list {K : PySem.W.Frag} {a : Addr} {xs : List V} {g : TG} {tb : TS} {D : Ends} {σ : St} {H : Hp} (Pv : Nat → St → Hp → Prop) (h0 : Pv 0 σ H) (hl : ∀ i σ H, i ≤ xs.length → Pv i σ H → SqL K H a xs)
    (hs : ∀ i x σ H, xs[i]? = some x → Pv i σ H → g x σ H fun σ2 H2 => tb { D with nx := Pv (i + 1), ct := Pv (i + 1), bk := D.nx } σ2 H2) (hd : ∀ σ H, Pv xs.length σ H → D.nx σ H) :
    ∃ W : Nat → Nat → St → Hp → Prop, (∃ m, W 0 m σ H) ∧ ∀ i m σ H, W i m σ H →
      ((Itl K a).stop i H ∧ D.nx σ H) ∨ ((Itl K a).go i H ∧ ∃ N : St → Hp → Prop, (∀ σ' H', N σ' H' → ∃ m', m' < m ∧ W (i + 1) m' σ' H') ∧ ∀ x H', (Itl K a).yld i H x H' → g x σ H' fun σ2 H2 => tb { D with nx := N, ct := N, bk := D.nx } σ2 H2) := by
  refine ⟨fun i m σ H => m = xs.length - i ∧ i ≤ xs.length ∧ Pv i σ H, ⟨xs.length, by simp, Nat.zero_le _, h0⟩, ?_⟩
  rintro i m σ H ⟨rfl, hi, p⟩
  have q := hl i σ H hi p
  by_cases hlt : i < xs.length
  · refine .inr ⟨⟨xs, xs[i], q, by simp [hlt]⟩, Pv (i + 1), fun σ' H' p' => ⟨xs.length - (i + 1), by omega, rfl, hlt, p'⟩, fun x H' y => ?_⟩
    obtain ⟨e, y⟩ := y
    subst e
    exact hs i x σ _ (y xs q) p
  · have e : i = xs.length := by omega
    subst e
    exact .inl ⟨⟨xs, q, Nat.le_refl _⟩, hd σ H p⟩
theorem for_range {lo : Int} {n : Nat} {g : TG} {tb : TS} {D : Ends} {σ : St} {H : Hp} (Pv : Nat → St → Hp → Prop) (h0 : Pv 0 σ H)
    (hs : ∀ i σ H, i < n → Pv i σ H → g (.int (lo + i)) σ H fun σ2 H2 => tb { D with nx := Pv (i + 1), ct := Pv (i + 1), bk := D.nx } σ2 H2) (hd : ∀ σ H, Pv n σ H → D.nx σ H) :
    ∃ W : Nat → Nat → St → Hp → Prop, (∃ m, W 0 m σ H) ∧ ∀ i m σ H, W i m σ H →
      ((Itr lo n).stop i H ∧ D.nx σ H) ∨ ((Itr lo n).go i H ∧ ∃ N : St → Hp → Prop, (∀ σ' H', N σ' H' → ∃ m', m' < m ∧ W (i + 1) m' σ' H') ∧ ∀ x H', (Itr lo n).yld i H x H' → g x σ H' fun σ2 H2 => tb { D with nx := N, ct := N, bk := D.nx } σ2 H2) := by
  refine ⟨fun i m σ H => m = n - i ∧ i ≤ n ∧ Pv i σ H, ⟨n, by simp, Nat.zero_le _, h0⟩, ?_⟩
  rintro i m σ H ⟨rfl, hi, p⟩
  by_cases hlt : i < n
  · refine .inr ⟨hlt, Pv (i + 1), fun σ' H' p' => ⟨n - (i + 1), by omega, rfl, hlt, p'⟩, fun x H' y => ?_⟩
    obtain ⟨e, y⟩ := y
    subst e y
    exact hs i σ _ hlt p
  · have e : i = n := by omega
    subst e
    exact .inl ⟨Nat.le_refl _, hd σ H p⟩
end L2

namespace L2
open PySem PySem.Spec PyProof.Rows

abbrev R2 := V → V → Hp → VK → Prop
/-- a two-place operation on values: f is binaryOp op, inplaceOp op or compareOp op -/
def OpR (X : Cx) (f : Value → Value → Sem Value) (r : R2) : Prop :=
  ∀ (pins : List (Addr × Obj)) (s : Shared) (σ : St) (H : Hp) (x y : V) (v u : Value) (Q : VK), Inv X pins σ H s → RelV x v → RelV y u → r x y H Q →
    wpAny (model X.prog X.w) X.A (f v u) (EP X pins σ Q) X.xe s
/-- a one-place operation -/
def UnR (X : Cx) (f : Value → Sem Value) (r : V → Hp → VK → Prop) : Prop :=
  ∀ (pins : List (Addr × Obj)) (s : Shared) (σ : St) (H : Hp) (x : V) (v : Value) (Q : VK), Inv X pins σ H s → RelV x v → r x H Q →
    wpAny (model X.prog X.w) X.A (f v) (EP X pins σ Q) X.xe s
/-- a call of a value that is known (a builtin, a type) with values -/
def CallR (X : Cx) (f : Value) (r : List V → Hp → VK → Prop) : Prop :=
  ∀ (pins : List (Addr × Obj)) (s : Shared) (σ : St) (H : Hp) (xs : List V) (us : List Value) (Q : VK), Inv X pins σ H s → Vals xs us → r xs H Q →
    wpAny (model X.prog X.w) X.A (call f us) (EP X pins σ Q) X.xe s
/-- a value's truth -/
def TruR (X : Cx) (r : V → Hp → (Bool → Hp → Prop) → Prop) : Prop :=
  ∀ (pins : List (Addr × Obj)) (s : Shared) (σ : St) (H : Hp) (x : V) (v : Value) (Q : Bool → Hp → Prop), Inv X pins σ H s → RelV x v → r x H Q →
    wpAny (model X.prog X.w) X.A (truthy v) (TP X pins σ Q) X.xe s

def tOp (r : R2) (ta tb : TE) : TE := fun σ H Q => ta σ H fun x H1 => tb σ H1 fun y H2 => r x y H2 Q
def tUn (r : V → Hp → VK → Prop) (ta : TE) : TE := fun σ H Q => ta σ H fun x H1 => r x H1 Q
/-- ints in, under C, and a value out -/
def rI (C : Int → Int → Prop) (g : Int → Int → V) : R2 := fun x y H Q => ∃ i j, x = .int i ∧ y = .int j ∧ C i j ∧ Q (g i j) H
def rI0 (g : Int → Int → V) : R2 := fun x y H Q => ∃ i j, x = .int i ∧ y = .int j ∧ Q (g i j) H
def rU (g : Int → V) : V → Hp → VK → Prop := fun x H Q => ∃ i, x = .int i ∧ Q (g i) H

section
variable {X : Cx} {a b c : Expr} {ta tb tc : TE} {pos : Pos}

theorem binT (ha : PE X a ta) (hb : PE X b tb) {pins : List (Addr × Obj)} {s : Shared} {σ : St} {H : Hp} {R : V → V → Hp → Prop} (I : Inv X pins σ H s)
    (h : ta σ H fun x H1 => tb σ H1 fun y H2 => R x y H2) {Q : Value → Shared → Prop} {f : Value → Value → Sem Value}
    (hf : ∀ v u s2 x y H2, Inv X pins σ H2 s2 → RelV x v → RelV y u → R x y H2 → wpAny (model X.prog X.w) X.A (f v u) Q X.xe s2) :
    wpAny (model X.prog X.w) X.A (eval a X.env) (fun v s₁ => wpAny (model X.prog X.w) X.A (eval b X.env) (fun u s₂ => wpAny (model X.prog X.w) X.A (f v u) Q X.xe s₂) X.xe s₁) X.xe s := by
  refine thn (ha pins s σ H _ I h) fun v s1 ⟨x, H1, I1, r1, q1⟩ => ?_
  refine thn (hb pins s1 σ H1 _ I1 q1) fun u s2 ⟨y, H2, I2, r2, q2⟩ => ?_
  exact hf v u s2 x y H2 I2 r1 r2 q2

theorem pe_op {op : Operator} {r : R2} (ho : OpR X (binaryOp op) r) (ha : PE X a ta) (hb : PE X b tb) : PE X (.BinOp a op b pos) (tOp r ta tb) := by
  intro pins s σ H Q I h
  exact wpAny_BinOp (binT ha hb I h fun v u s2 x y H2 I2 rx ry q => ho pins s2 σ H2 x y v u Q I2 rx ry q)
/-! ### ints -/
theorem opI {f : Value → Value → Sem Value} {C : Int → Int → Prop} {g : Int → Int → Int}
    (rule : ∀ (i j : Int) (t u : Tok) (s : Shared) (Q : Value → Shared → Prop) (E : Value → Shared → Prop), C i j → Q (.int (g i j) s.toks) { s with toks := s.toks + 1 } → wpAny (model X.prog X.w) X.A (f (.int i t) (.int j u)) Q E s) :
    OpR X f (rI C fun i j => .int (g i j)) := by
  intro pins s σ H x y v u Q I rx ry h
  obtain ⟨i, j, rfl, rfl, hc, q⟩ := h
  obtain ⟨t, rfl⟩ := rx
  obtain ⟨t', rfl⟩ := ry
  exact rule i j t t' s _ _ hc ⟨.int (g i j), H, I.tok _, ⟨_, rfl⟩, q⟩
theorem opI0 {f : Value → Value → Sem Value} {g : Int → Int → Int}
    (rule : ∀ (i j : Int) (t u : Tok) (s : Shared) (Q : Value → Shared → Prop) (E : Value → Shared → Prop), Q (.int (g i j) s.toks) { s with toks := s.toks + 1 } → wpAny (model X.prog X.w) X.A (f (.int i t) (.int j u)) Q E s) :
    OpR X f (rI0 fun i j => .int (g i j)) := by
  intro pins s σ H x y v u Q I rx ry h
  obtain ⟨i, j, rfl, rfl, q⟩ := h
  obtain ⟨t, rfl⟩ := rx
  obtain ⟨t', rfl⟩ := ry
  exact rule i j t t' s _ _ ⟨.int (g i j), H, I.tok _, ⟨_, rfl⟩, q⟩
theorem opB0 {f : Value → Value → Sem Value} {g : Int → Int → Bool}
    (rule : ∀ (i j : Int) (t u : Tok) (s : Shared) (Q : Value → Shared → Prop) (E : Value → Shared → Prop), Q (.bool (g i j)) s → wpAny (model X.prog X.w) X.A (f (.int i t) (.int j u)) Q E s) :
    OpR X f (rI0 fun i j => .bl (g i j)) := by
  intro pins s σ H x y v u Q I rx ry h
  obtain ⟨i, j, rfl, rfl, q⟩ := h
  obtain ⟨t, rfl⟩ := rx
  obtain ⟨t', rfl⟩ := ry
  exact rule i j t t' s _ _ ⟨.bl (g i j), H, I, rfl, q⟩

def CDiv (i j : Int) : Prop := 0 < j ∧ j < 1073741824
def CDivN (i j : Int) : Prop := j ≠ 0 ∧ j.natAbs < 1073741824
def CPow (i j : Int) : Prop := 0 ≤ j ∧ j ≤ 1000000 ∧ i.natAbs < 2 ^ 64
def CMul (i j : Int) : Prop := (-(2 ^ 64) < i ∧ i < 2 ^ 64) ∨ (-(2 ^ 64) < j ∧ j < 2 ^ 64)
theorem CMul.ok {i j : Int} (h : CMul i j) : IntMulOk i j := by
  rcases h with ⟨h1, h2⟩ | ⟨h1, h2⟩
  · exact .of_left (intBits_le_64 h1 h2)
  · exact .of_right (intBits_le_64 h1 h2)
theorem two_pow_nn (k : Nat) : (0 : Int) ≤ 2 ^ k := by
  rw [two_pow_cast]
  exact Int.natCast_nonneg _

theorem op_add : OpR X (binaryOp .Add) (rI0 fun i j => .int (i + j)) := opI0 fun _ _ _ _ _ _ _ q => add_int q
theorem op_sub : OpR X (binaryOp .Sub) (rI0 fun i j => .int (i - j)) := opI0 fun _ _ _ _ _ _ _ q => sub_int q
/-- % by a positive divisor of any size -/
theorem op_mod : OpR X (binaryOp .Mod) (rI (fun _ j => 0 < j) fun i j => .int (i % j)) := opI fun i j _ _ _ _ _ hc q => by
  have h1 : (0 : Int) < j := hc
  exact mod_int' (by omega) (by rw [Int.fmod_eq_emod_of_nonneg i (by omega)]; exact q)
theorem op_pow : OpR X (binaryOp .Pow) (rI CPow fun i j => .int (i ^ j.toNat)) := opI fun _ _ _ _ _ _ _ hc q => pow_int_small hc.1 hc.2.1 hc.2.2 q
theorem op_shl : OpR X (binaryOp .LShift) (rI CPow fun i j => .int (i * 2 ^ j.toNat)) := opI fun _ _ _ _ _ _ _ hc q => lshift_int_small hc.1 hc.2.1 hc.2.2 q
theorem op_shr : OpR X (binaryOp .RShift) (rI (fun _ j => 0 ≤ j) fun i j => .int (i / 2 ^ j.toNat)) := opI fun i j _ _ _ _ _ hc q =>
  rshift_int hc (by rw [Int.fdiv_eq_ediv_of_nonneg i (two_pow_nn _)]; exact q)
/-! ### bools among ints: n += (a < b) -/
end

/-! ### comparisons -/
/-- the scalars that == tells apart as data does -/
def scal : V → V → Bool
  | .non, .non => true | .non, .int _ => true | .int _, .non => true | .non, .bl _ => true | .bl _, .non => true | .non, .str _ => true | .str _, .non => true
  | .int _, .int _ => true | .bl _, .bl _ => true | .str _, .str _ => true | .byt _, .byt _ => true
  | .int _, .str _ => true | .str _, .int _ => true | .bl _, .str _ => true | .str _, .bl _ => true
  | _, _ => false
def rEq : R2 := fun x y H Q => scal x y = true ∧ Q (.bl (decide (x = y))) H
def rNe : R2 := fun x y H Q => scal x y = true ∧ Q (.bl (!decide (x = y))) H

theorem dec_int {i j : Int} : decide (V.int i = V.int j) = (i == j) := by
  rw [Bool.eq_iff_iff]
  simp
theorem dec_bl {i j : Bool} : decide (V.bl i = V.bl j) = (i == j) := by
  rw [Bool.eq_iff_iff]
  simp
theorem dec_str {i j : Str} : decide (V.str i = V.str j) = (i == j) := by
  rw [Bool.eq_iff_iff]
  simp
theorem dec_byt {i j : Array UInt8} : decide (V.byt i = V.byt j) = (i.toList == j.toList) := by
  rw [Bool.eq_iff_iff]
  cases i
  cases j
  simp

section
variable {X : Cx} {a b c : Expr} {ta tb tc : TE} {pos : Pos}
theorem fin_bl {pins : List (Addr × Obj)} {σ : St} {H : Hp} {s : Shared} {Q : VK} {k k' : Bool} (I : Inv X pins σ H s) (q : Q (.bl k) H) (e : k = k') : EP X pins σ Q (.bool k') s := by
  subst e
  exact ⟨.bl k, H, I, rfl, q⟩
theorem op_eq : OpR X (compareOp .Eq) rEq := by
  intro pins s σ H x y v u Q I rx ry h
  obtain ⟨hs, q⟩ := h
  cases x with
  | non =>
    cases rx
    cases y with
    | non => cases ry; exact PySem.EqNone.eq_none_none (fin_bl I q (by simp))
    | bl j => cases ry; exact PySem.EqNone.eq_none_bool (fin_bl I q (by simp))
    | int j => obtain ⟨t', rfl⟩ := ry; exact PySem.EqNone.eq_none_int (fin_bl I q (by simp))
    | str j => obtain ⟨t', rfl⟩ := ry; exact PySem.EqNone.eq_none_str (fin_bl I q (by simp))
    | _ => exact absurd (show false = true from hs) Bool.false_ne_true
  | bl i =>
    cases rx
    cases y with
    | non => cases ry; exact PySem.EqNone.eq_bool_none (fin_bl I q (by simp))
    | bl j => cases ry; exact eq_bool (fin_bl I q dec_bl)
    | str j => obtain ⟨t', rfl⟩ := ry; exact PySem.EqMixed.eq_bool_str (fin_bl I q (by simp))
    | _ => exact absurd (show false = true from hs) Bool.false_ne_true
  | int i =>
    obtain ⟨t, rfl⟩ := rx
    cases y with
    | non => cases ry; exact PySem.EqNone.eq_int_none (fin_bl I q (by simp))
    | int j => obtain ⟨t', rfl⟩ := ry; exact eq_int (fin_bl I q dec_int)
    | str j => obtain ⟨t', rfl⟩ := ry; exact PySem.EqMixed.eq_int_str (fin_bl I q (by simp))
    | _ => exact absurd (show false = true from hs) Bool.false_ne_true
  | str i =>
    obtain ⟨t, rfl⟩ := rx
    cases y with
    | non => cases ry; exact PySem.EqNone.eq_str_none (fin_bl I q (by simp))
    | bl j => cases ry; exact PySem.EqMixed.eq_str_bool (fin_bl I q (by simp))
    | int j => obtain ⟨t', rfl⟩ := ry; exact PySem.EqMixed.eq_str_int (fin_bl I q (by simp))
    | str j => obtain ⟨t', rfl⟩ := ry; exact eq_str (fin_bl I q dec_str)
    | _ => exact absurd (show false = true from hs) Bool.false_ne_true
  | byt i =>
    obtain ⟨t, rfl⟩ := rx
    cases y with
    | byt j => obtain ⟨t', rfl⟩ := ry; exact PySem.W.eq_bytes (fin_bl I q dec_byt)
    | _ => exact absurd (show false = true from hs) Bool.false_ne_true
  | _ => cases y <;> exact absurd (show false = true from hs) Bool.false_ne_true
theorem op_ne : OpR X (compareOp .NotEq) rNe := by
  intro pins s σ H x y v u Q I rx ry h
  obtain ⟨hs, q⟩ := h
  cases x with
  | non =>
    cases rx
    cases y with
    | non => cases ry; exact PySem.EqNone.ne_none_none (fin_bl I q (by simp))
    | bl j => cases ry; exact PySem.EqNone.ne_none_bool (fin_bl I q (by simp))
    | int j => obtain ⟨t', rfl⟩ := ry; exact PySem.EqNone.ne_none_int (fin_bl I q (by simp))
    | str j => obtain ⟨t', rfl⟩ := ry; exact PySem.EqNone.ne_none_str (fin_bl I q (by simp))
    | _ => exact absurd (show false = true from hs) Bool.false_ne_true
  | bl i =>
    cases rx
    cases y with
    | non => cases ry; exact PySem.EqNone.ne_bool_none (fin_bl I q (by simp))
    | bl j => cases ry; exact ne_bool (fin_bl I q (congrArg not dec_bl))
    | str j => obtain ⟨t', rfl⟩ := ry; exact PySem.EqMixed.ne_bool_str (fin_bl I q (by simp))
    | _ => exact absurd (show false = true from hs) Bool.false_ne_true
  | int i =>
    obtain ⟨t, rfl⟩ := rx
    cases y with
    | non => cases ry; exact PySem.EqNone.ne_int_none (fin_bl I q (by simp))
    | int j => obtain ⟨t', rfl⟩ := ry; exact ne_int (fin_bl I q (congrArg not dec_int))
    | str j => obtain ⟨t', rfl⟩ := ry; exact PySem.EqMixed.ne_int_str (fin_bl I q (by simp))
    | _ => exact absurd (show false = true from hs) Bool.false_ne_true
  | str i =>
    obtain ⟨t, rfl⟩ := rx
    cases y with
    | non => cases ry; exact PySem.EqNone.ne_str_none (fin_bl I q (by simp))
    | bl j => cases ry; exact PySem.EqMixed.ne_str_bool (fin_bl I q (by simp))
    | int j => obtain ⟨t', rfl⟩ := ry; exact PySem.EqMixed.ne_str_int (fin_bl I q (by simp))
    | str j => obtain ⟨t', rfl⟩ := ry; exact ne_str (fin_bl I q (congrArg not dec_str))
    | _ => exact absurd (show false = true from hs) Bool.false_ne_true
  | byt i =>
    obtain ⟨t, rfl⟩ := rx
    cases y with
    | byt j => obtain ⟨t', rfl⟩ := ry; exact PySem.W.ne_bytes (fin_bl I q (congrArg not dec_byt))
    | _ => exact absurd (show false = true from hs) Bool.false_ne_true
  | _ => cases y <;> exact absurd (show false = true from hs) Bool.false_ne_true

theorem op_lt : OpR X (compareOp .Lt) (rI0 fun i j => .bl (decide (i < j))) := opB0 fun _ _ _ _ _ _ _ q => lt_int q
theorem op_le : OpR X (compareOp .LtE) (rI0 fun i j => .bl (decide (i ≤ j))) := opB0 fun _ _ _ _ _ _ _ q => le_int q
theorem op_gt : OpR X (compareOp .Gt) (rI0 fun i j => .bl (decide (j < i))) := opB0 fun _ _ _ _ _ _ _ q => gt_int q
theorem op_ge : OpR X (compareOp .GtE) (rI0 fun i j => .bl (decide (j ≤ i))) := opB0 fun _ _ _ _ _ _ _ q => ge_int q
/-- is None, is not None: the right side a value none -/
theorem op_isN : OpR X (compareOp .Is) (fun x y H Q => y = .non ∧ Q (.bl (decide (x = .non))) H) := by
  intro pins s σ H x y v u Q I rx ry h
  obtain ⟨rfl, q⟩ := h
  cases ry
  refine is_none_gen (fin_bl I q ?_)
  cases x <;> first
    | (cases rx; rfl)
    | (obtain ⟨t, rfl⟩ := rx; rfl)
/-- is, is not of two objects that are tracked lists or instances -/
def isObj : HO → Bool
  | .lst _ => true
  | .ins _ _ _ => true
  | _ => false
theorem nomark (b : Expr) {op : CmpOp} (h : op ≠ .In := by decide) (h2 : op ≠ .NotIn := by decide) : behindInMarks op b = false := by
  have e1 : (op == CmpOp.In) = false := by cases op <;> first | rfl | exact absurd rfl h
  have e2 : (op == CmpOp.NotIn) = false := by cases op <;> first | rfl | exact absurd rfl h2
  cases b <;> simp [behindInMarks, e1, e2]
/-- a comparison as a value; hm: nomark b, or (for in, not in) by with_unfolding_all rfl -/
theorem pe_cmpR {op : CmpOp} {r : R2} (ho : OpR X (compareOp op) r) (ha : PE X a ta) (hb : PE X b tb) (hm : behindInMarks op b = false) : PE X (.Compare a [op] [b] pos) (tOp r ta tb) := by
  intro pins s σ H Q I h
  exact wpAny_Compare1 (binT ha hb I h fun v u s2 x y H2 I2 rx ry q => ho pins s2 σ H2 x y v u Q I2 rx ry q) hm
/-- a reading of a value as a test -/
def tTest (t : TE) : TT := fun σ H Q => t σ H fun x H' => ∃ k, x = .bl k ∧ Q k H'
theorem pt_cmpR {op : CmpOp} {r : R2} (ho : OpR X (compareOp op) r) (ha : PE X a ta) (hb : PE X b tb) (hm : behindInMarks op b = false) : PT X (.Compare a [op] [b] pos) (tTest (tOp r ta tb)) := by
  intro pins s σ H Q I h
  refine wpAny_isTrue_Compare1 (thn (ha pins s σ H _ I h) fun v s1 ⟨x, H1, I1, r1, q1⟩ => thn (hb pins s1 σ H1 _ I1 q1) fun u s2 ⟨y, H2, I2, r2, q2⟩ =>
    thn (ho pins s2 σ H2 x y v u _ I2 r1 r2 q2) fun c s3 ⟨z, H3, I3, r3, k, e, q3⟩ => ?_) hm
  subst e
  cases r3
  exact wpAny_truthy_bool ⟨H3, I3, q3⟩
/-- a op1 b op2 c -/
def tChain (r r' : R2) (ta tb tc : TE) : TE := fun σ H Q => ta σ H fun x H1 => tb σ H1 fun y H2 => r x y H2 fun z H3 => ∃ k, z = .bl k ∧
  (if k = true then tc σ H3 fun w' H4 => r' y w' H4 Q else Q (.bl false) H3)
/-! ### truth -/
/-- a value's truth by the abstract heap -/
def TruV (K : PySem.W.Frag) (x : V) (H : Hp) (k : Bool) : Prop :=
  match x with
  | .non => k = false
  | .bl b => k = b
  | .int i => k = (i != 0)
  | .str y => y.length ≤ sizeLine ∧ k = ((y.length : Int) != 0)
  | .byt y => y.size ≤ sizeLine ∧ k = ((y.size : Int) != 0)
  | .ref p => (∃ xs, SqL K H p xs ∧ k = !xs.isEmpty) ∨ (∃ xs, SqT K H p xs ∧ k = !xs.isEmpty) ∨ ∃ kvs, H p = some (.dK kvs) ∧ k = !kvs.isEmpty
  | _ => False
theorem line63 : (sizeLine : Nat) < 2 ^ 63 := by rw [sizeLine_eq]; decide
/-! ### strs and bytes -/
def PlainIxT (b : Expr) : Prop := ∀ o i, subscripted b false o i = operate [o, i] (getItem o i)
/-! ### scalar builtins, by CallR -/
theorem vals1 {x : V} {us : List Value} (r : Vals [x] us) : ∃ u, us = [u] ∧ RelV x u := by
  cases r with
  | cons r1 r2 => cases r2; exact ⟨_, rfl, r1⟩
theorem vals2 {x y : V} {us : List Value} (r : Vals [x, y] us) : ∃ u w', us = [u, w'] ∧ RelV x u ∧ RelV y w' := by
  cases r with
  | cons r1 r2 =>
    cases r2 with
    | cons r3 r4 => cases r4; exact ⟨_, _, rfl, r1, r3⟩
theorem call_max2 (hc : X.calm = true) : CallR X (.builtin "max") (fun xs H Q => ∃ i j, xs = [.int i, .int j] ∧ Q (.int (if j > i then j else i)) H) := by
  intro pins s σ H xs us Q I r h
  obtain ⟨i, j, rfl, q⟩ := h
  obtain ⟨u, w', rfl, ⟨t, rfl⟩, ⟨t', rfl⟩⟩ := vals2 r
  refine max_two_ints (I.ok.hd hc) fun h' tk k => ⟨_, H, I.kept k, ?_, q⟩
  by_cases hj : j > i
  · rw [if_pos hj, if_pos hj]; exact ⟨_, rfl⟩
  · rw [if_neg hj, if_neg hj]; exact ⟨_, rfl⟩
theorem call_min2 (hc : X.calm = true) : CallR X (.builtin "min") (fun xs H Q => ∃ i j, xs = [.int i, .int j] ∧ Q (.int (if j < i then j else i)) H) := by
  intro pins s σ H xs us Q I r h
  obtain ⟨i, j, rfl, q⟩ := h
  obtain ⟨u, w', rfl, ⟨t, rfl⟩, ⟨t', rfl⟩⟩ := vals2 r
  refine min_two_ints (I.ok.hd hc) fun h' tk k => ⟨_, H, I.kept k, ?_, q⟩
  by_cases hj : j < i
  · rw [if_pos hj, if_pos hj]; exact ⟨_, rfl⟩
  · rw [if_neg hj, if_neg hj]; exact ⟨_, rfl⟩
theorem call_int1 : CallR X (.type "int") (fun xs H Q => (∃ i, xs = [.int i] ∧ Q (.int i) H) ∨ ∃ k, xs = [.bl k] ∧ Q (.int (if k then 1 else 0)) H) := by
  intro pins s σ H xs us Q I r h
  rcases h with ⟨i, rfl, q⟩ | ⟨k, rfl, q⟩
  · obtain ⟨u, rfl, t, rfl⟩ := vals1 r
    exact call_int_int ⟨.int i, H, I, ⟨_, rfl⟩, q⟩
  · obtain ⟨u, rfl, r1⟩ := vals1 r
    cases r1
    exact call_int_bool ⟨.int (if k then 1 else 0), H, I.tok _, ⟨_, rfl⟩, q⟩
/-- len of a str, a bytes, a list, a tuple -/
def LenV (K : PySem.W.Frag) (x : V) (H : Hp) (n : Nat) : Prop :=
  match x with
  | .str y => y.length ≤ sizeLine ∧ n = y.length
  | .byt y => y.size ≤ sizeLine ∧ n = y.size
  | .ref p => (∃ xs, SqL K H p xs ∧ n = xs.length) ∨ ∃ xs, SqT K H p xs ∧ n = xs.length
  | _ => False
end
end L2

namespace L2
open PySem PySem.Spec PyProof.Rows

/-! ### an instance, its attributes a map -/
structure ObjM (h : Heap) (x dx C : Addr) (mA : Str → Option Value) : Prop where
  obj : h.get? x = some (PySem.W.instObj C dx)
  ns : h.Ns1 dx mA
  ne : dx ≠ x

theorem lookIn_ns {h : Heap} {dx : Addr} {mA : Str → Option Value} (n : h.Ns1 dx mA) : ∃ od, h.get? dx = some od ∧ ∀ name, PySem.W.lookIn name od = some (mA name) := by
  obtain ⟨o, es, ep, ho, hd, hk, _, hm⟩ := n
  refine ⟨o, ho, fun name => ?_⟩
  have e := hm name
  unfold nsFind findBy at e
  rw [← Array.find?_toList] at e
  unfold PySem.W.lookIn
  rw [hd]
  dsimp only
  split
  · rename_i y q
    rw [q] at e
    exact congrArg some e
  · rename_i q
    rw [q] at e
    have a : es.toList.any (·.refKey) = false := by
      rw [List.any_eq_false]
      intro y hy
      obtain ⟨z, t, hkey⟩ := hk y (Array.mem_toList_iff.mp hy)
      simp [DictEntry.refKey, hkey]
    have a' : ¬ es.toList.any (·.refKey) = true := by rw [a]; exact Bool.false_ne_true
    rw [if_neg a']
    exact congrArg some e

theorem ObjM.look {h : Heap} {x dx C : Addr} {mA : Str → Option Value} (I : ObjM h x dx C mA) : ∃ od, PySem.W.InstAt h x (PySem.W.instObj C dx) C (some od) ∧ ∀ name, PySem.W.lookIn name od = some (mA name) :=
  let ⟨od, ho, hl⟩ := lookIn_ns I.ns
  ⟨od, ⟨I.obj, rfl, rfl, ho⟩, hl⟩

section
variable {prog : Program} {w : World} {A : Around} {E : Value → Shared → Prop} {s : Shared} {K : PySem.W.Frag} {x dx C f : Addr} {mA : Str → Option Value} {name : Str} {v : Value}

theorem get_map {expr : Bool} {Q : Value → Shared → Prop} (X : K.In s.heap) (I : ObjM s.heap x dx C mA) (hg : PySem.W.plainGet K C name = true) (hh : PySem.W.hasDictIn K C = true)
    (ha : PySem.W.findIn K (.ref C) name = some none) (hv : mA name = some v) (hv' : PySem.W.handedIn v = true) (h : Q v { s with toks := s.toks + 1 }) :
    wpAny (model prog w) A (getAttr (.ref x) name expr) Q E s := by
  obtain ⟨od, J, hl⟩ := I.look
  exact PySem.W.get_value X J (PySem.W.plainGet_of hg).1 (PySem.W.findObj_own hh ha rfl (by rw [hl, hv])) hv' h

theorem get_meth {pl : Sem Bool} {Q : Value × List Value → Shared → Prop} (X : K.In s.heap) (I : ObjM s.heap x dx C mA) (hg : PySem.W.plainGet K C name = true)
    (hf : PySem.W.findIn K (.ref C) name = some (some (.ref f))) (ht : PySem.W.isFn K (.ref f) = true) (hv : mA name = none) (h : Q (.ref f, [.ref x]) s) :
    wpAny (model prog w) A (getMethod (.ref x) name pl) Q E s := by
  obtain ⟨od, J, hl⟩ := I.look
  exact PySem.W.method_fn X J (PySem.W.plainGet_of hg).1 (PySem.W.plainGet_of hg).2 hf (beq_iff_eq.mp ht) (by show (PySem.W.lookIn name od).map (·.isSome) = some false; rw [hl, hv]; rfl) h

theorem set_map {ns : List Str} {Q : Unit → Shared → Prop} (X : K.In s.heap) (I : ObjM s.heap x dx C mA)
    (hs : PySem.W.findIn K (.ref C) "__setattr__" = some (some (.builtin "object.__setattr__"))) (hp : PySem.W.plainOver K C = true) (ht : PySem.W.takerIn K C name = some none) (hh : PySem.W.hasDictIn K C = true)
    (hw : PySem.Within mA ns) (hsz : ns.length ≤ sizeLine)
    (h : ∀ h', ObjM h' x dx C (fun y => if y = name then some v else mA y) → Heap.SameBut dx s.heap h' → Q () { s with heap := h', toks := s.toks + 2 }) :
    wpAny (model prog w) A (setAttr (.ref x) name v) Q E s := by
  obtain ⟨od, J, hl⟩ := I.look
  refine PySem.W.set_plain X J hs (PySem.W.osa_open (s := { s with toks := s.toks + 1 }) (r := none) X J hp ht fun b => ?_)
  obtain ⟨cd, hc, hd'⟩ := PySem.W.any_some hh
  have hx : s.heap.get? x = some ⟨.ref C, some dx, .plain, #[]⟩ := I.obj
  refine wpAny_bind (wpAny_pure (wpAny_bind (wpAny_bind (wpAny_loadPart hx (wpAny_bind (PySem.W.Looks.here (s := { s with toks := s.toks + 1 }) (PySem.W.looks_clsIn X hc) ?_))))))
  rw [hd']
  refine wpAny_pure (a := some dx) (wpAny_bind (wpAny_pure (wpAny_bind ?_)))
  refine wpAny_nsSet1 (s := { s with toks := s.toks + 1 }) I.ns fun h' hn2 hs2 => ?_
  obtain ⟨oD, esD, epD, hoD, hdD, hcD⟩ := hn2.count (PySem.Within.cons name v hw)
  refine wpAny_bind (wpAny_lookBehind hoD (by rw [hdD]; exact pastItsLine_dict (Nat.le_trans hcD (by rw [List.length_cons]; omega))) ?_)
  exact wpAny_pure (h _ ⟨(hs2.2 _ (Ne.symm I.ne)).trans I.obj, hn2, I.ne⟩ hs2)

/-- C(..): the dict at the heap's end, the instance behind it; then its __init__ -/
theorem make_map {R : Result → Shared → Prop} {vs : List Value} {kw : List (Str × Value)} (X : K.In s.heap) (hm : PySem.W.makesIn K C = true)
    (hi : PySem.W.findIn K (.ref C) "__init__" = some (some (.ref f))) (hf : PySem.W.typeIn K (.ref f) = some (.type "function"))
    (h : codeAny (model prog w) (A.under (.builtin "type.__call__" ⟨.ref C :: vs, kw⟩)) (.call (.ref f) ⟨.ref (s.heap.objs.size + 1) :: vs, kw⟩) (PySem.W.InitBack (s.heap.objs.size + 1) R)
      { s with heap := (s.heap.push PySem.W.emptyDict).push (PySem.W.instObj C s.heap.objs.size) }) :
    codeAny (model prog w) A (.call (.ref C) ⟨vs, kw⟩) R s := by
  obtain ⟨hh, g, d, t, os⟩ := s
  exact PySem.W.make_core (PySem.W.makes_of X hm) (PySem.W.looks_findIn X hi) (fun self => PySem.W.bind_fn X self hf) (.inl rfl) h
end

/-! ### the attributes as a list of pairs -/
def putF (f : Str) (v : V) : List (Str × V) → List (Str × V)
  | [] => [(f, v)]
  | (g, x) :: r => if g = f then (g, v) :: r else (g, x) :: putF f v r
theorem lookup_putF (f g : Str) (v : V) : ∀ fs : List (Str × V), (putF f v fs).lookup g = if g = f then some v else fs.lookup g
  | [] => by
    show List.lookup g [(f, v)] = _
    by_cases h : g = f
    · have hb : (g == f) = true := beq_iff_eq.mpr h
      simp only [List.lookup, hb, if_pos h]
    · have hb : (g == f) = false := beq_eq_false_iff_ne.mpr h
      simp only [List.lookup, hb, if_neg h]
  | (k, x) :: r => by
    have ih := lookup_putF f g v r
    rw [show putF f v ((k, x) :: r) = (if k = f then (k, v) :: r else (k, x) :: putF f v r) from rfl]
    by_cases hk : k = f
    · rw [if_pos hk]
      by_cases h : g = k
      · have hb : (g == k) = true := beq_iff_eq.mpr h
        simp only [List.lookup, hb, if_pos (h.trans hk)]
      · have hb : (g == k) = false := beq_eq_false_iff_ne.mpr h
        simp only [List.lookup, hb, if_neg (fun e : g = f => h (e.trans hk.symm))]
    · rw [if_neg hk]
      by_cases h : g = k
      · have hb : (g == k) = true := beq_iff_eq.mpr h
        simp only [List.lookup, hb, if_neg (fun e : g = f => hk (h.symm.trans e))]
      · have hb : (g == k) = false := beq_eq_false_iff_ne.mpr h
        simp only [List.lookup, hb]
        exact ih
theorem keys_putF (f : Str) (v : V) : ∀ fs : List (Str × V), f ∈ (putF f v fs).map (·.1) ∧ ∀ g, g ∈ fs.map (·.1) → g ∈ (putF f v fs).map (·.1)
  | [] => ⟨by simp [putF], fun g h => by simp at h⟩
  | (k, x) :: r => by
    obtain ⟨i1, i2⟩ := keys_putF f v r
    rw [show putF f v ((k, x) :: r) = (if k = f then (k, v) :: r else (k, x) :: putF f v r) from rfl]
    by_cases hk : k = f
    · rw [if_pos hk]
      subst hk
      exact ⟨by simp, fun g h => by simpa using h⟩
    · rw [if_neg hk]
      refine ⟨?_, fun g h => ?_⟩
      · rw [List.map_cons]
        exact List.mem_cons_of_mem _ i1
      · rw [List.map_cons] at h ⊢
        rcases List.mem_cons.mp h with e | e
        · exact List.mem_cons.mpr (.inl e)
        · exact List.mem_cons_of_mem _ (i2 g e)
theorem length_putF (f : Str) (v : V) : ∀ fs : List (Str × V), (putF f v fs).length ≤ fs.length + 1
  | [] => by simp [putF]
  | (k, x) :: r => by
    have ih := length_putF f v r
    rw [show putF f v ((k, x) :: r) = (if k = f then (k, v) :: r else (k, x) :: putF f v r) from rfl]
    by_cases hk : k = f
    · rw [if_pos hk, List.length_cons, List.length_cons]; omega
    · rw [if_neg hk, List.length_cons, List.length_cons]; omega

theorem RelO.some_of {v : V} {o : Option Value} (r : RelO (some v) o) : ∃ u, o = some u ∧ RelV v u := by
  cases o with
  | none => exact (show False from r).elim
  | some u => exact ⟨u, rfl, r⟩
theorem RelO.none_of {o : Option Value} (r : RelO none o) : o = none := by
  cases o with
  | none => rfl
  | some u => exact (show False from r).elim
theorem handed_of {v : V} {u : Value} (r : RelV v u) : PySem.W.handedIn u = true := by
  cases v with
  | non => cases (show u = Value.none from r); rfl
  | bl b => cases (show u = Value.bool b from r); rfl
  | int i => obtain ⟨t, e⟩ := (show ∃ t, u = Value.int i t from r); cases e; rfl
  | str x => obtain ⟨t, e⟩ := (show ∃ t, u = Value.str x t from r); cases e; rfl
  | byt b => obtain ⟨t, e⟩ := (show ∃ t, u = Value.bytes b t from r); cases e; rfl
  | flt b => obtain ⟨t, e⟩ := (show ∃ t, u = Value.float b t from r); cases e; rfl
  | ref a => cases (show u = Value.ref a from r); rfl
  | ty n => cases (show u = Value.type n from r); rfl

section
variable {P : Program} {w : World} {H H' : Hp} {h h' : Heap} {a C dx : Addr} {fs fs' : List (Str × V)}
theorem ins_get (hok : HOk P w H h) (e : H a = some (.ins C dx fs)) : ∃ mA, ObjM h a dx C mA ∧ (∀ f, RelO (fs.lookup f) (mA f)) ∧ PySem.Within mA (fs.map (·.1)) ∧ fs.length ≤ 1000 ∧ H dx = some (.own a) := by
  obtain ⟨d, z, ne, ob, mA, n, r, q⟩ := (show ObjOk P w H h a (.ins C dx fs) from hok a _ e)
  exact ⟨mA, ⟨ob, n, ne⟩, r, q, z, d⟩
end

/-! ### what of the text a class must have -/
structure Cls (K : PySem.W.Frag) (C : Addr) : Prop where
  pg : PySem.W.plainGet K C Str.empty = true
  hd : PySem.W.hasDictIn K C = true
  po : PySem.W.plainOver K C = true
  sa : PySem.W.findIn K (.ref C) "__setattr__" = some (some (.builtin "object.__setattr__"))
theorem Cls.get {K : PySem.W.Frag} {C : Addr} (c : Cls K C) (f : Str) : PySem.W.plainGet K C f = true := c.pg
/-- no class of it has the name -/
def NoAttr (K : PySem.W.Frag) (C : Addr) (f : Str) : Prop := PySem.W.findIn K (.ref C) f = some none
theorem NoAttr.taker {K : PySem.W.Frag} {C : Addr} {f : Str} (n : NoAttr K C f) : PySem.W.takerIn K C f = some none := by
  unfold PySem.W.takerIn
  rw [show PySem.W.findIn K (.ref C) f = some none from n]
  rfl
/-- a constant of the class -/
structure Con (K : PySem.W.Frag) (C : Addr) (f : Str) (v : V) (u : Value) : Prop where
  at_ : PySem.W.findIn K (.ref C) f = some (some u)
  rel : RelV v u
  get : PySem.W.specialIn K u "__get__" = some none
  cp : PySem.W.copiedNames.contains f = false
/-- a method: a plain def of the class or of one above it -/
structure Meth (K : PySem.W.Frag) (C : Addr) (m : Str) (f : Addr) : Prop where
  at_ : PySem.W.findIn K (.ref C) m = some (some (.ref f))
  fn : PySem.W.isFn K (.ref f) = true
  kp : PySem.W.keepIn K (.ref f) = true

section
variable {X : Cx} {pins : List (Addr × Obj)} {σ : St} {H : Hp} {s : Shared} {a C dx : Addr} {fs : List (Str × V)} {f : Str} {v : V} {A : Around} {E : Value → Shared → Prop}

theorem getattr_ok {b : Bool} {Q : Value → Shared → Prop} (I : Inv X pins σ H s) (e : H a = some (.ins C dx fs)) (c : Cls X.K C) (n : NoAttr X.K C f) (l : fs.lookup f = some v)
    (h : ∀ u s', Inv X pins σ H s' → RelV v u → Q u s') : wpAny (model X.prog X.w) A (getAttr (.ref a) f b) Q E s := by
  obtain ⟨mA, O, r, _, _, _⟩ := ins_get I.hok e
  obtain ⟨u, hu, ru⟩ := RelO.some_of (v := v) (o := mA f) (by rw [← l]; exact r f)
  exact get_map I.kIn O (c.get f) c.hd n hu (handed_of ru) (h u _ (I.tok _) ru)

theorem getmeth_ok {m : Str} {g : Addr} {pl : Sem Bool} {Q : Value × List Value → Shared → Prop} (I : Inv X pins σ H s) (e : H a = some (.ins C dx fs)) (c : Cls X.K C) (k : Meth X.K C m g) (l : fs.lookup m = none)
    (h : Q (.ref g, [.ref a]) s) : wpAny (model X.prog X.w) A (getMethod (.ref a) m pl) Q E s := by
  obtain ⟨mA, O, r, _, _, _⟩ := ins_get I.hok e
  have hn : mA m = none := RelO.none_of (by rw [← l]; exact r m)
  exact get_meth I.kIn O (c.get m) k.at_ k.fn hn h

theorem setattr_ok {y : V} {u : Value} {Q : Unit → Shared → Prop} (I : Inv X pins σ H s) (e : H a = some (.ins C dx fs)) (c : Cls X.K C) (n : NoAttr X.K C f) (hl : fs.length < 1000) (ry : RelV y u)
    (h : ∀ s', Inv X pins σ (upd H a (.ins C dx (putF f y fs))) s' → Q () s') : wpAny (model X.prog X.w) A (setAttr (.ref a) f u) Q E s := by
  obtain ⟨mA, O, r, wi, _, ho⟩ := ins_get I.hok e
  have hz : (fs.map (·.1)).length ≤ sizeLine := by rw [List.length_map, sizeLine_eq]; omega
  refine set_map I.kIn O c.sa c.po n.taker c.hd wi hz fun h' O' sb => h _ ?_
  have hd : ∃ o, h'.get? dx = some o := let ⟨o, _, _, e', _⟩ := O'.ns; ⟨o, e'⟩
  refine I.write (x := a) (e := dx) (by rw [e]; exact True.intro) (.inr ho) (fun b q hb z => (sb.2 b hb).trans z) hd ?_
  refine ⟨by rw [upd_ne O.ne]; exact ho, ?_, O.ne, O'.obj, _, O'.ns, fun g => ?_, fun g hg => ?_⟩
  · have := length_putF f y fs; omega
  · show RelO ((putF f y fs).lookup g) (if g = f then some u else mA g)
    rw [lookup_putF]
    by_cases q : g = f
    · rw [if_pos q, if_pos q]; exact ry
    · rw [if_neg q, if_neg q]; exact r g
  · by_cases q : g = f
    · rw [q]; exact (keys_putF f y fs).1
    · refine (keys_putF f y fs).2 g (wi g fun z => hg ?_)
      show (if g = f then some u else mA g) = none
      rw [if_neg q]; exact z

/-- a new instance, tracked, without attributes -/
theorem Inv.made (I : Inv X pins σ H s) : Inv X pins σ (upd (upd H s.heap.objs.size (.own (s.heap.objs.size + 1))) (s.heap.objs.size + 1) (.ins C s.heap.objs.size []))
    { s with heap := (s.heap.push PySem.W.emptyDict).push (PySem.W.instObj C s.heap.objs.size) } := by
  have e1 : (s.heap.push PySem.W.emptyDict).get? s.heap.objs.size = some PySem.W.emptyDict := Heap.get?_push_size s.heap rfl
  have e2 : ((s.heap.push PySem.W.emptyDict).push (PySem.W.instObj C s.heap.objs.size)).get? (s.heap.objs.size + 1) = some (PySem.W.instObj C s.heap.objs.size) := by
    have := Heap.get?_push_size (s.heap.push PySem.W.emptyDict) (o := PySem.W.instObj C s.heap.objs.size) rfl
    rwa [Heap.size_push] at this
  have e3 : (s.heap.push PySem.W.emptyDict).Ns s.heap.objs.size (fun _ => none) := ⟨PySem.W.emptyDict, #[], _, e1, rfl, (fun e he => absurd he (by simp)), fun _ => rfl⟩
  have I1 := I.laid (a := s.heap.objs.size) (o := .own (s.heap.objs.size + 1)) (h' := s.heap.push PySem.W.emptyDict) (t' := s.toks) (fun b u q => Heap.get?_push_of_some _ q) (Nat.le_refl _) ⟨_, e1⟩
  refine I1.laid (a := s.heap.objs.size + 1) (o := .ins C s.heap.objs.size []) (t' := s.toks) (fun b u q => Heap.get?_push_of_some _ q) (Nat.le_of_eq (Heap.size_push _ _)) ?_
  have ne : s.heap.objs.size ≠ s.heap.objs.size + 1 := Nat.ne_of_lt (Nat.lt_succ_self _)
  refine ⟨by rw [upd_ne ne, upd_same], Nat.zero_le _, ne, e2, fun _ => none, (Heap.Ns1.of_empty e3).at fun o q => Heap.get?_push_of_some _ q, fun _ => True.intro, fun y hy => absurd rfl hy⟩

/-- e.f where nothing but the object is asked: through attributeBase (super) and the last hold -/
theorem attr_of {prog : Program} {w : World} {env : Env} {e : Expr} {f : Str} {pos : Pos} {s : Shared} {Q : Value → Shared → Prop} (hb : attributeBase e f env (eval e env) = eval e env)
    (h : wpAny (model prog w) A (eval e env) (fun o s₁ => wpAny (model prog w) A (getAttr o f true) Q E s₁) E s) : wpAny (model prog w) A (eval (.Attribute e f pos) env) Q E s :=
  Attribute_any_ h (by rw [arm_eval_Attribute, hb])
end

/-! ### readings and rules -/
/-- e.f, an attribute of the instance -/
def tFld (K : PySem.W.Frag) (ta : TE) (f : Str) : TE := fun σ H Q => ta σ H fun x H1 => ∃ a C dx fs v, x = .ref a ∧ H1 a = some (.ins C dx fs) ∧ Cls K C ∧ NoAttr K C f ∧ fs.lookup f = some v ∧ Q v H1
/-- e.f, a constant of the class -/
def tCon (K : PySem.W.Frag) (ta : TE) (f : Str) : TE := fun σ H Q => ta σ H fun x H1 => ∃ a C dx fs v u, x = .ref a ∧ H1 a = some (.ins C dx fs) ∧ Cls K C ∧ Con K C f v u ∧ fs.lookup f = none ∧ Q v H1
/-- e.f = value -/
def sFld (K : PySem.W.Frag) (ta tv : TE) (f : Str) : TS := fun D σ H => tv σ H fun y H1 => ta σ H1 fun x H2 => ∃ a C dx fs, x = .ref a ∧ H2 a = some (.ins C dx fs) ∧ Cls K C ∧ NoAttr K C f ∧ fs.length < 1000 ∧
  D.nx σ (upd H2 a (.ins C dx (putF f y fs)))
/-- an augmented operator on two values -/
def InOp (X : Cx) (op : Operator) (rd : V → V → Hp → VK → Prop) : Prop :=
  ∀ (pins : List (Addr × Obj)) (s : Shared) (σ : St) (H : Hp) (x y : V) (u v : Value) (Q : VK), Inv X pins σ H s → RelV x u → RelV y v → rd x y H Q → wpAny (model X.prog X.w) X.A (inplaceOp op u v) (EP X pins σ Q) X.xe s
/-- e.f op= value -/
def sFldAug (K : PySem.W.Frag) (ta tv : TE) (rd : V → V → Hp → VK → Prop) (f : Str) : TS := fun D σ H => ta σ H fun x H1 => ∃ a C dx fs v, x = .ref a ∧ H1 a = some (.ins C dx fs) ∧ Cls K C ∧ NoAttr K C f ∧ fs.lookup f = some v ∧
  tv σ H1 fun y H2 => rd v y H2 fun z H3 => ∃ dx' fs', H3 a = some (.ins C dx' fs') ∧ fs'.length < 1000 ∧ D.nx σ (upd H3 a (.ins C dx' (putF f z fs')))

section
variable {X : Cx} {o e value : Expr} {f : Str} {pos pos' tpos : Pos} {ta tv : TE}
theorem pe_fld (he : PE X e ta) (hb : attributeBase e f X.env (eval e X.env) = eval e X.env) : PE X (.Attribute e f pos) (tFld X.K ta f) := by
  intro pins s σ H Q I h
  refine attr_of hb (thn (he pins s σ H _ I h) fun u s1 ⟨x, H1, I1, rx, a, C, dx, fs, v, ex, ea, c, n, l, q⟩ => ?_)
  subst ex
  obtain rfl : u = Value.ref a := rx
  exact getattr_ok I1 ea c n l fun u' s2 I2 ru => ⟨v, H1, I2, ru, q⟩
theorem ps_fld (ha : PE X o ta) (hv : PE X value tv) (hs : swapsWith value (some (.Attribute o f pos')) pos.line X.env = pure false) : PS X (.Assign [.Attribute o f pos'] value pos) (sFld X.K ta tv f) := by
  intro pins s σ H D I h
  refine plainObj_wpAny_Assign_Attribute (thn (hv pins s σ H _ I h) fun u s1 ⟨y, H1, I1, ry, q⟩ => thn (ha pins s1 σ H1 _ I1 q) fun ov s2 ⟨x, H2, I2, rx, a, C, dx, fs, ex, ea, c, n, l, q2⟩ => ?_) hs
  subst ex
  obtain rfl : ov = Value.ref a := rx
  exact setattr_ok I2 ea c n l ry fun s3 I3 => ⟨σ, _, I3, q2⟩
def rAdd : V → V → Hp → VK → Prop := fun x y H Q => ∃ i j, x = .int i ∧ y = .int j ∧ Q (.int (i + j)) H
def rSub : V → V → Hp → VK → Prop := fun x y H Q => ∃ i j, x = .int i ∧ y = .int j ∧ Q (.int (i - j)) H
end

/-! ### isinstance -/
section
variable {X : Cx} {pins : List (Addr × Obj)} {σ : St} {H : Hp} {s : Shared} {A : Around} {E : Value → Shared → Prop} {Q : Value → Shared → Prop} {c : Value} {b : Bool}
/-- the type of a value, as the fragment's deciders take it; for an instance its class -/
inductive TyOf (K : PySem.W.Frag) (H : Hp) : V → Value → Prop where
  | non : TyOf K H .non (.type "NoneType")
  | bl (x : Bool) : TyOf K H (.bl x) (.type "bool")
  | int (i : Int) : TyOf K H (.int i) (.type "int")
  | str (x : Str) : TyOf K H (.str x) (.type "str")
  | flt (x : UInt64) : TyOf K H (.flt x) (.type "float")
  | lst {a : Addr} {xs : List V} (e : H a = some (.lst xs)) : TyOf K H (.ref a) (.type "list")
  | frz {a : Addr} {o : Obj} {xs : List V} (e : H a = some (.frz o (.lst xs))) : TyOf K H (.ref a) (.type "list")
  | tup {a : Addr} {xs : List V} (e : H a = some (.tup xs)) : TyOf K H (.ref a) (.type "tuple")
  | dK {a : Addr} {kvs : List (Key × V)} (e : H a = some (.dK kvs)) : TyOf K H (.ref a) (.type "dict")
  | dT {a : Addr} {kvs : List (List Key × V)} (e : H a = some (.dT kvs)) : TyOf K H (.ref a) (.type "dict")
  | ins {a C dx : Addr} {fs : List (Str × V)} (e : H a = some (.ins C dx fs)) (cl : Cls K C) (ha : PySem.W.findIn K (.ref C) "__class__" = some (some (.builtin "object.__class__")))
      (hn : PySem.W.specialIn K (.builtin "object.__class__") "__get__" = some (some (.builtin "getset_descriptor.__get__"))) (htk : PySem.W.takesIn K (.builtin "object.__class__") = some true)
      (hm : PySem.W.mroIn K C (.type "object") = some true) : TyOf K H (.ref a) (.ref C)
/-- isinstance(x, c) for one class c, a built-in or an own one: kitOne's answer -/
theorem isinst_ok {x : V} {u t : Value} (I : Inv X pins σ H s) (rx : RelV x u) (ty : TyOf X.K H x t) (e : PySem.W.kitOne X.K t c = some b) (h : ∀ tk, Q (.bool b) { s with toks := tk }) :
    wpAny (model X.prog X.w) A (call (.builtin "isinstance") [u, c]) Q E s := by
  cases ty with
  | non => cases (show u = Value.none from rx); exact PySem.W.kia_one PySem.W.kitx_none I.kIn True.intro e (fun z => nomatch z) h
  | bl y => cases (show u = Value.bool y from rx); exact PySem.W.kia_one PySem.W.kitx_bool I.kIn True.intro e (fun z => nomatch z) h
  | int i => obtain ⟨t, q⟩ := (show ∃ t, u = Value.int i t from rx); cases q; exact PySem.W.kia_one PySem.W.kitx_int I.kIn True.intro e (fun z => nomatch z) h
  | str y => obtain ⟨t, q⟩ := (show ∃ t, u = Value.str y t from rx); cases q; exact PySem.W.kia_one PySem.W.kitx_str I.kIn True.intro e (fun z => nomatch z) h
  | flt y => obtain ⟨t, q⟩ := (show ∃ t, u = Value.float y t from rx); cases q; exact PySem.W.kia_one PySem.W.kitx_float I.kIn True.intro e (fun z => nomatch z) h
  | @lst a xs ea =>
    cases (show u = Value.ref a from rx)
    obtain ⟨_, _, n, _, h1⟩ := (show ObjOk X.prog X.w H s.heap a (.lst xs) from I.hok a _ ea)
    exact PySem.W.kia_one PySem.W.kitx_list I.kIn ⟨_, h1, rfl⟩ e (fun z => nomatch z) h
  | @frz a ob xs ea =>
    cases (show u = Value.ref a from rx)
    obtain ⟨_, _, _, n, _, h1⟩ := (show ObjOk X.prog X.w H s.heap a (.frz ob (.lst xs)) from I.hok a _ ea)
    exact PySem.W.kia_one PySem.W.kitx_list I.kIn ⟨_, h1, rfl⟩ e (fun z => nomatch z) h
  | @tup a xs ea =>
    cases (show u = Value.ref a from rx)
    obtain ⟨_, _, _, p⟩ := (show ObjOk X.prog X.w H s.heap a (.tup xs) from I.hok a _ ea)
    obtain ⟨o, h1, h2, _⟩ := p
    exact PySem.W.kia_one PySem.W.kitx_tuple I.kIn ⟨o, h1, h2⟩ e (fun z => nomatch z) h
  | @dK a kvs ea =>
    cases (show u = Value.ref a from rx)
    obtain ⟨_, _, vs, _, p⟩ := (show ObjOk X.prog X.w H s.heap a (.dK kvs) from I.hok a _ ea)
    obtain ⟨o, es, ep, h1, h2, _⟩ := p
    exact PySem.W.kia_one PySem.W.kitx_dict I.kIn ⟨o, h1, h2.1⟩ e (fun z => nomatch z) h
  | @dT a kvs ea =>
    cases (show u = Value.ref a from rx)
    obtain ⟨_, _, xs, _, o, es, ep, h1, h2, _⟩ := (show ObjOk X.prog X.w H s.heap a (.dT kvs) from I.hok a _ ea)
    exact PySem.W.kia_one PySem.W.kitx_dict I.kIn ⟨o, h1, h2.1⟩ e (fun z => nomatch z) h
  | @ins a C dx fs ea cl ha hn htk hm =>
    cases (show u = Value.ref a from rx)
    obtain ⟨mA, O, _⟩ := ins_get I.hok ea
    obtain ⟨od, J, _⟩ := O.look
    exact PySem.W.kia_one (PySem.W.kitx_own (cl.get _) cl.hd ha hn htk hm) I.kIn J e (fun z => nomatch z) h
end
end L2

namespace L2
open PySem PySem.Spec PyProof.Rows

/-! ### room -/
structure Room (k : Nat) (A : Around) : Prop where
  hd : A.handled = none
  dp : A.depth + 3 * k + 5 < recursionLimit
  un : A.units + 16 * k + 200 < cLine
theorem Room.mono {j k : Nat} {A : Around} (r : Room k A) (h : j ≤ k) : Room j A := ⟨r.hd, by have := r.dp; omega, by have := r.un; omega⟩
theorem Room.deeper {k : Nat} {A : Around} (r : Room (k + 1) A) (env : Env) : Room k (A.deeper env) :=
  ⟨r.hd, by have := r.dp; show A.depth + 1 + 3 * k + 5 < _; omega, by have := r.un; show A.units + 3 + 16 * k + 200 < _; omega⟩
theorem make_depth {A : Around} {C : Addr} {us : List Value} {kw : List (Str × Value)} : (A.under (.builtin "type.__call__" ⟨.ref C :: us, kw⟩)).depth = A.depth + 1 := by
  first | rfl | simp [Around.under, Code.weight, Code.isCreation, Code.isGuard, Code.isCaller, Code.frames, Code.isFrame, guardIds]
theorem make_units {A : Around} {C : Addr} {us : List Value} {kw : List (Str × Value)} : (A.under (.builtin "type.__call__" ⟨.ref C :: us, kw⟩)).units = A.units + 1 := by
  first | rfl | simp [Around.under, Code.cUnits, Code.frames, Code.isFrame]
theorem Room.make {k : Nat} {A : Around} (r : Room (k + 1) A) (C : Addr) (us : List Value) (kw : List (Str × Value)) : Room k (A.under (.builtin "type.__call__" ⟨.ref C :: us, kw⟩)) :=
  ⟨r.hd, by have := r.dp; rw [make_depth]; omega, by have := r.un; rw [make_units]; omega⟩
theorem Room.depth {k : Nat} {A : Around} (r : Room k A) : A.depth < recursionLimit := by have := r.dp; omega
theorem Room.units {k : Nat} {A : Around} (r : Room k A) : A.units + 64 < cLine := by have := r.un; omega
/-! ### argument lists and displays -/
def tNil : TA := fun _ H Q => Q [] H
def tCons (ta : TE) (tr : TA) : TA := fun σ H Q => ta σ H fun x H1 => tr σ H1 fun xs H2 => Q (x :: xs) H2
section
variable {X : Cx} {e : Expr} {es : List Expr} {te : TE} {t : TA} {pos : Pos}
theorem pa_nil : PA X [] tNil := fun _ _ _ _ H Q I h => Calls.spliced_nil ⟨[], H, I, .nil, h⟩
theorem pa_cons (ha : PE X e te) (hr : PA X es t) (hs : starEach (e :: es) X.env = (false, eval e X.env) :: starEach es X.env := by rfl) : PA X (e :: es) (tCons te t) := by
  intro pos pins s σ H Q I h
  rw [hs]
  show wpAny _ _ (spliced ((false, eval e X.env) :: backTo pos (starEach es X.env))) _ _ s
  refine Calls.spliced_cons (thn (ha pins s σ H _ I h) fun u s1 ⟨x, H1, I1, r1, q1⟩ => ?_)
  exact thn (hr pos pins s1 σ H1 _ I1 q1) fun us s2 ⟨xs, H2, I2, r2, q2⟩ => ⟨x :: xs, H2, I2, .cons r1 r2, q2⟩

/-- a tuple, a list of written items -/
def tTup (t : TA) : TE := fun σ H Q => t σ H fun xs H1 => xs.length ≤ sizeLine ∧ ∀ p, H1 p = none → Q (.ref p) (upd H1 p (.tup xs))
def tLst (t : TA) : TE := fun σ H Q => t σ H fun xs H1 => xs.length ≤ sizeLine ∧ ∀ p, H1 p = none → Q (.ref p) (upd H1 p (.lst xs))
theorem pe_tup {x1} (h : PA X es t) : PE X (.Tuple es x1 pos) (tTup t) := by
  intro pins s σ H Q I hq
  refine wpAny_Tuple_spliced (thn (h pos pins s σ H _ I hq) fun us s1 ⟨xs, H1, I1, r, z, q⟩ => ⟨by rw [← r.length]; exact z, ?_⟩)
  have hf : H1 s1.heap.objs.size = none := I1.hok.fresh (Nat.le_refl _)
  refine ⟨.ref s1.heap.objs.size, upd H1 s1.heap.objs.size (.tup xs), I1.laid (t' := s1.toks) (fun b u e => Heap.get?_push_of_some _ e) (Nat.le_refl _) ?_, rfl, q _ hf⟩
  exact ⟨z, us, r, ⟨_, Heap.get?_push_size _ rfl, rfl, _, rfl⟩⟩
theorem pe_lst (h : PA X es t) : PE X (.List es pos) (tLst t) := by
  intro pins s σ H Q I hq
  refine wpAny_List_spliced (thn (h pos pins s σ H _ I hq) fun us s1 ⟨xs, H1, I1, r, z, q⟩ => ⟨by rw [← r.length]; exact z, ?_⟩)
  have hf : H1 s1.heap.objs.size = none := I1.hok.fresh (Nat.le_refl _)
  refine ⟨.ref s1.heap.objs.size, upd H1 s1.heap.objs.size (.lst xs), I1.laid (t' := s1.toks) (fun b u e => Heap.get?_push_of_some _ e) (Nat.le_refl _) ?_, rfl, q _ hf⟩
  exact ⟨z, us, 0, r, Heap.get?_push_size _ rfl⟩
end

/-! ### what a def promises -/
/-- a def's promise: the bound arguments in the parameters' order, the heap, the wanted end, the wanted exception -/
abbrev Sp := List V → Hp → VK → XK → Prop
/-- how an exception lies behind a call (file 08 gives it): the callers' frames, abstract heap and state ahead of the call, the wish, the exception, the state -/
abbrev CXT := List Env → Hp → Shared → XK → Value → Shared → Prop

/-- the state at a call -/
structure Env0 (P : Program) (w : World) (K : PySem.W.Frag) (mg : Str → Option Value) (base : Heap) (A : Around) (outer : List Env) (s : Shared) (H : Hp) : Prop where
  frames : A.frames = some outer
  mod : Mod K mg base
  bs : ∀ b o, base.get? b = some o → s.heap.get? b = some o ∧ H b = none
  bsz : base.objs.size ≤ s.heap.objs.size
  funs : s.heap.FunFrames base outer
  frf : ∀ b ∈ frs outer, H b = none
  hok : HOk P w H s.heap
  bare : AllBare s.gens
/-- a call's end -/
def CE (outer : List Env) (P : Program) (w : World) (H : Hp) (s : Shared) (Q : VK) (u : Value) (s' : Shared) : Prop :=
  ∃ v H', s'.os = s.os ∧ AllBare s'.gens ∧ Un (frs outer) [] H H' s.heap s'.heap ∧ HOk P w H' s'.heap ∧ RelV v u ∧ Q v H'
def CR (CX : CXT) (outer : List Env) (P : Program) (w : World) (H : Hp) (s : Shared) (Q : VK) (E : XK) (r : Result) (s' : Shared) : Prop :=
  match r with
  | .ok (.ret u) => CE outer P w H s Q u s'
  | .ok _ => False
  | .error e => CX outer H s E e s'
structure FnOk (P : Program) (w : World) (K : PySem.W.Frag) (mg : Str → Option Value) (base : Heap) (CX : CXT) (k : Nat) (f : Addr) (fd : FuncData) (ps : List Str) (sp : Sp) : Prop where
  len : ∀ vs H Q E, sp vs H Q E → vs.length = ps.length
  run : ∀ (A : Around) (outer : List Env) (s : Shared) (H : Hp) (args : Args) (us : List Value) (vs : List V) (Q : VK) (E : XK), Room k A → Env0 P w K mg base A outer s H → BindsTo s fd args (ps.zip us) → Vals vs us → sp vs H Q E →
    codeAny (model P w) A (.call (.ref f) args) (CR CX outer P w H s Q E) s
theorem FnOk.mono {P : Program} {w : World} {K : PySem.W.Frag} {mg : Str → Option Value} {base : Heap} {CX : CXT} {j k : Nat} {f : Addr} {fd : FuncData} {ps : List Str} {sp : Sp} (F : FnOk P w K mg base CX j f fd ps sp) (h : j ≤ k) :
    FnOk P w K mg base CX k f fd ps sp := ⟨F.len, fun A outer s H args us vs Q E hr => F.run A outer s H args us vs Q E (hr.mono h)⟩
theorem Env0.make {P : Program} {w : World} {K : PySem.W.Frag} {mg : Str → Option Value} {base : Heap} {A : Around} {outer : List Env} {s : Shared} {H : Hp} (e : Env0 P w K mg base A outer s H) (C : Addr) (us : List Value) (kw : List (Str × Value)) :
    Env0 P w K mg base (A.under (.builtin "type.__call__" ⟨.ref C :: us, kw⟩)) outer s H := ⟨by first | exact e.frames | (simpa [Around.under, Code.envs, Code.isFrame, pushEnvs] using e.frames), e.mod, e.bs, e.bsz, e.funs, e.frf, e.hok, e.bare⟩
section
variable {X : Cx} {pins : List (Addr × Obj)} {σ : St} {H : Hp} {s s' : Shared}
/-- from a body: what a callee wants -/
theorem Inv.env0 (I : Inv X pins σ H s) : Env0 X.prog X.w X.K X.mg X.base X.A X.stack s H :=
  ⟨I.ok.frames, I.ok.mod, I.bs, Nat.le_trans I.ok.bsz I.sz, I.stack, I.stkFree, I.hok, I.bare⟩
/-- behind a call -/
theorem Inv.after {Q : VK} {u : Value} (I : Inv X pins σ H s) (h : CE X.stack X.prog X.w H s Q u s') : EP X pins σ Q u s' := by
  obtain ⟨v, H', os, bare, un, hok, r, q⟩ := h
  obtain ⟨hh, g, d, t, os'⟩ := s'
  obtain rfl : os' = s.os := os
  exact ⟨v, H', I.call (h' := hh) (g' := g) (d' := d) (t' := t) (ch := []) un hok bare (fun b z => absurd z (by simp)), r, q⟩
end

/-! ### calls -/
/-- f(..): the written arguments, then the defaults dvs; E: what is wanted of an exception -/
def tCall (sp : Sp) (dvs : List V) (E : XK) (t : TA) : TE := fun σ H Q => t σ H fun vs H1 => sp (vs ++ dvs) H1 Q E
/-- o.m(..) of an instance of the class at C -/
def tMeth (C : Addr) (m : Str) (sp : Sp) (dvs : List V) (E : XK) (ta : TE) (t : TA) : TE := fun σ H Q => ta σ H fun x H1 => ∃ a dx fs, x = .ref a ∧ H1 a = some (.ins C dx fs) ∧ fs.lookup m = none ∧
  t σ H1 fun vs H2 => sp (x :: (vs ++ dvs)) H2 Q E
/-- C(..): a new instance and its dict, then __init__ -/
def tMake (C : Addr) (sp : Sp) (dvs : List V) (E : XK) (t : TA) : TE := fun σ H Q => t σ H fun vs H1 => ∀ x dx, H1 x = none → H1 dx = none → dx ≠ x →
  sp (.ref x :: (vs ++ dvs)) (upd (upd H1 dx (.own x)) x (.ins C dx [])) (fun v H2 => v = .non ∧ Q (.ref x) H2) E

/-- how the parameters are bound: us the positional arguments, kw the keywords' values by name, ds the defaults that fill up -/
def Binds (K : PySem.W.Frag) (fd : FuncData) (ps : List Str) (ds : List Value) : Prop :=
  ∀ (s : Shared) (us : List Value), K.In s.heap → (us ++ ds).length = ps.length → BindsTo s fd ⟨us, []⟩ (ps.zip (us ++ ds))
/-- every parameter is given -/
theorem Binds.all {K : PySem.W.Frag} {fd : FuncData} {ps : List Str} (h : ∀ us : List Value, us.length = ps.length → bindArgs fd ⟨us, []⟩ = pure (ps.zip us)) : Binds K fd ps [] := fun s us _ hl => by
  rw [List.append_nil] at hl ⊢
  exact .of_eq (h us hl)

/-- an exception of a callee reaches what this body wants of exceptions -/
def Passes (CX : CXT) (X : Cx) (E : XK) : Prop := ∀ (pins : List (Addr × Obj)) (σ : St) (H : Hp) (s : Shared) (e : Value) (s' : Shared), Inv X pins σ H s → CX X.stack H s E e s' → X.xe e s'

section
variable {X : Cx} {CX : CXT} {k : Nat} {f C : Addr} {fd : FuncData} {ps : List Str} {sp : Sp} {dvs : List V} {ds : List Value} {E : XK} {x m : Str} {p pos apos : Pos} {e o : Expr} {es : List Expr} {ta : TE} {t : TA}

/-- the callee runs -/
theorem run_fn {pins : List (Addr × Obj)} {σ : St} {H : Hp} {s : Shared} {Q : VK} {us : List Value} {vs : List V} (F : FnOk X.prog X.w X.K X.mg X.base CX k f fd ps sp) (hr : Room k X.A) (hb : Binds X.K fd ps ds) (hd : Vals dvs ds) (hx : Passes CX X E)
    (I : Inv X pins σ H s) (r : Vals vs us) (h : sp (vs ++ dvs) H Q E) : wpAny (model X.prog X.w) X.A (call (.ref f) us) (EP X pins σ Q) X.xe s := by
  have r2 : Vals (vs ++ dvs) (us ++ ds) := r.append hd
  have hl : (us ++ ds).length = ps.length := by rw [← r2.length]; exact F.len _ _ _ _ h
  refine wpAny_call (codeAny_mono (F.run X.A X.stack s H ⟨us, []⟩ (us ++ ds) (vs ++ dvs) Q E hr I.env0 (hb s us I.kIn hl) r2 h) fun r s' hq => ?_)
  cases r with
  | error e => exact hx pins σ H s e s' I hq
  | ok fl =>
    cases fl with
    | ret u => exact I.after hq
    | next => exact False.elim hq
    | brk => exact False.elim hq
    | cont => exact False.elim hq

theorem pe_call (F : FnOk X.prog X.w X.K X.mg X.base CX k f fd ps sp) (hr : Room k X.A) (hg : Gl X x) (hm : X.mg x = some (.ref f)) (hk : PySem.W.keepIn X.K (.ref f) = true) (hb : Binds X.K fd ps ds) (hd : Vals dvs ds) (hx : Passes CX X E)
    (ha : PA X (e :: es) t) (hdb : (x == ("__debug__" : Str)) = false := by decide) (he : starEach (e :: es) X.env = (false, eval e X.env) :: starEach es X.env := by rfl) (hpl : (backTo pos (starEach es X.env)).any (·.1) = false := by rfl) :
    PE X (.Call (.Name x p) (e :: es) [] pos) (tCall sp dvs E t) := by
  intro pins s σ H Q I h
  refine wpAny_Call_Name_kw (ld_glob I hg hm ?_ hdb)
  refine PySem.W.callWith_K (h₀ := X.base) I.ok.mod.kin hk (thn (ha pos pins s σ H _ I h) fun us s1 ⟨vs, H1, I1, r, q⟩ => ⟨I1.kIn, ?_⟩) he hpl
  exact run_fn F hr hb hd hx I1 r q
/-- o.m(e, ..) -/
theorem pe_meth {pl : Sem Bool} (he : PE X o ta) (c : Cls X.K C) (hm : Meth X.K C m f) (F : FnOk X.prog X.w X.K X.mg X.base CX k f fd ps sp) (hr : Room k X.A) (hb : Binds X.K fd ps ds) (hd : Vals dvs ds) (hx : Passes CX X E) (ha : PA X (e :: es) t)
    (hst : starEach (e :: es) X.env = (false, eval e X.env) :: starEach es X.env := by rfl) (hpl : (backTo pos (starEach es X.env)).any (·.1) = false := by rfl)
    (ht : eval (.Call (.Attribute o m apos) (e :: es) [] pos) X.env = (do
      let ov ← eval o X.env
      standAt apos.atName
      let (f, first) ← holding [ov] (getMethod ov m pl)
      callWith pos f first (backTo pos (starEach (e :: es) X.env)) (backToKw pos (keywordEach [] X.env))) := by rfl) :
    PE X (.Call (.Attribute o m apos) (e :: es) [] pos) (tMeth C m sp dvs E ta t) := by
  intro pins s σ H Q I h
  refine PySem.W.methodCall_KW (pl := pl) (thn (he pins s σ H _ I h) fun u s1 ⟨x, H1, I1, rx, a, dx, fs, ex, ea, l, q⟩ => ?_) ht
  subst ex
  obtain rfl : u = Value.ref a := rx
  refine getmeth_ok I1 ea c hm l ?_
  refine PySem.W.callWith_K (first := [.ref a]) (h₀ := X.base) I.ok.mod.kin hm.kp (thn (ha pos pins s1 σ H1 _ I1 q) fun us s2 ⟨vs, H2, I2, r, q2⟩ => ⟨I2.kIn, ?_⟩) hst hpl
  exact run_fn (us := .ref a :: us) (vs := .ref a :: vs) F hr hb hd hx I2 (.cons rfl r) q2
/-- what a class must have to be made -/
structure Mk (K : PySem.W.Frag) (C f : Addr) : Prop where
  makes : PySem.W.makesIn K C = true
  init : PySem.W.findIn K (.ref C) "__init__" = some (some (.ref f))
  fn : PySem.W.isFn K (.ref f) = true
  kp : PySem.W.keepIn K (.ref C) = true

theorem run_make {pins : List (Addr × Obj)} {σ : St} {H : Hp} {s : Shared} {Q : VK} {us : List Value} {vs : List V} (M : Mk X.K C f) (F : FnOk X.prog X.w X.K X.mg X.base CX k f fd ps sp) (hr : Room (k + 1) X.A) (hb : Binds X.K fd ps ds) (hd : Vals dvs ds)
    (hx : Passes CX X E) (I : Inv X pins σ H s) (r : Vals vs us)
    (h : ∀ x dx, H x = none → H dx = none → dx ≠ x → sp (.ref x :: (vs ++ dvs)) (upd (upd H dx (.own x)) x (.ins C dx [])) (fun v H2 => v = .non ∧ Q (.ref x) H2) E) :
    wpAny (model X.prog X.w) X.A (call (.ref C) us) (EP X pins σ Q) X.xe s := by
  have hq := h (s.heap.objs.size + 1) s.heap.objs.size (I.hok.fresh (Nat.le_succ _)) (I.hok.fresh (Nat.le_refl _)) (Nat.ne_of_lt (Nat.lt_succ_self _))
  have I2 := Inv.made (C := C) I
  have r2 : Vals (V.ref (s.heap.objs.size + 1) :: (vs ++ dvs)) (Value.ref (s.heap.objs.size + 1) :: (us ++ ds)) := .cons rfl (r.append hd)
  have hl : (Value.ref (s.heap.objs.size + 1) :: us ++ ds).length = ps.length := by
    have e := r2.length
    rw [F.len _ _ _ _ hq] at e
    exact e.symm
  refine wpAny_call (make_map (f := f) I.kIn M.makes M.init (beq_iff_eq.mp M.fn) (codeAny_mono (F.run _ X.stack _ _ ⟨Value.ref (s.heap.objs.size + 1) :: us, []⟩ (Value.ref (s.heap.objs.size + 1) :: (us ++ ds)) _ _ E (hr.make C us [])
    (I2.env0.make C us []) (hb _ (Value.ref (s.heap.objs.size + 1) :: us) I2.kIn hl) r2 hq) fun r s' hq' => ?_))
  cases r with
  | error e => exact hx pins σ _ _ e s' I2 hq'
  | ok fl =>
    cases fl with
    | ret u =>
      obtain ⟨v, H', I3, rv, ev, q3⟩ := I2.after hq'
      subst ev
      exact ⟨rv, ⟨V.ref (s.heap.objs.size + 1), H', I3, rfl, q3⟩⟩
    | next => exact False.elim hq'
    | brk => exact False.elim hq'
    | cont => exact False.elim hq'
theorem pe_make (M : Mk X.K C f) (F : FnOk X.prog X.w X.K X.mg X.base CX k f fd ps sp) (hr : Room (k + 1) X.A) (hg : Gl X x) (hm : X.mg x = some (.ref C)) (hb : Binds X.K fd ps ds) (hd : Vals dvs ds) (hx : Passes CX X E)
    (ha : PA X (e :: es) t) (hdb : (x == ("__debug__" : Str)) = false := by decide) (he : starEach (e :: es) X.env = (false, eval e X.env) :: starEach es X.env := by rfl) (hpl : (backTo pos (starEach es X.env)).any (·.1) = false := by rfl) :
    PE X (.Call (.Name x p) (e :: es) [] pos) (tMake C sp dvs E t) := by
  intro pins s σ H Q I h
  refine wpAny_Call_Name_kw (ld_glob I hg hm ?_ hdb)
  refine PySem.W.callWith_K (h₀ := X.base) I.ok.mod.kin M.kp (thn (ha pos pins s σ H _ I h) fun us s1 ⟨vs, H1, I1, r, q⟩ => ⟨I1.kIn, ?_⟩) he hpl
  exact run_make M F hr hb hd hx I1 r q
end

/-! ### keywords -/
/-- the values of the keywords, from the left -/
def PK (X : Cx) (kws : List Keyword) (t : TA) : Prop :=
  ∀ (pos : Pos) (pins : List (Addr × Obj)) (s : Shared) (σ : St) (H : Hp) (Q : List V → Hp → Prop), Inv X pins σ H s → t σ H Q → wpAny (model X.prog X.w) X.A (evalAll ((backToKw pos (keywordEach kws X.env)).map (·.2))) (AP X pins σ Q) X.xe s
section
variable {X : Cx} {CX : CXT} {k : Nat} {f C : Addr} {fd : FuncData} {ps ks : List Str} {sp : Sp} {E : XK} {x m : Str} {p pos apos kpos : Pos} {e o : Expr} {es : List Expr} {kws : List Keyword} {te ta : TE} {t tk : TA} {nm : Option Str}
theorem pk_nil : PK X [] tNil := fun _ _ _ _ H Q I h => wpAny_evalAll_nil ⟨[], H, I, .nil, h⟩
theorem pk_cons (ha : PE X e te) (hr : PK X kws t) : PK X (⟨nm, e, kpos⟩ :: kws) (tCons te t) := by
  intro pos pins s σ H Q I h
  show wpAny _ _ (evalAll ((do let v ← eval e X.env; standAt pos; pure v) :: (backToKw pos (keywordEach kws X.env)).map (·.2))) _ _ s
  refine wpAny_evalAll_cons (wpAny_bind (thn (ha pins s σ H _ I h) fun u s1 ⟨x, H1, I1, r1, q1⟩ => wpAny_bind (wpAny_standAt (wpAny_pure ?_))))
  exact thn (hr pos pins s1 σ H1 _ I1 q1) fun us s2 ⟨xs, H2, I2, r2, q2⟩ => ⟨x :: xs, H2, I2, .cons r1 r2, q2⟩

/-- how a call with keywords binds: g puts the positional values us and the keywords' values ws (names ks) in the parameters' order, defaults among them -/
structure KBinds (K : PySem.W.Frag) (fd : FuncData) (ps ks : List Str) (g : List Value → List Value → List Value) (gV : List V → List V → List V) : Prop where
  to : ∀ (s : Shared) (us ws : List Value), K.In s.heap → (g us ws).length = ps.length → BindsTo s fd ⟨us, ks.zip ws⟩ (ps.zip (g us ws))
  rel : ∀ {vs : List V} {us : List Value} {zs : List V} {ws : List Value}, Vals vs us → Vals zs ws → Vals (gV vs zs) (g us ws)
def tCallK (sp : Sp) (gV : List V → List V → List V) (E : XK) (t tk : TA) : TE := fun σ H Q => t σ H fun vs H1 => tk σ H1 fun zs H2 => sp (gV vs zs) H2 Q E
variable {g : List Value → List Value → List Value} {gV : List V → List V → List V}
end

/-! ### a def's body keeps its promise -/
/-- names: the parameters first -/
structure FnScope (N P : List Str) (sc : Scope) : Prop where
  kind : sc.kind = .function
  co : sc.isCoroutine = false
  gen : sc.isGenerator = false
  nd : N.Nodup
  pre : N.take P.length = P
  par : ∀ x ∈ P, sc.names.lookup x = some .local ∨ sc.names.lookup x = some .cell
  nofree : ∀ y ∈ sc.names, y.2 ≠ .free

theorem bindL_out {kindOf : Str → Option NameKind} {x : Str} : ∀ {binds : List (Str × Value)} {m : Str → Option Value}, (∀ v, (x, v) ∉ binds) → bindL kindOf binds m x = m x
  | [], _, _ => rfl
  | (n, v) :: r, m, h => by
    unfold bindL
    rw [bindL_out fun w hw => h w (List.mem_cons_of_mem _ hw)]
    split
    · have : x ≠ n := by rintro rfl; exact h v List.mem_cons_self
      simp [this]
    · rfl
theorem bindC_out {kindOf : Str → Option NameKind} {x : Str} : ∀ {binds : List (Str × Value)} {m : Str → Option Value}, (∀ v, (x, v) ∉ binds) → bindC kindOf binds m x = m x
  | [], _, _ => rfl
  | (n, v) :: r, m, h => by
    unfold bindC
    rw [bindC_out fun w hw => h w (List.mem_cons_of_mem _ hw)]
    split
    · rfl
    · have : x ≠ n := by rintro rfl; exact h v List.mem_cons_self
      simp [this]
theorem bindL_get {kindOf : Str → Option NameKind} {x : Str} {v : Value} : ∀ {P : List Str} {vs : List Value} {i : Nat} {m : Str → Option Value}, P.Nodup → P[i]? = some x → vs[i]? = some v → kindOf x = some .local →
    bindL kindOf (P.zip vs) m x = some v
  | [], _, _, _, _, h, _, _ => by simp at h
  | _ :: _, [], _, _, _, _, h, _ => by simp at h
  | p :: P, w :: vs, 0, m, nd, h1, h2, hk => by
    simp at h1 h2; subst h1; subst h2
    show bindL kindOf ((p, w) :: P.zip vs) m p = _
    unfold bindL
    rw [bindL_out fun v hv => (List.nodup_cons.mp nd).1 (List.of_mem_zip hv).1, if_pos hk]
    simp
  | p :: P, w :: vs, i + 1, m, nd, h1, h2, hk => by
    show bindL kindOf ((p, w) :: P.zip vs) m x = _
    unfold bindL
    exact bindL_get (i := i) (List.nodup_cons.mp nd).2 (by simpa using h1) (by simpa using h2) hk
theorem bindC_get {kindOf : Str → Option NameKind} {x : Str} {v : Value} : ∀ {P : List Str} {vs : List Value} {i : Nat} {m : Str → Option Value}, P.Nodup → P[i]? = some x → vs[i]? = some v → kindOf x ≠ some .local →
    bindC kindOf (P.zip vs) m x = some v
  | [], _, _, _, _, h, _, _ => by simp at h
  | _ :: _, [], _, _, _, _, h, _ => by simp at h
  | p :: P, w :: vs, 0, m, nd, h1, h2, hk => by
    simp at h1 h2; subst h1; subst h2
    show bindC kindOf ((p, w) :: P.zip vs) m p = _
    unfold bindC
    rw [bindC_out fun v hv => (List.nodup_cons.mp nd).1 (List.of_mem_zip hv).1, if_neg hk]
    simp
  | p :: P, w :: vs, i + 1, m, nd, h1, h2, hk => by
    show bindC kindOf ((p, w) :: P.zip vs) m x = _
    unfold bindC
    exact bindC_get (i := i) (List.nodup_cons.mp nd).2 (by simpa using h1) (by simpa using h2) hk

/-- the names' values at the entry -/
def start (N : List Str) (vs : List V) : St := vs.map some ++ List.replicate (N.length - vs.length) none

/-- the context of a def's body, at its entry; an exception leaves the frame, then lies as CX says -/
def cxOf (CX : CXT) (P : Program) (w : World) (K : PySem.W.Frag) (mg : Str → Option Value) (base : Heap) (N : List Str) (qual : Str) (scope : Scope) (f : Addr) (cd : Value) (A : Around) (outer : List Env) (s : Shared) (H : Hp) (E : XK) : Cx where
  prog := P
  w := w
  K := K
  mg := mg
  base := base
  A := A.deeper (envOfC qual scope s.heap.objs.size f cd)
  N := N
  s₀ := s
  H₀ := H
  env := envOfC qual scope s.heap.objs.size f cd
  outer := outer
  stack := envOfC qual scope s.heap.objs.size f cd :: outer
  ex := []
  calm := true
  fn := fun _ => true
  pn := []
  xe := fun e s' => wpAny (model P w) (A.deeper (envOfC qual scope s.heap.objs.size f cd)) (leaving (envOfC qual scope s.heap.objs.size f cd) e) (fun _ s'' => CX outer H s E e s'') (fun e' s'' => CX outer H s E e' s'') s'

theorem cell_has {sc : Scope} {n : Nat} {x : Str} (h : sc.names.lookup x = some .cell) : ∃ c, (cellsFrom n sc.names []).lookup x = some c := by
  have q := PySem.W.cellsFrom_some sc.names n [] (.inl h)
  exact Option.isSome_iff_exists.mp q

theorem inv_start {CX : CXT} {P : Program} {w : World} {K : PySem.W.Frag} {mg : Str → Option Value} {base : Heap} {N ps : List Str} {qual : Str} {scope : Scope} {f : Addr} {cd : Value} {A : Around} {outer : List Env} {s s1 : Shared} {H : Hp} {E : XK} {us : List Value} {vs : List V}
    (S : FnScope N ps scope) (hd : A.handled = none) (e0 : Env0 P w K mg base A outer s H) (hl : vs.length = ps.length) (r : Vals vs us)
    (x : InCallC s s.heap.objs.size (bindL (envOfC qual scope s.heap.objs.size f cd).kindOf (ps.zip us) fun _ => none) (cellsFrom (s.heap.objs.size + 1) scope.names []) (bindC (envOfC qual scope s.heap.objs.size f cd).kindOf (ps.zip us) fun _ => none) s1) :
    Inv (cxOf CX P w K mg base N qual scope f cd A outer s H E) [] (start N vs) H s1 := by
  have hpl : ps.length ≤ N.length := by have := congrArg List.length S.pre; rw [List.length_take] at this; omega
  obtain ⟨h1, tk, rfl, hk⟩ := x.done
  have noA : ∀ b : Addr, b ∉ (cxOf CX P w K mg base N qual scope f cd A outer s H E).ex := fun b z => absurd (show b ∈ ([] : List Addr) from z) (by simp)
  refine ⟨⟨e0.mod, S.kind, rfl, rfl, Nat.le_refl _, fun y z c h1 h2 => ?_, fun y hy => ?_, fun y c _ h => ?_, fun _ => hd, Around.frames_deeper e0.frames, .inr ⟨rfl, rfl⟩, fun b z => absurd z (noA b), e0.bs, e0.bsz, fun b _ _ => noA b, fun b z => absurd z (noA b), e0.funs, e0.frf⟩,
    rfl, e0.bare, Un.kept hk, ⟨_, x.toInCall.ns, fun i y v h1 h2 h3 => ?_⟩, fun y c h => ⟨_, x.cell y c h⟩, e0.hok.fresh (Nat.le_refl _), fun y c h => ?_, fun p hp => absurd (show p ∈ ([] : List (Addr × Obj)) from hp) (by simp), e0.hok.kept hk, ?_⟩
  · exact name_of_addr x.apart (PySem.mem_of_lookup h1) (PySem.mem_of_lookup h2)
  · have hy : scope.names.lookup y = some .cell ∨ scope.names.lookup y = some .free := hy
    rcases hy with hy | hy
    · exact cell_has hy
    · exact absurd rfl (S.nofree _ (PySem.mem_of_lookup hy))
  · exact Nat.le_of_lt (x.above y c (PySem.mem_of_lookup h))
  · have hi : i < vs.length := by
      unfold start at h2
      by_cases hi : i < vs.length
      · exact hi
      · rw [List.getElem?_append_right (by simpa using hi)] at h2
        rw [List.getElem?_replicate] at h2
        split at h2 <;> cases h2
    have ha : vs[i]? = some v := by
      unfold start at h2
      rw [List.getElem?_append_left (by simpa using hi), List.getElem?_map] at h2
      cases e : vs[i]? with
      | none => rw [e] at h2; cases h2
      | some a => rw [e] at h2; cases h2; rfl
    obtain ⟨u, hu, rv⟩ := r.get ha
    have hp : ps[i]? = some y := by
      rw [← S.pre, List.getElem?_take_of_lt (by omega)]; exact h1
    have ndP : ps.Nodup := by rw [← S.pre]; exact S.nd.sublist (List.take_sublist _ _)
    refine ⟨u, rv, ?_⟩
    rcases S.par y (List.mem_of_getElem? hp) with k | k
    · exact .inl ⟨k, bindL_get ndP hp hu k⟩
    · obtain ⟨c, e⟩ := cell_has (n := s.heap.objs.size + 1) k
      refine .inr ⟨.inl k, c, e, ?_⟩
      have q := x.cell y c e
      rw [bindC_get ndP hp hu (by show scope.names.lookup y ≠ _; rw [k]; decide)] at q
      exact q
  · exact e0.hok.fresh (Nat.le_of_lt (x.above y c (PySem.mem_of_lookup h)))
  · unfold start
    show _ = N.length
    rw [List.length_append, List.length_map, List.length_replicate]
    omega

/-- THE RULE: a def (or a method) of the text, by its body. The body's reading t is chosen for each entry; it is run at the parameters' values -/
theorem fn_of {CX : CXT} {P : Program} {w : World} {K : PySem.W.Frag} {mg : Str → Option Value} {base : Heap} {k : Nat} {f : Addr} {name qual : Str} {params : Arguments} {body : List Stmt} {scope : Scope} {dV kV doc pm cdv ct oc : Value} {an od : Option Addr}
    {osl : Array (Option Value)} {N ps : List Str} {sp : Sp} (lk : K.lookup f = some ⟨oc, od, .func (PySem.W.fnOf name qual params body scope dV kV doc pm an cdv ct), osl⟩) (hcd : PySem.W.codeIn K cdv qual = true) (S : FnScope N ps scope)
    (len : ∀ vs H Q E, sp vs H Q E → vs.length = ps.length)
    (hbody : ∀ (A : Around) (outer : List Env) (s : Shared) (H : Hp) (vs : List V) (Q : VK) (E : XK), Room k (A.deeper (envOfC qual scope s.heap.objs.size f cdv)) → sp vs H Q E →
      ∃ t, PSs (cxOf CX P w K mg base N qual scope f cdv A outer s H E) body t ∧ t { nx := fun _ H' => Q .non H', rt := Q } (start N vs) H) :
    FnOk P w K mg base CX (k + 1) f (PySem.W.fnOf name qual params body scope dV kV doc pm an cdv ct) ps sp := by
  refine ⟨len, fun A outer s H args us vs Q E hr e0 hb r hsp => ?_⟩
  have hl := len _ _ _ _ hsp
  have KX : K.In s.heap := e0.mod.kin.keeps fun b o e => (e0.bs b o e).1
  have lim : s.heap.NoLimit := e0.mod.nolimit.keeps fun b o e => (e0.bs b o e).1
  have hkind : ∀ y ∈ ps.zip us, scope.names.lookup y.1 = some .local ∨ (scope.names.lookup y.1 = some .cell ∧ ((cellsFrom (s.heap.objs.size + 1) scope.names []).lookup y.1).isSome = true) := fun ⟨n, v⟩ hy => by
    rcases S.par n (List.of_mem_zip hy).1 with q | q
    · exact .inl q
    · exact .inr ⟨q, PySem.W.cellsFrom_some _ _ _ (.inl q)⟩
  refine codeAny_call_function hr.depth (KX _ _ lk) rfl S.co S.gen rfl (PySem.W.codeRec_of KX hcd) (hb _ _ _ _ ?_)
  refine wpAny_newFunctionEnv_cells S.kind hkind fun env he s1 x => ?_
  subst he
  refine ⟨lim.keeps x.toInCall.keep, codeAny_func ?_⟩
  obtain ⟨t, ht, hq⟩ := hbody A outer s H vs Q E (hr.deeper _) hsp
  have I : Inv (cxOf CX P w K mg base N qual scope f cdv A outer s H E) [] (start N vs) H s1 := inv_start S hr.hd e0 hl r x
  refine wpAny_mono (ht [] s1 (start N vs) H _ I hq) (fun fl s' hs => ?_) fun e s' hs => hs
  have fin : ∀ {σ' : St} {H' : Hp} {v : V} {u : Value}, Inv (cxOf CX P w K mg base N qual scope f cdv A outer s H E) [] σ' H' s' → RelV v u → Q v H' → CE outer P w H s Q u s' :=
    fun {σ' H' v u} J rv q => ⟨v, H', J.os, J.bare, J.base, J.hok, rv, q⟩
  cases fl with
  | ret u =>
    obtain ⟨v, σ', H', J, rv, q⟩ := hs
    exact fin J rv q
  | next =>
    obtain ⟨σ', H', J, q⟩ := hs
    exact fin (v := V.non) (u := Value.none) J rfl q
  | brk =>
    obtain ⟨_, _, _, q⟩ := hs
    exact False.elim q
  | cont =>
    obtain ⟨_, _, _, q⟩ := hs
    exact False.elim q
end L2

namespace L2
open PySem PySem.Spec PyProof.Rows
section
variable {X : Cx} {x : Str} {p pos : Pos} {e : Expr} {es : List Expr} {t : TA} {id T : String} {r : List V → Hp → VK → Prop}

def tCB (r : List V → Hp → VK → Prop) (t : TA) : TE := fun σ H Q => t σ H fun vs H1 => r vs H1 Q
/-- f(e, ..), f a built-in function -/
theorem pe_callB (hc : CallR X (.builtin id) r) (hg : Gl X x) (hm : X.mg x = none) (hv : bootBuiltins x = some (.builtin id)) (ha : PA X (e :: es) t) (hn : x ≠ "__name__" := by decide) (hdb : (x == ("__debug__" : Str)) = false := by decide)
    (he : starEach (e :: es) X.env = (false, eval e X.env) :: starEach es X.env := by rfl) (hpl : (backTo pos (starEach es X.env)).any (·.1) = false := by rfl) : PE X (.Call (.Name x p) (e :: es) [] pos) (tCB r t) := by
  intro pins s σ H Q I h
  refine wpAny_Call_Name_kw (ld_blt I hg hm hv ?_ hn hdb)
  exact PyProof.Rows.callWith_builtin1 (thn (ha pos pins s σ H _ I h) fun us s1 ⟨vs, H1, I1, r1, q1⟩ => hc pins s1 σ H1 vs us Q I1 r1 q1) he hpl
/-- T(e, ..), T a built-in type -/
theorem pe_callTy (hc : CallR X (.type T) r) (hg : Gl X x) (hm : X.mg x = none) (hv : bootBuiltins x = some (.type T)) (ha : PA X (e :: es) t) (hn : x ≠ "__name__" := by decide) (hdb : (x == ("__debug__" : Str)) = false := by decide)
    (he : starEach (e :: es) X.env = (false, eval e X.env) :: starEach es X.env := by rfl) (hpl : (backTo pos (starEach es X.env)).any (·.1) = false := by rfl) : PE X (.Call (.Name x p) (e :: es) [] pos) (tCB r t) := by
  intro pins s σ H Q I h
  refine wpAny_Call_Name_kw (ld_blt I hg hm hv ?_ hn hdb)
  exact PyProof.Rows.callWith_type1 (thn (ha pos pins s σ H _ I h) fun us s1 ⟨vs, H1, I1, r1, q1⟩ => hc pins s1 σ H1 vs us Q I1 r1 q1) he hpl
end
end L2

namespace HT
open PySem PyProof.Rows

/-- t < u of tuples of ints -/
def lexLt : List Int → List Int → Bool
  | [], [] => false
  | [], _ :: _ => true
  | _ :: _, [] => false
  | x :: xs, y :: ys => if x = y then lexLt xs ys else decide (x < y)
section
open PySem.SeqAt
open PySem.AutoSeq1 (wpAny_loadPart')
open PySem.MeetsSeq PySem.MeetsSeq2 PySem.MeetsSeq3

end

section
variable {prog : Program} {w : World} {A : Around} {E : Value → Shared → Prop} {s : Shared}

/-! ### t[a:b], not the whole -/
/-- a slice's bound as a place among n (d where it is left out) -/
def sIx (n d : Nat) : Option Int → Nat
  | none => d
  | some v => if v < 0 then (v + (n : Int)).toNat else min v.toNat n
theorem sIx_none (n d : Nat) : sIx n d none = d := rfl
theorem sIx_nat (n d k : Nat) : sIx n d (some (k : Int)) = min k n := by
  show (if (k : Int) < 0 then ((k : Int) + (n : Int)).toNat else min (k : Int).toNat n) = min k n
  rw [if_neg (by omega), Int.toNat_natCast]
end
end HT

namespace L2
open PySem PySem.Spec PyProof.Rows

/-! ### the parts of a slice -/
abbrev TO := St → Hp → (Option Int → Hp → Prop) → Prop
/-- a slice's part (left out, or an int) -/
def PO (X : Cx) (e : Option Expr) (t : TO) : Prop :=
  ∀ (pins : List (Addr × Obj)) (s : Shared) (σ : St) (H : Hp) (Q : Option Int → Hp → Prop), Inv X pins σ H s → t σ H Q →
    wpAny (model X.prog X.w) X.A (evalPart e X.env) (fun u s' => ∃ o H', Inv X pins σ H' s' ∧ IsPart u o ∧ Q o H') X.xe s
def tNoPart : TO := fun _ H Q => Q none H
def tPart (t : TE) : TO := fun σ H Q => t σ H fun x H1 => ∃ i, x = .int i ∧ Q (some i) H1

theorem intsAre_of {ns : List Int} : ∀ {us : List Value}, Vals (ns.map V.int) us → IntsAre us ns := by
  induction ns with
  | nil => intro us r; rw [List.map_nil] at r; cases r; exact .nil
  | cons n ns ih =>
    intro us r
    rw [List.map_cons] at r
    cases r with
    | cons r1 r2 =>
      obtain ⟨t, e⟩ := r1
      subst e
      exact .cons n t (ih r2)

section
variable {X : Cx} {e : Expr} {te : TE} {lo hi : Option Expr} {tl th : TO} {pos p2 : Pos}

theorem po_none : PO X none tNoPart := by
  intro pins s σ H Q I h
  rw [evalPart_none]
  exact wpAny_pure ⟨none, H, I, .none, h⟩
theorem po_some (h : PE X e te) : PO X (some e) (tPart te) := by
  intro pins s σ H Q I hw
  rw [evalPart_some]
  refine thn (h pins s σ H _ I hw) fun u s1 ⟨x, H1, I1, r1, q1⟩ => ?_
  obtain ⟨i, rfl, q⟩ := q1
  obtain ⟨t, rfl⟩ := r1
  exact ⟨some i, H1, I1, .int i t, q⟩

/-- what a slice of a value is, by values: the slice object stands at sl -/
def SlR (X : Cx) (r : V → Option Int → Option Int → Hp → VK → Prop) : Prop :=
  ∀ (pins : List (Addr × Obj)) (s : Shared) (σ : St) (H : Hp) (x : V) (v vl vu : Value) (lo hi : Option Int) (sl : Addr) (Q : VK), Inv X pins σ H s → RelV x v → s.heap.IsSliceOf sl vl vu .none → IsPart vl lo → IsPart vu hi → r x lo hi H Q →
    ∃ T id, typeLookup (.type T) "__getitem__" = pure (some (.builtin id)) ∧ s.TypeIs v T ∧ wpAny (model X.prog X.w) X.A (getItem v (.ref sl)) (EP X pins σ Q) X.xe s
def tSl (r : V → Option Int → Option Int → Hp → VK → Prop) (te : TE) (tl th : TO) : TE := fun σ H Q => te σ H fun x H1 => tl σ H1 fun l H2 => th σ H2 fun u H3 => r x l u H3 Q
/-- a[lo:hi], any a -/
theorem pe_slice {r : V → Option Int → Option Int → Hp → VK → Prop} (hr : SlR X r) (he : PE X e te) (hl : PO X lo tl) (hu : PO X hi th) : PE X (.Subscript e (.Slice lo hi none p2) pos) (tSl r te tl th) := by
  intro pins s σ H Q I h
  refine Subscript_ (thn (he pins s σ H _ I h) fun v s1 ⟨x, H1, I1, r1, q1⟩ => ?_)
  refine wpAny_Slice (thn (hl pins s1 σ H1 _ I1 q1) fun vl s2 ⟨l, H2, I2, pl, q2⟩ => thn (hu pins s2 σ H2 _ I2 q2) fun vu s3 ⟨u, H3, I3, pu, q3⟩ => ?_)
  rw [evalPart_none]
  refine wpAny_pure ?_
  have I4 : Inv X pins σ H3 { s3 with heap := s3.heap.push { cls := .type "slice", data := .fields #[vl, vu, .none] } } := I3.kept (t' := s3.toks) fun b ob q => Heap.get?_push_of_some _ q
  obtain ⟨T, id, hT, ht, hg⟩ := hr pins { s3 with heap := s3.heap.push { cls := .type "slice", data := .fields #[vl, vu, .none] } } σ H3 x v vl vu l u s3.heap.objs.size Q I4 r1 (Heap.IsSliceOf.new ..) pl pu q3
  show wpAny (model X.prog X.w) X.A (subscriptTail e (.Slice lo hi none p2) v (.ref s3.heap.objs.size)) (EP X pins σ Q) X.xe { s3 with heap := s3.heap.push { cls := .type "slice", data := .fields #[vl, vu, .none] } }
  exact tail_any (ops := [.ref s3.heap.objs.size, v]) ht hT hg (by with_unfolding_all rfl)

/-- the items of xs[lo:hi] -/
def cutV (xs : List V) (lo hi : Option Int) : List V := (xs.drop (HT.sIx xs.length 0 lo)).take (HT.sIx xs.length xs.length hi - HT.sIx xs.length 0 lo)
theorem cutV_length (xs : List V) (lo hi : Option Int) : (cutV xs lo hi).length ≤ xs.length := by
  unfold cutV
  rw [List.length_take, List.length_drop]
  omega
/-- t[lo:hi], not the whole of it (the whole would be t itself) -/
def rSlT (K : PySem.W.Frag) : V → Option Int → Option Int → Hp → VK → Prop := fun x lo hi H Q => ∃ a xs, x = .ref a ∧ SqT K H a xs ∧
  ¬ (HT.sIx xs.length 0 lo = 0 ∧ HT.sIx xs.length xs.length hi = xs.length) ∧ ∀ p, H p = none → Q (.ref p) (upd H p (.tup (cutV xs lo hi)))
/-! ### t < u, t + u -/
def rLtT (K : PySem.W.Frag) : R2 := fun x y H Q => ∃ a b ns ms, x = .ref a ∧ y = .ref b ∧ SqT K H a (ns.map V.int) ∧ SqT K H b (ms.map V.int) ∧ Q (.bl (HT.lexLt ns ms)) H
/-- t + u, t not empty: u empty gives t itself -/
def rCatT (K : PySem.W.Frag) : R2 := fun x y H Q => ∃ a b xs ys, x = .ref a ∧ y = .ref b ∧ SqT K H a xs ∧ SqT K H b ys ∧ xs ≠ [] ∧ xs.length + ys.length ≤ sizeLine ∧
  (ys = [] → Q (.ref a) H) ∧ (ys ≠ [] → ∀ p, H p = none → Q (.ref p) (upd H p (.tup (xs ++ ys))))
end
end L2

namespace L2
open PySem PySem.Spec PyProof.Rows

/-! ### places -/
/-- the place that an index of any sign means -/
def ixN (n : Nat) (i : Int) : Option Nat := if 0 ≤ i then (if i < n then some i.toNat else none) else if -(n : Int) ≤ i then some (i + n).toNat else none
def atI {α : Type} (xs : List α) (i : Int) : Option α := (ixN xs.length i).bind fun j => xs[j]?
theorem ixN_seq {n : Nat} {i : Int} {j : Nat} (h : ixN n i = some j) : seqIndex? i n = some j ∧ j < n ∧ -(n : Int) ≤ i ∧ i < n := by
  unfold ixN at h
  by_cases h0 : 0 ≤ i
  · rw [if_pos h0] at h
    by_cases h1 : i < n
    · rw [if_pos h1] at h
      have e : i.toNat = j := Option.some.inj h
      exact ⟨by rw [seqIndex_of h0 h1, e], by omega, by omega, h1⟩
    · rw [if_neg h1] at h; cases h
  · rw [if_neg h0] at h
    by_cases h1 : -(n : Int) ≤ i
    · rw [if_pos h1] at h
      have e : (i + n).toNat = j := Option.some.inj h
      exact ⟨by rw [seqIndex_neg (by omega) h1, e], by omega, h1, by omega⟩
    · rw [if_neg h1] at h; cases h
theorem atI_get {α : Type} {xs : List α} {i : Int} {v : α} (h : atI xs i = some v) : ∃ j, seqIndex? i xs.length = some j ∧ xs[j]? = some v ∧ j < xs.length ∧ -(xs.length : Int) ≤ i ∧ i < xs.length := by
  unfold atI at h
  cases e : ixN xs.length i with
  | none => rw [e] at h; cases h
  | some j =>
    rw [e] at h
    obtain ⟨h1, h2, h3, h4⟩ := ixN_seq e
    exact ⟨j, h1, h, h2, h3, h4⟩
theorem atI_nat {α : Type} {xs : List α} {j : Nat} {v : α} (h : xs[j]? = some v) : atI xs (j : Int) = some v := by
  have hj : j < xs.length := (List.getElem?_eq_some_iff.mp h).1
  have e : ixN xs.length (j : Int) = some j := by
    unfold ixN
    rw [if_pos (by omega), if_pos (by omega)]; simp
  unfold atI; rw [e]; exact h
/-! ### what may be subscripted -/
/-- what stands as an index of a plain subscript -/
def PlainIx (b : Expr) : Prop := ∀ o i, subscripted b false o i = operate [o, i] (getItem o i)
/-- a subscript by values -/
def IxR (X : Cx) (r : R2) : Prop :=
  ∀ (value slice : Expr) (pins : List (Addr × Obj)) (s : Shared) (σ : St) (H : Hp) (x y : V) (v u : Value) (Q : VK), Inv X pins σ H s → RelV x v → RelV y u → r x y H Q →
    subscripted slice false v u = operate [v, u] (getItem v u) → wpAny (model X.prog X.w) X.A (subscriptTail value slice v u) (EP X pins σ Q) X.xe s
/-- a call of a builtin's method by values: the receiver, the arguments -/
def MtR (X : Cx) (id : String) (r : V → List V → Hp → VK → Prop) : Prop :=
  ∀ (pins : List (Addr × Obj)) (s : Shared) (σ : St) (H : Hp) (x : V) (xs : List V) (v : Value) (us : List Value) (Q : VK), Inv X pins σ H s → RelV x v → Vals xs us → r x xs H Q →
    wpAny (model X.prog X.w) X.A (call (.builtin id) (v :: us)) (EP X pins σ Q) X.xe s
section
variable {X : Cx} {a b : Expr} {ta tb : TE} {pos : Pos}
/-- a[b] -/
theorem pe_ix {r : R2} (hr : IxR X r) (ha : PE X a ta) (hb : PE X b tb) (hs : PlainIx b) : PE X (.Subscript a b pos) (tOp r ta tb) := by
  intro pins s σ H Q I h
  exact Subscript_ (binT ha hb I h fun v u s2 x y H2 I2 rx ry q => hr a b pins s2 σ H2 x y v u Q I2 rx ry q (hs _ _))

def rIxL (K : PySem.W.Frag) : R2 := fun x y H Q => ∃ p xs i v, x = .ref p ∧ y = .int i ∧ SqL K H p xs ∧ atI xs i = some v ∧ Q v H
def rIxT (K : PySem.W.Frag) : R2 := fun x y H Q => ∃ p xs i v, x = .ref p ∧ y = .int i ∧ SqT K H p xs ∧ atI xs i = some v ∧ Q v H
def rIxS : R2 := fun x y H Q => ∃ z i c, x = .str z ∧ y = .int i ∧ z.length ≤ sizeLine ∧ atI z.cps.toList i = some c ∧ Q (.str ⟨#[c]⟩) H
theorem ix_list : IxR X (rIxL X.K) := by
  intro value slice pins s σ H x y v u Q I rx ry h hs
  obtain ⟨p, xs, i, z, rfl, rfl, hq, he, q⟩ := h
  cases rx
  obtain ⟨t, rfl⟩ := ry
  obtain ⟨its, r, pl, hz⟩ := I.list hq
  obtain ⟨j, h1, h2, h3, h4, h5⟩ := atI_get he
  obtain ⟨w, ew, rw'⟩ := r.get h2
  have hl := r.length
  have hn := line63
  have fin : EP X pins σ Q w s := ⟨z, H, I, rw', q⟩
  by_cases h0 : 0 ≤ i
  · have hj : i.toNat = j := by
      rw [seqIndex_of h0 h5] at h1
      exact Option.some.inj h1
    exact item_listR pl.isList h0 (by omega) (by rw [hj]; simpa using ew) fin hs
  · have hj : (i + (its.toArray.size : Int)).toNat = j := by
      rw [seqIndex_neg (by omega) h4] at h1
      rw [List.size_toArray, ← hl]
      exact Option.some.inj h1
    exact subscriptTail_builtinR (x := w) pl.isList.typeIs slot_list_getitem.lookup
      (wpAny_getItem_list_neg (Q := fun r s' => r = w ∧ EP X pins σ Q r s') pl.isList (by omega) (by rw [List.size_toArray] <;> omega) (by omega) (by rw [hj]; simpa using ew) ⟨rfl, fin⟩) hs
theorem ix_tup : IxR X (rIxT X.K) := by
  intro value slice pins s σ H x y v u Q I rx ry h hs
  obtain ⟨p, xs, i, z, rfl, rfl, hq, he, q⟩ := h
  cases rx
  obtain ⟨t, rfl⟩ := ry
  obtain ⟨its, r, pl, hz⟩ := I.tuple hq
  obtain ⟨j, h1, h2, h3, h4, h5⟩ := atI_get he
  obtain ⟨w, ew, rw'⟩ := r.get h2
  have hl := r.length
  have hn := line63
  have fin : EP X pins σ Q w s := ⟨z, H, I, rw', q⟩
  exact subscriptTail_builtinR (x := w) pl.typeIs slot_tuple_getitem.lookup
    (getItem_tuple (j := j) (Q := fun r s' => r = w ∧ EP X pins σ Q r s') pl (by omega) (by omega) (by rw [List.size_toArray, ← hl]; exact h1) (by simpa using ew) ⟨rfl, fin⟩) hs
/-- list, tuple or str -/
def rIx (K : PySem.W.Frag) : R2 := fun x y H Q => rIxL K x y H Q ∨ rIxT K x y H Q ∨ rIxS x y H Q
/-! ### xs[i] = v, any sign -/
def rSetL : V → V → V → Hp → (Hp → Prop) → Prop := fun o i v H Q => ∃ p xs k j, o = .ref p ∧ i = .int k ∧ H p = some (.lst xs) ∧ ixN xs.length k = some j ∧ Q (upd H p (.lst (xs.set j v)))
/-! ### slices -/
theorem slice_bounds (lo hi : Option Int) (n : Nat) : (sliceBounds lo hi none n).1 = ((HT.sIx n 0 lo : Nat) : Int) ∧ (sliceBounds lo hi none n).2.1 = ((HT.sIx n n hi : Nat) : Int) ∧ (sliceBounds lo hi none n).2.2 = 1 := by
  refine ⟨?_, ?_, rfl⟩
  · cases lo with
    | none => simp [sliceBounds, HT.sIx]
    | some i =>
      simp only [sliceBounds, HT.sIx, Option.getD_none, show (1 : Int) > 0 by decide, if_true]
      by_cases h : i < 0
      · simp only [h, if_true] <;> omega
      · simp only [h, if_false] <;> omega
  · cases hi with
    | none => simp [sliceBounds, HT.sIx]
    | some i =>
      simp only [sliceBounds, HT.sIx, Option.getD_none, show (1 : Int) > 0 by decide, if_true]
      by_cases h : i < 0
      · simp only [h, if_true] <;> omega
      · simp only [h, if_false] <;> omega
theorem slicePick_cut (its : List Value) (lo hi : Option Int) : slicePick its.toArray lo hi none = ((its.drop (HT.sIx its.length 0 lo)).take (HT.sIx its.length its.length hi - HT.sIx its.length 0 lo)).toArray := by
  obtain ⟨h1, h2, h3⟩ := slice_bounds lo hi its.toArray.size
  unfold slicePick
  rw [h1, h2, h3]
  simp only [sliceRange_one, pick_run, List.size_toArray] <;> rfl
/-- xs[lo:hi] of a list: a new list -/
def rSlL (K : PySem.W.Frag) : V → Option Int → Option Int → Hp → VK → Prop := fun x lo hi H Q => ∃ a xs, x = .ref a ∧ SqL K H a xs ∧ ∀ p, H p = none → Q (.ref p) (upd H p (.lst (cutV xs lo hi)))
theorem sl_list : SlR X (rSlL X.K) := by
  intro pins s σ H x v vl vu lo hi sl Q I rx hs pl pu h
  obtain ⟨a, xs, rfl, hx, q⟩ := h
  cases rx
  obtain ⟨its, r, ht, hz⟩ := I.list hx
  have hlen := r.length
  refine ⟨"list", _, slot_list_getitem.lookup, ht.isList.typeIs, ?_⟩
  refine wpAny_getItem_list_slice ht.isList hs pl pu .none (by simp) ?_ (by rw [List.size_toArray] <;> omega)
  rw [slicePick_cut, ← hlen]
  refine ⟨.ref s.heap.objs.size, _, I.laid (t' := s.toks) (o := .lst (cutV xs lo hi)) (fun b ob q => Heap.get?_push_of_some _ q) (Nat.le_refl _) ?_, rfl, q _ (I.hok.fresh (Nat.le_refl _))⟩
  exact ⟨Nat.le_trans (cutV_length xs lo hi) hz, _, 0, (r.drop (HT.sIx xs.length 0 lo)).take (HT.sIx xs.length xs.length hi - HT.sIx xs.length 0 lo), Heap.get?_push_size _ rfl⟩

/-! ### in, not in: flat items -/
def flatV : V → Bool
  | .non => true
  | .bl _ => true
  | .int _ => true
  | .str _ => true
  | _ => false
/-- == of flat values -/
def eqV : V → V → Bool
  | .non, .non => true
  | .bl a, .bl b => a == b
  | .bl a, .int b => (if a then 1 else 0) == b
  | .int a, .bl b => a == (if b then 1 else 0)
  | .int a, .int b => a == b
  | .str a, .str b => a == b
  | _, _ => false
theorem eqAt_V {A : Around} {s : Shared} {y x : V} {u v : Value} (ry : RelV y u) (rx : RelV x v) (fy : flatV y = true) (fx : flatV x = true) : SeqAt.EqAt A s u v (eqV y x) := by
  cases y with
  | non =>
    cases ry
    cases x with
    | non => cases rx; exact SeqAt.EqAt.same _
    | bl b => cases rx; exact SeqAt.EqAt.none_bool b
    | int b => obtain ⟨t, rfl⟩ := rx; exact SeqAt.EqAt.none_int b t
    | str b => obtain ⟨t, rfl⟩ := rx; exact SeqAt.EqAt.none_str b t
    | _ => exact absurd (show false = true from fx) Bool.false_ne_true
  | bl a =>
    cases ry
    cases x with
    | non => cases rx; exact SeqAt.EqAt.bool_none a
    | bl b => cases rx; exact SeqAt.EqAt.bool_bool a b
    | int b => obtain ⟨t, rfl⟩ := rx; exact SeqAt.EqAt.bool_int a b t
    | str b => obtain ⟨t, rfl⟩ := rx; exact SeqAt.EqAt.bool_str a b t
    | _ => exact absurd (show false = true from fx) Bool.false_ne_true
  | int a =>
    obtain ⟨t', rfl⟩ := ry
    cases x with
    | non => cases rx; exact SeqAt.EqAt.int_none a t'
    | bl b => cases rx; exact SeqAt.EqAt.int_bool a t' b
    | int b => obtain ⟨t, rfl⟩ := rx; exact SeqAt.EqAt.int_int a t' b t
    | str b => obtain ⟨t, rfl⟩ := rx; exact SeqAt.EqAt.int_str a t' b t
    | _ => exact absurd (show false = true from fx) Bool.false_ne_true
  | str a =>
    obtain ⟨t', rfl⟩ := ry
    cases x with
    | non => cases rx; exact SeqAt.EqAt.str_none a t'
    | bl b => cases rx; exact SeqAt.EqAt.str_bool a t' b
    | int b => obtain ⟨t, rfl⟩ := rx; exact SeqAt.EqAt.str_int a t' b t
    | str b => obtain ⟨t, rfl⟩ := rx; exact SeqAt.EqAt.str_str a t' b t
    | _ => exact absurd (show false = true from fx) Bool.false_ne_true
  | _ => exact absurd (show false = true from fy) Bool.false_ne_true
/-- the items' answers, read off the values (a value's own answer does not lean on its token) -/
def eqU (x : V) (u : Value) : Bool := match u with
  | .none => eqV .non x
  | .bool b => eqV (.bl b) x
  | .int i _ => eqV (.int i) x
  | .str z _ => eqV (.str z) x
  | _ => false
theorem eqU_of {x y : V} {u : Value} (r : RelV y u) (f : flatV y = true) : eqU x u = eqV y x := by
  cases y with
  | non => cases r; rfl
  | bl b => cases r; rfl
  | int i => obtain ⟨t, rfl⟩ := r; rfl
  | str z => obtain ⟨t, rfl⟩ := r; rfl
  | _ => exact absurd (show false = true from f) Bool.false_ne_true
theorem any_eqU {x : V} : ∀ {xs : List V} {us : List Value}, Vals xs us → xs.all flatV = true → us.any (eqU x) = xs.any fun y => eqV y x
  | _, _, .nil, _ => rfl
  | y :: xs, u :: us, .cons r t, f => by
    rw [List.all_cons, Bool.and_eq_true] at f
    rw [List.any_cons, List.any_cons, eqU_of r f.1, any_eqU t f.2]
theorem mem_eqAt {A : Around} {s : Shared} {x : V} {v : Value} (rx : RelV x v) (fx : flatV x = true) : ∀ {xs : List V} {us : List Value}, Vals xs us → xs.all flatV = true → ∀ u ∈ us, SeqAt.EqAt A s u v (eqU x u)
  | _, _, .nil, _ => fun u hu => by cases hu
  | y :: xs, u :: us, .cons r t, f => fun u' hu => by
    rw [List.all_cons, Bool.and_eq_true] at f
    rcases List.mem_cons.mp hu with rfl | hu
    · rw [eqU_of r f.1]; exact eqAt_V r rx f.1 fx
    · exact mem_eqAt rx fx t f.2 u' hu
def inV (x : V) (xs : List V) : Bool := xs.any fun y => eqV y x
/-- x in a list or tuple of flat items -/
def rIn (K : PySem.W.Frag) (neg : Bool) : R2 := fun x y H Q => ∃ p xs, y = .ref p ∧ (SqL K H p xs ∨ SqT K H p xs) ∧ flatV x = true ∧ xs.all flatV = true ∧ Q (.bl (if neg then !inV x xs else inV x xs)) H
theorem op_in_seq : OpR X (compareOp .In) (rIn X.K false) := by
  intro pins s σ H x y v u Q I rx ry h
  obtain ⟨p, xs, rfl, hq, fx, fs, q⟩ := h
  cases ry
  rcases hq with hq | hq
  · obtain ⟨its, r, pl, hz⟩ := I.list hq
    refine SeqAt.in_listAt (eqU x) pl.isList (fun w hw => mem_eqAt rx fx r fs w (by simpa using hw)) ⟨.bl _, H, I, rfl, ?_⟩
    rw [show its.toArray.any (eqU x) = its.any (eqU x) by simp, any_eqU r fs]
    exact q
  · obtain ⟨its, r, pl, hz⟩ := I.tuple hq
    refine SeqAt.in_tupleAt (eqU x) pl (fun w hw => mem_eqAt rx fx r fs w (by simpa using hw)) ⟨.bl _, H, I, rfl, ?_⟩
    rw [show its.toArray.any (eqU x) = its.any (eqU x) by simp, any_eqU r fs]
    exact q
/-! ### len, list(x), tuple(x) of any list or tuple that is read -/
theorem call_len_seq : CallR X (.builtin "len") (fun xs H Q => ∃ p ys, xs = [.ref p] ∧ (SqL X.K H p ys ∨ SqT X.K H p ys) ∧ Q (.int ys.length) H) := by
  intro pins s σ H xs us Q I r h
  obtain ⟨p, ys, rfl, hq, q⟩ := h
  obtain ⟨u, rfl, rx⟩ := vals1 r
  cases rx
  have hn := line63
  rcases hq with hq | hq
  · obtain ⟨its, r', pl, hz⟩ := I.list hq
    have hlen := r'.length
    exact Calls.call_len_list pl.isList (by simp only [List.size_toArray] <;> omega) ⟨.int ys.length, H, I.tok _, ⟨s.toks + 1, by rw [List.size_toArray, hlen]⟩, q⟩
  · obtain ⟨its, r', pl, hz⟩ := I.tuple hq
    have hlen := r'.length
    exact len_tuple pl (by simp only [List.size_toArray] <;> omega) ⟨.int ys.length, H, I.tok _, ⟨s.toks + 1, by rw [List.size_toArray, hlen]⟩, q⟩
/-! ### the call of a builtin's method: o.m(..) -/
/-- the value is of that builtin type -/
def tyV (K : PySem.W.Frag) (T : String) (x : V) (H : Hp) : Prop := match x with
  | .str _ => T = "str"
  | .int _ => T = "int"
  | .ref p => (T = "list" ∧ ∃ xs, SqL K H p xs) ∨ (T = "tuple" ∧ ∃ o, K.lookup p = some o ∧ o.cls = .type "tuple" ∧ o.dict = none) ∨
      (T = "dict" ∧ ((∃ kvs, H p = some (.dK kvs)) ∨ ∃ kvs, H p = some (.dT kvs))) ∨ (T = "set" ∧ ∃ S n, H p = some (.set S n))
  | _ => False
theorem tyV_is {pins : List (Addr × Obj)} {σ : St} {H : Hp} {s : Shared} {T : String} {x : V} {v : Value} (I : Inv X pins σ H s) (r : RelV x v) (ty : tyV X.K T x H) :
    s.TypeIs v T ∧ ∀ a, v = .ref a → ∃ ob, s.heap.get? a = some ob ∧ ob.dict = none := by
  cases x with
  | str z =>
    obtain ⟨t, rfl⟩ := r
    cases (show T = "str" from ty)
    exact ⟨typeIs_str s z t, fun _ e => nomatch e⟩
  | int i =>
    obtain ⟨t, rfl⟩ := r
    cases (show T = "int" from ty)
    exact ⟨typeIs_int s i t, fun _ e => nomatch e⟩
  | ref p =>
    cases r
    rcases ty with ⟨rfl, xs, hq⟩ | ⟨rfl, o, hk, hc, hd⟩ | ⟨rfl, hk⟩ | ⟨rfl, S, n, hk⟩
    · obtain ⟨its, _, pl, _⟩ := I.list hq
      refine ⟨pl.isList.typeIs, fun a e => ?_⟩
      cases e
      obtain ⟨o, n, e, c, hd, _⟩ := pl
      exact ⟨o, e, hd⟩
    · refine ⟨⟨o, I.kIn p o hk, hc⟩, fun a e => ?_⟩
      cases e
      exact ⟨o, I.kIn _ o hk, hd⟩
    · have z : ∃ o, s.heap.get? p = some o ∧ o.ExactDict := by
        rcases hk with ⟨kvs, hk⟩ | ⟨kvs, hk⟩
        · obtain ⟨_, _, _, _, o, _, _, e, ex, _⟩ := I.hok p _ hk
          exact ⟨o, e, ex⟩
        · obtain ⟨_, _, _, _, o, _, _, e, ex, _⟩ := I.hok p _ hk
          exact ⟨o, e, ex⟩
      obtain ⟨o, e, ex⟩ := z
      refine ⟨⟨o, e, ex.1⟩, fun a e2 => ?_⟩
      cases e2
      exact ⟨o, e, ex.2.1⟩
    · obtain ⟨o, _, _, _, e, ex, _⟩ := I.hok p _ hk
      refine ⟨⟨o, e, ex.1⟩, fun a e2 => ?_⟩
      cases e2
      exact ⟨o, e, ex.2.1⟩
  | _ => exact False.elim ty
def tBM0 (K : PySem.W.Frag) (T : String) (r : V → List V → Hp → VK → Prop) (to : TE) : TE := fun σ H Q => to σ H fun x H1 => tyV K T x H1 ∧ r x [] H1 Q
def tBM (K : PySem.W.Frag) (T : String) (r : V → List V → Hp → VK → Prop) (to : TE) (t : TA) : TE := fun σ H Q => to σ H fun x H1 => tyV K T x H1 ∧ t σ H1 fun xs H2 => r x xs H2 Q
variable {o e : Expr} {es : List Expr} {to : TE} {t : TA} {name : Str} {apos cpos : Pos} {T id : String} {r : V → List V → Hp → VK → Prop}
theorem pe_bm (pa : PlainAttrs T) (slot : Slot T name id) (hty : typeOf (.builtin id) = pure (.type "method_descriptor")) (hm : MtR X id r) (ho : PE X o to) (ha : PA X (e :: es) t)
    (hbase : attributeBase o name X.env (eval o X.env) = eval o X.env := by rfl)
    (hfew : ((backTo cpos (starEach (e :: es) X.env)).all (fun x => !x.1) && (backToKw cpos (keywordEach [] X.env)).all (fun x => x.1.isSome)
      && decide ((e :: es).length + ([] : List Keyword).length + (if ([] : List Keyword).isEmpty then 0 else 1) < 30)) = true := by rfl)
    (hline : (apos.endLine == cpos.line) = true := by rfl) (hs : starEach (e :: es) X.env = (false, eval e X.env) :: starEach es X.env := by rfl) (hplain : (backTo cpos (starEach es X.env)).any (·.1) = false := by rfl) :
    PE X (.Call (.Attribute o name apos) (e :: es) [] cpos) (tBM X.K T r to t) := by
  intro pins s σ H Q I h
  refine wpAny_Call_method_late hbase hfew hline rfl (thn (ho pins s σ H _ I h) fun v s1 ⟨x, H1, I1, r1, ty, q1⟩ => ?_)
  obtain ⟨h1, h2⟩ := tyV_is I1 r1 ty
  refine ⟨T, id, pa, slot, hty, h1, h2, ?_⟩
  have hA := ha cpos pins s1 σ H1 _ I1 q1
  rw [hs] at hA ⊢
  refine Calls.callWith_builtin (by show (false || (backTo cpos (starEach es X.env)).any (·.1)) = false; rw [hplain] <;> rfl) (Calls.evalArgs_plain ?_)
  exact thn hA fun us s2 ⟨vs, H2, I2, r2, q2⟩ => hm pins s2 σ H2 x vs v us Q I2 r1 r2 q2
/- xs.append(e), list.index on a module's tuple .. are MtR facts of 06m -/
end
end L2

namespace L2
open PySem PySem.Spec PyProof.Rows

def MtM (X : Cx) (id : String) (r : V → List V → Hp → VK → Prop) : Prop :=
  ∀ (pins : List (Addr × Obj)) (s : Shared) (σ : St) (H : Hp) (x : V) (xs : List V) (v : Value) (us : List Value) (Q : VK), Inv X pins σ H s → RelV x v → Vals xs us → r x xs H Q →
    wpAny (model X.prog X.w) X.A (call (.builtin id) (v :: us)) (EP X pins σ Q) X.xe s

/-! ### lists of values -/
theorem Vals.one : ∀ {x : V} {us : List Value}, Vals [x] us → ∃ u, us = [u] ∧ RelV x u
  | _, _, .cons r .nil => ⟨_, rfl, r⟩
section
variable {X : Cx} {pins : List (Addr × Obj)} {σ : St} {H : Hp} {s : Shared} {l b : Addr} {xs ys zs : List V}

/-! ### the two steps: a tracked list is rewritten, a new list is laid -/
theorem Inv.lset {its its' : List Value} {n : Nat} {f : Array Value → Array Value} {t' : Nat} (I : Inv X pins σ H s) (hH : H l = some (.lst xs))
    (e : s.heap.get? l = some { cls := .type "list", data := .seq its.toArray n }) (hf : f its.toArray = its'.toArray) (hv : Vals ys its') (hz : ys.length ≤ sizeLine) :
    Inv X pins σ (upd H l (.lst ys)) { s with heap := s.heap.update l (Obj.mapSeq f), toks := t' } := by
  have q := PySem.IsL.update e f
  rw [hf] at q
  refine I.write (x := l) (e := l) (by rw [hH]; exact trivial) (.inl rfl) (fun b' u hb hu => (Heap.get?_update_other s.heap (Obj.mapSeq f) (Ne.symm hb)).trans hu) ⟨_, q⟩ ?_
  exact ⟨hz, its', _, hv, q⟩
theorem Inv.lnew {its : List Value} {t' : Nat} (I : Inv X pins σ H s) (hv : Vals ys its) (hz : ys.length ≤ sizeLine) :
    Inv X pins σ (upd H s.heap.objs.size (.lst ys)) { s with heap := s.heap.push { cls := .type "list", data := .seq its.toArray }, toks := t' } :=
  I.laid (fun _ _ q => Heap.get?_push_of_some _ q) (Nat.le_refl _) ⟨hz, its, 0, hv, Heap.get?_push_size _ rfl⟩
theorem Inv.fresh (I : Inv X pins σ H s) : H s.heap.objs.size = none := I.hok.fresh (Nat.le_refl _)
theorem Inv.lstM (I : Inv X pins σ H s) (hH : H l = some (.lst xs)) : xs.length ≤ sizeLine ∧ ∃ (its : List Value) (n : Nat), Vals xs its ∧ xs.length = its.length ∧ s.heap.get? l = some { cls := .type "list", data := .seq its.toArray n } := by
  obtain ⟨z, its, n, r, e⟩ := I.hok l _ hH
  exact ⟨z, its, n, r, r.length, e⟩

theorem notLongL {n : Nat} (h : n ≤ sizeLine) : Builtin.List.listTooLong n = false := by
  unfold Builtin.List.listTooLong
  exact decide_eq_false (by omega)
end

section
variable {X : Cx}

/-! ### methods -/
def rAppend : V → List V → Hp → VK → Prop := fun x vs H Q => ∃ l xs y, x = .ref l ∧ vs = [y] ∧ H l = some (.lst xs) ∧ xs.length < sizeLine ∧ Q .non (upd H l (.lst (xs ++ [y])))
theorem mt_append : MtM X "list.append" rAppend := by
  intro pins s σ H x vs v us Q I rx rv h
  obtain ⟨l, xs, y, rfl, rfl, hH, hz, q⟩ := h
  cases rx
  obtain ⟨u, rfl, ru⟩ := rv.one
  obtain ⟨z, its, n, r, hl, e⟩ := I.lstM hH
  refine call_meets F.slot_list_append ⟨_, e, rfl⟩ F.entry_list_append (F.args_list_append_2 _ _) (PySem.list_append l its.toArray n u (by rw [List.size_toArray]; omega)) ⟨e, ?_⟩
  refine ⟨.non, _, I.lset (its' := its ++ [u]) hH e (by simp) (r.append (.cons ru .nil)) ?_, rfl, q⟩
  rw [List.length_append, List.length_singleton]
  omega

def rExtend : V → List V → Hp → VK → Prop := fun x vs H Q => ∃ l b xs zs, x = .ref l ∧ vs = [.ref b] ∧ H l = some (.lst xs) ∧ H b = some (.lst zs) ∧ xs.length + zs.length ≤ sizeLine ∧ Q .non (upd H l (.lst (xs ++ zs)))
theorem mt_extend : MtM X "list.extend" rExtend := by
  intro pins s σ H x vs v us Q I rx rv h
  obtain ⟨l, b, xs, zs, rfl, rfl, hH, hB, hz, q⟩ := h
  cases rx
  obtain ⟨u, rfl, ru⟩ := rv.one
  cases ru
  obtain ⟨z, its, n, r, hl, e⟩ := I.lstM hH
  obtain ⟨z2, its2, n2, r2, hl2, e2⟩ := I.lstM hB
  have hsz : its.toArray.size + its2.toArray.size ≤ sizeLine := by rw [List.size_toArray, List.size_toArray]; omega
  have hlong : ¬ (!its.toArray.isEmpty && Builtin.List.listTooLong (its.toArray.size + its2.toArray.size)) = true := by
    rw [notLongL hsz, Bool.and_false]
    exact Bool.false_ne_true
  refine call_meets F.slot_list_extend ⟨_, e, rfl⟩ F.entry_list_extend (F.args_list_extend_2 _ _)
    (AutoSeq1.list_extend_list_list_0 l its.toArray n b its2.toArray n2 hlong (by rw [List.size_toArray]; omega) (by omega)) ⟨e, e2, ?_⟩
  refine ⟨.non, _, I.lset (its' := its ++ its2) hH e (by simp) (r.append r2) ?_, rfl, q⟩
  rw [List.length_append]
  omega

def rPop : V → List V → Hp → VK → Prop := fun x vs H Q => ∃ l xs y, x = .ref l ∧ vs = [] ∧ H l = some (.lst xs) ∧ xs[xs.length - 1]? = some y ∧ Q y (upd H l (.lst xs.dropLast))
def rPopAt : V → List V → Hp → VK → Prop := fun x vs H Q => ∃ l xs i k y, x = .ref l ∧ vs = [.int i] ∧ H l = some (.lst xs) ∧ -(2 ^ 63) ≤ i ∧ i < 2 ^ 63 ∧ seqIndex? i xs.length = some k ∧ xs[k]? = some y ∧ Q y (upd H l (.lst (xs.eraseIdx k)))
def rReverse : V → List V → Hp → VK → Prop := fun x vs H Q => ∃ l xs, x = .ref l ∧ vs = [] ∧ H l = some (.lst xs) ∧ Q .non (upd H l (.lst xs.reverse))
def rClear : V → List V → Hp → VK → Prop := fun x vs H Q => ∃ l xs, x = .ref l ∧ vs = [] ∧ H l = some (.lst xs) ∧ Q .non (upd H l (.lst []))
/-! ### list + list, list += list, list * int -/
def rCat : R2 := fun x y H Q => ∃ l b xs zs, x = .ref l ∧ y = .ref b ∧ H l = some (.lst xs) ∧ H b = some (.lst zs) ∧ xs.length + zs.length ≤ sizeLine ∧ ∀ p, H p = none → Q (.ref p) (upd H p (.lst (xs ++ zs)))
theorem op_cat : OpR X (binaryOp .Add) rCat := by
  intro pins s σ H x y v u Q I rx ry h
  obtain ⟨l, b, xs, zs, rfl, rfl, hH, hB, hz, q⟩ := h
  cases rx
  cases ry
  obtain ⟨z, its, n, r, hl, e⟩ := I.lstM hH
  obtain ⟨z2, its2, n2, r2, hl2, e2⟩ := I.lstM hB
  refine PySem.P.add_list e e2 ?_ (by rw [List.size_toArray, List.size_toArray]; omega)
  have ea : its.toArray ++ its2.toArray = (its ++ its2).toArray := by simp
  rw [ea]
  exact ⟨.ref _, _, I.lnew (t' := s.toks) (r.append r2) (by rw [List.length_append]; omega), rfl, q _ I.fresh⟩
/-- a list times an int (a negative one is nothing) -/
def rRep : R2 := fun x y H Q => ∃ l k xs, x = .ref l ∧ y = .int k ∧ H l = some (.lst xs) ∧ -(2 ^ 63) ≤ k ∧ k < 2 ^ 63 ∧ xs.length * k.toNat ≤ sizeLine ∧
  ∀ p, H p = none → Q (.ref p) (upd H p (.lst (List.replicate k.toNat xs).flatten))
/-! ### del xs[i] -/
end

/-! ### xs[a:b] = ys -/
section
variable {prog : Program} {w : World} {A : Around} {E : Value → Shared → Prop} {s : Shared}
end

section
variable {X : Cx}
end
end L2

namespace Att
open PySem PySem.W PySem.Calls PyProof.Rows

/-! ### the script -/
theorem ints_of_wellAll {P : Params} {h : Heap} : ∀ (ns : List Int) (vs : List Value), WellAll P h vs (ns.map WData.int) → IntsAre vs ns := by
  intro ns
  induction ns with
  | nil =>
    intro vs w
    rw [List.map_nil] at w
    cases w
    exact .nil
  | cons n ns ih =>
    intro vs w
    rw [List.map_cons] at w
    cases w with
    | cons a b =>
      cases a
      exact .cons _ _ (ih _ b)

theorem script_of {l : OpenLaw} {n : Nat} (hn : l.most = some n) {P : Params} {h : Heap} {args : List WData} {vals : List Value}
    (hpre : l.row.toRowW.claim.pre args = true) (hwl : WellAll P h vals args) :
    ∃ a vs ns, vals = [Value.ref a] ∧ args = [WData.list (ns.map WData.int)] ∧ h.get? a = some { cls := .type "list", data := .seq vs.toArray } ∧ IntsAre vs ns ∧ ns.length ≤ n := by
  have hsh : WShape.hasAll [] args [.list .int] = true := (pre_splitW hpre).1
  have hc : l.pre.holds [] { args := args } = true := (pre_splitW hpre).2
  obtain ⟨d, r, rfl, h1, h2⟩ := hasAllW_cons hsh
  obtain rfl := hasAllW_nil h2
  obtain ⟨xs, rfl, h3⟩ := hasW_list h1
  obtain ⟨ns, rfl⟩ := items_int h3
  have hlen : ns.length ≤ n := by
    unfold OpenLaw.pre at hc
    have h4 : (WTm.not (.lt (.lit (.int (n : Int))) (.len (.arg 0)))).holds [] { args := [.list (ns.map .int)] } = true := by
      have h4 := (holds_andW hc).1
      rw [hn] at h4
      exact h4
    have h5 := condW_of h4 (w_not (w_lt w_lit (w_len_list (w_arg rfl))))
    rw [List.length_map] at h5
    refine Nat.le_of_not_lt fun q => ?_
    have q' : (n : Int) < ((ns.length : Nat) : Int) := by omega
    first
      | (rw [decide_eq_true q'] at h5; exact absurd h5 (by decide))
      | (simp at h5; omega)
  cases hwl with
  | cons w1 w2 =>
    cases w2
    cases w1 with
    | list ho hall => exact ⟨_, _, ns, rfl, rfl, ho, ints_of_wellAll ns _ hall, hlen⟩

theorem post_true (l : OpenLaw) (args : List WData) : l.row.toRowW.claim.post args (.bool true) args = true :=
  postW_of (r := l.row.toRowW) (X := (true == true))
    (show WShape.has [] (.bool true) .bool = true by first | rfl | decide | simp [WShape.has, WShape.arms, WShape.armsAll])
    (show (WTm.eq .res (.lit (.bool true))).value [] { args := args, res := some (.bool true), after := args } = some (.bool (true == true)) from w_eq_bool (w_res rfl) w_lit) rfl

/-! ### the attachment: holds_open's last premise (the goal 'hc' behind k_head) from a wpAny of the law's body -/
/-- the same from a codeAny of the CALL (for a layer whose function contracts speak of calls) -/
theorem attach_call {l : OpenLaw} {n : Nat} {q : Program} {loose : List Str} {XP : (Str → Option Value) → Heap → Prop} {YP : World → Heap → Prop} {d : DefRec}
    (hn : l.most = some n) (hdf : d.params.defaults = [])
    (call : ∀ (w : World) (s₀ s₁ : Shared) (mg mb : Str → Option Value) (fa : Addr) (o : Obj) (pm cd doc : Value) (a : Addr) (vs : List Value) (ns : List Int),
      Ground q loose [] XP w s₀ mg mb s₁.heap → YP w s₁.heap →
      s₁.heap.get? fa = some o → o.data = .func (docDef d.name d.params d.body d.scope pm cd doc) → s₁.heap.CodeRec cd d.name → mg d.name = some (.ref fa) →
      s₁.heap.get? a = some { cls := .type "list", data := .seq vs.toArray } → IntsAre vs ns → ns.length ≤ n → s₁.gens = #[] →
      codeAny (model l.prog w) callerA (.call (.ref fa) ⟨[.ref a], []⟩) (fun r s' => r = .ok (.ret (.bool true)) ∧ OldK s₁.heap s'.heap ∧ s'.os = s₁.os ∧ AllBare s'.gens) s₁) :
    WalkO q loose XP YP l.row.toRowW d [] (fun f vs => PySem.call f vs) := by
  intro w s₀ s₁ mg mb G Y fa o pm cd doc dV kV ho hd hcd hD hmg hg args vals as hpre hlay hrd hwl hlo
  obtain rfl : dV = .none := Dflts.none hD hdf
  obtain rfl : kV = .none := Dflts.noKw hD
  obtain ⟨a, vs, ns, rfl, rfl, hobj, hints, hlen⟩ := script_of hn hpre hwl
  refine enter_call (codeAny_mono (call w s₀ s₁ mg mb fa o pm cd doc a vs ns G Y ho (fd_plain hd) hcd hmg hobj hints hlen hg) fun r s' hq => ?_)
  obtain ⟨rfl, h2, h3, h4⟩ := hq
  exact ⟨.inl ⟨.bool true, .bool true, [], rfl, fun _ => rfl, .bool true, post_true l _, fun _ => ⟨List.Pairwise.nil, fun _ hm => (nomatch hm)⟩⟩, h2, h3, h4⟩

/-! ### rules over ANY heap (no ledger) from facts about the written part K: the library's own take a ledger (News) for what they write -/
section
variable {prog : Program} {w : World} {A : Around} {E : Value → Shared → Prop} {s : Shared} {K : Frag}

/-! the whole heap as the ledger: makes every rule that writes through a ledger a rule over any heap -/
def noObjs (h : Heap) : Heap := { h with objs := #[] }
def ledger (h : Heap) (L d : Addr) : List (Addr × Obj) := (List.range h.objs.size).filterMap fun a => if a = L ∨ a = d then none else (h.get? a).map fun o => (a, o)
end
end Att

namespace L2
open PySem PySem.Spec PyProof.Rows

theorem vals_ints : ∀ {vs : List Value} {ns : List Int}, IntsAre vs ns → Vals (ns.map V.int) vs
  | _, _, .nil => .nil
  | _, _, .cons n t h => .cons ⟨t, rfl⟩ (vals_ints h)

/-- nothing is tracked but the script, known to the object (or it is an object of the module) -/
def Only (H : Hp) : Prop := ∀ b, H b = none ∨ ∃ o xs, H b = some (.frz o (.lst xs))

end L2

namespace L2
open PySem PySem.Spec PyProof.Rows

abbrev KOf {K : PySem.W.Frag} {h : Heap} (_ : K.In h) : PySem.W.Frag := K

end L2



/-! SHORT WORDS over the layer: a def of the text, its body, what a loop and a test want. -/
namespace L2
open PySem PySem.Spec PyProof.Rows

/-! ### the text by places -/
/-- the j-th statement of a class's body -/
def inClass (s : Stmt) (j : Nat) : Stmt := match s with
  | .ClassDef _ _ _ body _ _ _ _ _ _ _ => body.getD j (.Pass ⟨0, 0, 0, 0⟩)
  | _ => .Pass ⟨0, 0, 0, 0⟩
def defArgs (s : Stmt) : Arguments := match s with
  | .FunctionDef _ a _ _ _ _ _ _ _ _ => a
  | _ => { posonlyargs := [], args := [], vararg := none, kwonlyargs := [], kw_defaults := [], kwarg := none, defaults := [] }
def defBody (s : Stmt) : List Stmt := match s with
  | .FunctionDef _ _ b _ _ _ _ _ _ _ => b
  | _ => []
def defScope (s : Stmt) : Scope := match s with
  | .FunctionDef _ _ _ _ _ _ sc _ _ _ => sc
  | _ => { kind := .function, names := [], isGenerator := false, isCoroutine := false }

/-! ### no exception leaves a def -/
abbrev CX0 : CXT := fun _ _ _ _ _ _ => False
abbrev E0 : XK := fun _ _ _ => False
theorem pass0 {X : Cx} : Passes CX0 X E0 := fun _ _ _ _ _ _ _ h => h.elim

/-! ### a def (or method) of the text as it stands behind the top -/
structure Fun (K : PySem.W.Frag) (x qual : Str) (st : Stmt) (f : Addr) (fd : FuncData) : Prop where
  ex : ∃ (oc : Value) (od : Option Addr) (kV doc pm : Value) (an : Option Addr) (cdv ct : Value) (osl : Array (Option Value)),
    fd = PySem.W.fnOf x qual (defArgs st) (defBody st) (defScope st) .none kV doc pm an cdv ct ∧ K.lookup f = some ⟨oc, od, .func fd, osl⟩ ∧ PySem.W.codeIn K cdv qual = true
  kp : PySem.W.keepIn K (.ref f) = true
section
variable {P : Program} {w : World} {K : PySem.W.Frag} {mg : Str → Option Value} {base : Heap}
/-- THE RULE for a def: its body as a term of rules, and the reading of that term -/
theorem Fun.ok {x qual : Str} {st : Stmt} {f : Addr} {fd : FuncData} {N ps : List Str} {k : Nat} {sp : Sp} (F : Fun K x qual st f fd) (S : FnScope N ps (defScope st)) (len : ∀ vs H Q E, sp vs H Q E → vs.length = ps.length)
    (hbody : ∀ (cdv : Value) (A : Around) (outer : List Env) (s : Shared) (H : Hp) (vs : List V) (Q : VK) (E : XK), Room k (A.deeper (envOfC qual (defScope st) s.heap.objs.size f cdv)) → sp vs H Q E →
      ∃ t, PSs (cxOf CX0 P w K mg base N qual (defScope st) f cdv A outer s H E).nox (defBody st) t ∧ t { nx := fun _ H' => Q .non H', rt := Q } (start N vs) H) : FnOk P w K mg base CX0 (k + 1) f fd ps sp := by
  obtain ⟨oc, od, kV, doc, pm, an, cdv, ct, osl, rfl, lk, hcd⟩ := F.ex
  refine fn_of lk hcd S len fun A outer s H vs Q E hr hsp => ?_
  obtain ⟨t, h, q⟩ := hbody cdv A outer s H vs Q E hr hsp
  exact ⟨t, h.nox, q⟩
/-- how its arguments bind (no defaults): h is «fun _ _ _ _ _ _ us hl => match us, hl with | [_, _], _ => rfl», one _ a parameter -/
theorem Fun.binds {x qual : Str} {st : Stmt} {f : Addr} {fd : FuncData} {ps : List Str} (F : Fun K x qual st f fd)
    (h : ∀ (kV doc pm : Value) (an : Option Addr) (cdv ct : Value) (us : List Value), us.length = ps.length → bindArgs (PySem.W.fnOf x qual (defArgs st) (defBody st) (defScope st) .none kV doc pm an cdv ct) ⟨us, []⟩ = pure (ps.zip us)) : Binds K fd ps [] := by
  obtain ⟨oc, od, kV, doc, pm, an, cdv, ct, osl, rfl, lk, hcd⟩ := F.ex
  exact .all (h kV doc pm an cdv ct)
theorem fun_mk {x qual : Str} {st : Stmt} {f : Addr} {oc : Value} {od an : Option Addr} {osl : Array (Option Value)} {kV doc pm cdv ct : Value} (l : K.lookup f = some ⟨oc, od, .func (PySem.W.fnOf x qual (defArgs st) (defBody st) (defScope st) .none kV doc pm an cdv ct), osl⟩)
    (c : PySem.W.codeIn K cdv qual = true) (k : PySem.W.keepIn K (.ref f) = true) : Fun K x qual st f (PySem.W.fnOf x qual (defArgs st) (defBody st) (defScope st) .none kV doc pm an cdv ct) := ⟨⟨oc, od, kV, doc, pm, an, cdv, ct, osl, rfl, l, c⟩, k⟩
end
theorem hu_of {A : Around} {k : Nat} (hr : Room k A) : A.units + 1 < cLine := Nat.lt_of_le_of_lt (Nat.add_le_add_left (by decide : 1 ≤ 64) _) hr.units
/-! ### expressions in short: the name that stands in the i-th slot -/
section
variable {X : Cx}
theorem pv (i : Nat) {x : Str} {pos : Pos} (hN : X.N[i]? = some x := by rfl) (hv : Vis X.env.scope x := by first | exact Or.inl rfl | exact Or.inr (Or.inl rfl) | exact Or.inr (Or.inr rfl)) (hd : (x == ("__debug__" : Str)) = false := by decide)
    (hcd : (x == ("__classdict__" : Str)) = false := by decide) : PE X (.Name x pos) (tVar i) := pe_var hN hv hd hcd
end

/-! ### tests -/
theorem iteT {A B : Prop} (h : A) : if true = true then A else B := by
  rw [if_pos rfl]
  exact h
theorem ite2 {c A B : Prop} [Decidable c] (h1 : c → A) (h2 : ¬ c → B) : if c then A else B := by
  by_cases h : c
  · rw [if_pos h]
    exact h1 h
  · rw [if_neg h]
    exact h2 h
/-! ### heaps -/
/-- all that was tracked is as it was -/
def Same (H H' : Hp) : Prop := ∀ b o, H b = some o → H' b = some o
theorem Same.refl (H : Hp) : Same H H := fun _ _ h => h
theorem Same.trans {H H1 H2 : Hp} (a : Same H H1) (b : Same H1 H2) : Same H H2 := fun c o h => b c o (a c o h)
theorem Same.free {H H' : Hp} (e : Same H H') {l : Addr} (h : H' l = Option.none) : H l = Option.none := by
  cases q : H l with
  | none => rfl
  | some o =>
    rw [e l o q] at h
    cases h
theorem Same.seq {K : PySem.W.Frag} {H H' : Hp} {a : Addr} {xs : List V} (e : Same H H') (h : SqL K H a xs) : SqL K H' a xs := by
  rcases h with (h | ⟨o, h⟩) | h
  · exact .inl (.inl (e _ _ h))
  · exact .inl (.inr ⟨o, e _ _ h⟩)
  · exact .inr h

end L2
namespace L2
open PySem PySem.Spec PyProof.Rows

/-! ### lists of pairs as tables -/
section
variable {κ : Type} [DecidableEq κ]
def valV (kvs : List (κ × V)) (k : κ) : Option V := (kvs.find? fun kv => decide (kv.1 = k)).map (·.2)
/-- in its place, or at the end -/
def putK (kvs : List (κ × V)) (k : κ) (v : V) : List (κ × V) :=
  if (kvs.any fun kv => decide (kv.1 = k)) = true then kvs.map (fun kv => if kv.1 = k then (kv.1, v) else kv) else kvs ++ [(k, v)]
def dropK (kvs : List (κ × V)) (k : κ) : List (κ × V) := kvs.filter fun kv => decide (kv.1 ≠ k)

theorem valV_pos {p : κ × V} {r : List (κ × V)} {k : κ} (e : p.1 = k) : valV (p :: r) k = some p.2 := by simp [valV, List.find?_cons, e]
theorem valV_neg {p : κ × V} {r : List (κ × V)} {k : κ} (e : ¬ p.1 = k) : valV (p :: r) k = valV r k := by simp [valV, List.find?_cons, e]
theorem valV_any (k : κ) : ∀ kvs : List (κ × V), (kvs.any fun kv => decide (kv.1 = k)) = (valV kvs k).isSome
  | [] => rfl
  | p :: r => by
    rw [List.any_cons]
    by_cases e : p.1 = k
    · simp only [valV_pos e, decide_eq_true e, Bool.true_or, Option.isSome_some]
    · rw [valV_neg e, decide_eq_false e, Bool.false_or]; exact valV_any k r
theorem length_putK (kvs : List (κ × V)) (k : κ) (v : V) : (putK kvs k v).length ≤ kvs.length + 1 := by
  unfold putK
  split
  · rw [List.length_map]; omega
  · rw [List.length_append, List.length_cons, List.length_nil]; omega
theorem RelO.isSome_eq {o : Option V} {u : Option Value} (r : RelO o u) : o.isSome = u.isSome := by
  cases o with
  | none => cases u with
    | none => rfl
    | some _ => exact (show False from r).elim
  | some _ => cases u with
    | none => exact (show False from r).elim
    | some _ => rfl
/-- raw tables of the same keys -/
theorem KV.val {kvs : List (κ × V)} {vs : List (κ × Value)} (r : KV kvs vs) (k : κ) : RelO (valV kvs k) (valueAt vs k) := by
  unfold KV at r
  induction r with
  | nil => exact True.intro
  | @cons p q ps qs h t ih =>
    obtain ⟨h1, h2⟩ := h
    by_cases e : p.1 = k
    · have e' : q.1 = k := h1.symm.trans e
      have b : valueAt (q :: qs) k = some q.2 := by simp [valueAt, List.find?_cons, e']
      rw [valV_pos e, b]; exact h2
    · have e' : ¬ q.1 = k := fun z => e (h1.trans z)
      have b : valueAt (q :: qs) k = valueAt qs k := by simp [valueAt, List.find?_cons, e']
      rw [valV_neg e, b]; exact ih
theorem KV.any {kvs : List (κ × V)} {vs : List (κ × Value)} (r : KV kvs vs) (k : κ) : (kvs.any fun kv => decide (kv.1 = k)) = vs.any fun kv => decide (kv.1 = k) := by
  unfold KV at r
  induction r with
  | nil => rfl
  | cons h t ih => rw [List.any_cons, List.any_cons, ih, h.1]
theorem KV.repl {kvs : List (κ × V)} {vs : List (κ × Value)} (r : KV kvs vs) (k : κ) {y : V} {u : Value} (ry : RelV y u) :
    KV (kvs.map fun kv => if kv.1 = k then (kv.1, y) else kv) (vs.map fun kv => if kv.1 = k then (kv.1, u) else kv) := by
  unfold KV at r ⊢
  induction r with
  | nil => exact .nil
  | @cons p q ps qs h t ih =>
    rw [List.map_cons, List.map_cons]
    refine .cons ?_ ih
    obtain ⟨h1, h2⟩ := h
    by_cases e : p.1 = k
    · rw [if_pos e, if_pos (h1.symm.trans e)]; exact ⟨h1, ry⟩
    · rw [if_neg e, if_neg (fun z => e (h1.trans z))]; exact ⟨h1, h2⟩
theorem KV.put {kvs : List (κ × V)} {vs : List (κ × Value)} (r : KV kvs vs) (k : κ) {y : V} {u : Value} (ry : RelV y u) : KV (putK kvs k y) (stored vs k u) := by
  unfold putK stored
  rw [r.any k]
  by_cases e : (vs.any fun kv => decide (kv.1 = k)) = true
  · rw [if_pos e, if_pos e]; exact r.repl k ry
  · rw [if_neg e, if_neg e]; exact Paired.snoc r ⟨rfl, ry⟩
theorem KV.length {kvs : List (κ × V)} {vs : List (κ × Value)} (r : KV kvs vs) : kvs.length = vs.length := Paired.length r
end


/-! ### a tracked dict, its keys ints and texts or tuples of these -/
theorem kV_is {P : Program} {w : World} {k : Key} {u : Value} (r : RelV (kV k) u) : (mixKind P w).is k u = true := by
  cases k with
  | inl i => obtain ⟨t, e⟩ := (show ∃ t, u = Value.int i t from r); subst e; exact mixKind_int P w i t
  | inr x => obtain ⟨t, e⟩ := (show ∃ t, u = Value.str x t from r); subst e; exact mixKind_str P w x t
theorem items_are {P : Program} {w : World} : ∀ {ks : List Key} {us : List Value}, Vals (ks.map kV) us → ItemsAre (mixKind P w) ks us
  | [], _, r => by rw [List.map_nil] at r; cases r; exact .nil
  | k :: ks, _, r => by
    rw [List.map_cons] at r
    cases r with
    | cons h t => exact .cons (kV_is h) (items_are t)

/-- raw entries of a dict with tuple keys -/
abbrev KT (H : Hp) : List (List Key × V) → List (List Key × Addr × Value) → Prop := Paired fun p q => p.1 = q.1 ∧ H q.2.1 = some (.tup (p.1.map kV)) ∧ RelV p.2 q.2.2
theorem KT.val {H : Hp} {kvs : List (List Key × V)} {xs : List (List Key × Addr × Value)} (r : KT H kvs xs) (k : List Key) : RelO (valV kvs k) ((atKey xs k).map (·.2)) := by
  induction r with
  | nil => exact True.intro
  | @cons p q ps qs h t ih =>
    obtain ⟨h1, _, h2⟩ := h
    by_cases e : p.1 = k
    · have e' : q.1 = k := h1.symm.trans e
      have b : atKey (q :: qs) k = some q.2 := by simp [atKey, List.find?_cons, e']
      rw [valV_pos e, b]; exact h2
    · have e' : ¬ q.1 = k := fun z => e (h1.trans z)
      have b : atKey (q :: qs) k = atKey qs k := by simp [atKey, List.find?_cons, e']
      rw [valV_neg e, b]; exact ih
theorem KT.repl {H : Hp} {kvs : List (List Key × V)} {xs : List (List Key × Addr × Value)} (r : KT H kvs xs) (k : List Key) {y : V} {u : Value} (ry : RelV y u) :
    KT H (kvs.map fun kv => if kv.1 = k then (kv.1, y) else kv) (xs.map (putAt k u)) := by
  induction r with
  | nil => exact .nil
  | @cons p q ps qs h t ih =>
    rw [List.map_cons, List.map_cons]
    refine .cons ?_ ih
    obtain ⟨h1, h2, h3⟩ := h
    unfold putAt
    by_cases e : p.1 = k
    · rw [if_pos e, if_pos (h1.symm.trans e)]; exact ⟨h1, h2, ry⟩
    · rw [if_neg e, if_neg (fun z => e (h1.trans z))]; exact ⟨h1, h2, h3⟩
theorem KT.put {H : Hp} {kvs : List (List Key × V)} {xs : List (List Key × Addr × Value)} (r : KT H kvs xs) (k : List Key) {b : Addr} {y : V} {u : Value} (hb : H b = some (.tup (k.map kV))) (ry : RelV y u) :
    KT H (putK kvs k y) (storedH xs k b u) := by
  have e : (kvs.any fun kv => decide (kv.1 = k)) = (atKey xs k).isSome := by
    rw [valV_any, (r.val k).isSome_eq, Option.isSome_map]
  unfold putK storedH
  rw [e]
  by_cases q : (atKey xs k).isSome = true
  · rw [if_pos q, if_pos q]; exact r.repl k ry
  · rw [if_neg q, if_neg q]; exact Paired.snoc r ⟨rfl, hb, ry⟩
theorem KT.keeps {H H' : Hp} {kvs : List (List Key × V)} {xs : List (List Key × Addr × Value)} (r : KT H kvs xs) (ht : ∀ b ys, H b = some (.tup ys) → H' b = some (.tup ys)) : KT H' kvs xs :=
  Paired.mapP r fun _ _ z => ⟨z.1, ht _ _ z.2.1, z.2.2⟩

section
variable {P : Program} {w : World} {H : Hp} {h : Heap} {a : Addr}
theorem rd_of {u : HO} (ok : HOk P w H h) (e : Rd H a u) : ObjOk P w H h a u := e.ok ok
theorem dk_rd {kvs : List (Key × V)} (ok : HOk P w H h) (e : Rd H a (.dK kvs)) : kvs.length ≤ sizeLine ∧ (a == sysModules) = false ∧ ∃ vs, KV kvs vs ∧ h.DictOf (mixKind P w) a vs :=
  show ObjOk P w H h a (.dK kvs) from rd_of ok e
theorem dk_of {kvs : List (Key × V)} (ok : HOk P w H h) (e : H a = some (.dK kvs)) : kvs.length ≤ sizeLine ∧ (a == sysModules) = false ∧ ∃ vs, KV kvs vs ∧ h.DictOf (mixKind P w) a vs := dk_rd ok (.inl e)
/-- a tracked tuple of ints and texts is a key -/
theorem key_of {ks : List Key} (ok : HOk P w H h) (e : H a = some (.tup (ks.map kV))) : (tupleKind (mixKind P w)).is h ks a := by
  obtain ⟨_, its, r, o, h1, h2, n, h3⟩ := (show ObjOk P w H h a (.tup (ks.map kV)) from ok a _ e)
  exact ⟨o, its.toArray, n, h1, h2, h3, by simpa using items_are r⟩
theorem dt_rd {kvs : List (List Key × V)} (ok : HOk P w H h) (e : Rd H a (.dT kvs)) : kvs.length ≤ sizeLine ∧ (a == sysModules) = false ∧
    ∃ xs, KT H kvs xs ∧ h.DictOfH (tupleKind (mixKind P w)) a xs := by
  obtain ⟨z, y, xs, r, o, es, ep, h1, h2, h3, h4, h5⟩ := (show ObjOk P w H h a (.dT kvs) from rd_of ok e)
  refine ⟨z, y, xs, r, o, es, ep, h1, h2, h3, h4, fun x hx => ?_, h5⟩
  have all : ∀ {l : List (List Key × V)} {m : List (List Key × Addr × Value)}, KT H l m → ∀ x ∈ m, (tupleKind (mixKind P w)).is h x.1 x.2.1 := by
    intro l m q
    induction q with
    | nil => intro x hx; exact nomatch hx
    | @cons p q ps qs hq t ih =>
      intro x hx
      rcases List.mem_cons.mp hx with e | hx
      · subst e
        exact key_of ok (by rw [← hq.1]; exact hq.2.1)
      · exact ih x hx
  exact all r x hx
theorem dt_of {kvs : List (List Key × V)} (ok : HOk P w H h) (e : H a = some (.dT kvs)) : kvs.length ≤ sizeLine ∧ (a == sysModules) = false ∧
    ∃ xs, KT H kvs xs ∧ h.DictOfH (tupleKind (mixKind P w)) a xs := dt_rd ok (.inl e)
end

/-- what the dict at a holds at the key y -/
def DGet (H : Hp) (a : Addr) (y : V) (r : Option V) : Prop :=
  (∃ kvs k, Rd H a (.dK kvs) ∧ y = kV k ∧ r = valV kvs k) ∨ ∃ kvs k b, Rd H a (.dT kvs) ∧ y = .ref b ∧ H b = some (.tup (k.map kV)) ∧ r = valV kvs k
/-- the heap behind a[y] = v -/
def DPut (H : Hp) (a : Addr) (y v : V) (H' : Hp) : Prop :=
  (∃ kvs k, H a = some (.dK kvs) ∧ y = kV k ∧ kvs.length < sizeLine ∧ H' = upd H a (.dK (putK kvs k v))) ∨
  ∃ kvs k b, H a = some (.dT kvs) ∧ y = .ref b ∧ H b = some (.tup (k.map kV)) ∧ kvs.length < sizeLine ∧ H' = upd H a (.dT (putK kvs k v))
theorem DGet.k {H : Hp} {a : Addr} {kvs : List (Key × V)} {k : Key} (e : H a = some (.dK kvs)) : DGet H a (kV k) (valV kvs k) := .inl ⟨kvs, k, .inl e, rfl, rfl⟩
theorem DPut.k {H : Hp} {a : Addr} {kvs : List (Key × V)} {k : Key} {v : V} (e : H a = some (.dK kvs)) (hl : kvs.length < sizeLine) : DPut H a (kV k) v (upd H a (.dK (putK kvs k v))) := .inl ⟨kvs, k, e, rfl, hl, rfl⟩
section
variable {X : Cx} {pins : List (Addr × Obj)} {σ : St} {H : Hp} {s : Shared} {a : Addr} {y v : V} {u r : Value} {o : Option V} {A : Around} {E : Value → Shared → Prop}

theorem Inv.big (I : Inv X pins σ H s) : sysModules < s.heap.objs.size := by
  have h : mainGlobals < s.heap.objs.size := (I.mod.glob.keeps I.bk).lt
  exact Nat.lt_trans (by decide) h

/-- d[y], there -/
theorem d_getItem {Q : Value → Shared → Prop} (hu : A.units + 1 < cLine) (I : Inv X pins σ H s) (g : DGet H a y (some v)) (ry : RelV y u) (h : ∀ w' s', Inv X pins σ H s' → RelV v w' → Q w' s') :
    wpAny (model X.prog X.w) A (getItem (.ref a) u) Q E s := by
  rcases g with ⟨kvs, k, e, ey, l⟩ | ⟨kvs, k, b, e, ey, eb, l⟩
  · subst ey
    obtain ⟨z, hd, vs, rel, dd⟩ := dk_rd I.hok e
    obtain ⟨w', hw, rw'⟩ := RelO.some_of (v := v) (o := valueAt vs k) (by rw [l]; exact rel.val k)
    exact wpAny_getItem_of (kV_is ry) dd.mapOf hw (h w' _ (I.tok _) rw')
  · subst ey
    cases (show u = Value.ref b from ry)
    obtain ⟨z, hd, xs, rel, dd⟩ := dt_rd I.hok e
    obtain ⟨w', hw, rw'⟩ := RelO.some_of (v := v) (o := (atKey xs k).map (·.2)) (by rw [l]; exact rel.val k)
    obtain ⟨p, hp, hp2⟩ := Option.map_eq_some_iff.mp hw
    refine wpAny_getItem_heap (tupleKind_room_in1 hu) (key_of I.hok eb) dd hp ?_
    rw [hp2]
    exact h w' _ (I.tok _) rw'
/-- a dict's object is replaced -/
theorem d_write {h' : Heap} {t' : Nat} {ob : HO} (I : Inv X pins σ H s) (mu : Mut (H a)) (hs : Heap.SameBut a s.heap h') (he : ∃ q, h'.get? a = some q) (new : ObjOk X.prog X.w (upd H a ob) h' a ob) :
    Inv X pins σ (upd H a ob) { s with heap := h', toks := t' } :=
  I.write (x := a) (e := a) mu (.inl rfl) (fun b q hb z => (hs.2 b hb).trans z) he new
theorem dk_new {P : Program} {w : World} {H' : Hp} {h' : Heap} {kvs : List (Key × V)} {vs : List (Key × Value)} (z : kvs.length ≤ sizeLine) (hd : (a == sysModules) = false) (rel : KV kvs vs) (dd : h'.DictOf (mixKind P w) a vs) :
    ObjOk P w H' h' a (.dK kvs) := ⟨z, hd, vs, rel, dd⟩
/-- d[y] = v -/
theorem d_setItem {H' : Hp} {Q : Unit → Shared → Prop} (hu : A.units + 1 < cLine) (I : Inv X pins σ H s) (g : DPut H a y v H') (ry : RelV y u) (rv : RelV v r) (h : ∀ s', Inv X pins σ H' s' → Q () s') :
    wpAny (model X.prog X.w) A (setItem (.ref a) u r) Q E s := by
  rcases g with ⟨kvs, k, e, ey, l, eH⟩ | ⟨kvs, k, b, e, ey, eb, l, eH⟩
  · subst ey eH
    obtain ⟨z, hd, vs, rel, dd⟩ := dk_of I.hok e
    have hz : vs.length ≤ sizeLine := by rw [← rel.length]; exact z
    have hl : (putK kvs k v).length ≤ sizeLine := by have := length_putK kvs k v; omega
    refine wpAny_setItem_pairs (hsz := hz) (kV_is ry) dd fun h' dd' hs => h _ ?_
    have he : ∃ q, h'.get? a = some q := let ⟨q, _, _, hq, _⟩ := dd'; ⟨q, hq⟩
    exact d_write I (by rw [e]; exact True.intro) hs he (dk_new hl hd (rel.put k rv) dd')
  · subst ey eH
    cases (show u = Value.ref b from ry)
    obtain ⟨z, hd, xs, rel, dd⟩ := dt_of I.hok e
    have hz : xs.length ≤ sizeLine := by rw [← Paired.length rel]; exact z
    have hl : (putK kvs k v).length ≤ sizeLine := by have := length_putK kvs k v; omega
    refine wpAny_setItem_heap (hsz := hz) (tupleKind_room_in1 hu) (key_of I.hok eb) dd fun h' dd' hs => h _ ?_
    obtain ⟨q, es, ep, hq, h2, h3, h4, _, h5⟩ := dd'
    refine d_write I (by rw [e]; exact True.intro) hs ⟨q, hq⟩ ⟨hl, hd, _, (rel.put k eb rv).keeps fun c ys ec => ?_, q, es, ep, hq, h2, h3, h4, h5⟩
    rw [upd_ne (ne_of ec e (fun z => nomatch z))]
    exact ec
end

section
variable {X : Cx} {pins : List (Addr × Obj)} {σ : St} {H : Hp} {s : Shared} {a : Addr} {kvs : List (Key × V)} {k : Key} {u : Value} {A : Around} {E : Value → Shared → Prop}
end


/-! ### readings and rules -/
/-- the element of a subscription, not a slice -/
def NoSl (i : Expr) : Prop := ∀ ov iv, subscripted i false ov iv = operate [ov, iv] (getItem ov iv)
theorem subD_of {prog : Program} {w : World} {A : Around} {E : Value → Shared → Prop} {s : Shared} {env : Env} {value slice : Expr} {pos : Pos} {T id : String} {Q : Value → Shared → Prop}
    (hl : typeLookup (.type T) "__getitem__" = pure (some (.builtin id))) (hs : NoSl slice)
    (h : wpAny (model prog w) A (eval value env) (fun o s₁ => wpAny (model prog w) A (eval slice env) (fun i s₂ => s₂.TypeIs o T ∧ wpAny (model prog w) A (getItem o i) Q E s₂) E s₁) E s) :
    wpAny (model prog w) A (eval (.Subscript value slice pos) env) Q E s := by
  refine Subscript_ (wpAny_mono h (fun o s₁ h₁ => wpAny_mono h₁ (fun i s₂ h₂ => ?_) fun _ _ x => x) fun _ _ x => x)
  obtain ⟨hT, h₂⟩ := h₂
  unfold subscriptTail
  refine wpAny_bind ?_
  rw [getitemInPython_of_ne hT.not_modules]
  refine wpAny_bind (wpAny_specialOf hT hl ?_)
  have fin : wpAny (model prog w) A (subscripted slice false o i) (fun r s₃ => wpAny (model prog w) A (letTemporaryGo value o r >>= fun _ => pure r) Q E s₃) E s₂ := by
    rw [hs o i]
    exact wpAny_operating (wpAny_mono h₂ (fun r s₃ h₃ => wpAny_bind (wpAny_letTemporaryGo (wpAny_pure h₃))) fun _ _ x => x)
  first
    | exact wpAny_pure (wpAny_bind fin)
    | exact wpAny_bind (wpAny_pure (wpAny_bind fin))
    | exact wpAny_bind fin

theorem dict_typeIs {X : Cx} {pins : List (Addr × Obj)} {σ : St} {H : Hp} {s : Shared} {a : Addr} {y : V} {o : Option V} (I : Inv X pins σ H s) (g : DGet H a y o) : s.TypeIs (.ref a) "dict" := by
  rcases g with ⟨kvs, k, e, _, _⟩ | ⟨kvs, k, b, e, _, _, _⟩
  · obtain ⟨_, _, vs, _, dd⟩ := dk_rd I.hok e
    exact dd.typeIs
  · obtain ⟨_, _, xs, _, dd⟩ := dt_rd I.hok e
    exact dd.typeIs
/-- d[y] -/
def tDGet (td ty : TE) : TE := fun σ H Q => td σ H fun x H1 => ty σ H1 fun y H2 => ∃ a v, x = .ref a ∧ DGet H2 a y (some v) ∧ Q v H2
/-- y in d, y not in d -/
def tDIn (ty td : TE) : TE := fun σ H Q => ty σ H fun y H1 => td σ H1 fun x H2 => ∃ a o, x = .ref a ∧ DGet H2 a y o ∧ Q (.bl o.isSome) H2
def tDNotIn (ty td : TE) : TE := fun σ H Q => ty σ H fun y H1 => td σ H1 fun x H2 => ∃ a o, x = .ref a ∧ DGet H2 a y o ∧ Q (.bl (!o.isSome)) H2
/-- d[y] = v -/
def sDPut (td ty tv : TE) : TS := fun D σ H => tv σ H fun v H1 => td σ H1 fun x H2 => ty σ H2 fun y H3 => ∃ a H4, x = .ref a ∧ DPut H3 a y v H4 ∧ D.nx σ H4
/-- d[y] op= v -/
def sDAug (td ty tv : TE) (rd : V → V → Hp → VK → Prop) : TS := fun D σ H => td σ H fun x H1 => ty σ H1 fun y H2 => ∃ a v, x = .ref a ∧ DGet H2 a y (some v) ∧
  tv σ H2 fun y2 H3 => rd v y2 H3 fun z H4 => ∃ H5, DPut H4 a y z H5 ∧ D.nx σ H5
/-- del d[y] -/
def sDDel (td ty : TE) : TS := fun D σ H => td σ H fun x H1 => ty σ H1 fun y H2 => ∃ a kvs k, x = .ref a ∧ H2 a = some (.dK kvs) ∧ y = kV k ∧ (valV kvs k).isSome = true ∧ D.nx σ (upd H2 a (.dK (dropK kvs k)))

section
variable {X : Cx} {o i e value : Expr} {pos pos' tpos : Pos} {td ty tv : TE}
theorem pe_dget (hu : X.A.units + 1 < cLine) (ho : PE X o td) (hi : PE X i ty) (hs : NoSl i) : PE X (.Subscript o i pos) (tDGet td ty) := by
  intro pins s σ H Q I h
  refine subD_of PySem.F.slot_dict_getitem.lookup hs (thn (ho pins s σ H _ I h) fun u s1 ⟨x, H1, I1, rx, q1⟩ => thn (hi pins s1 σ H1 _ I1 q1) fun iv s2 ⟨y, H2, I2, ry, a, v, ex, g, q2⟩ => ?_)
  subst ex
  obtain rfl : u = Value.ref a := rx
  exact ⟨dict_typeIs I2 g, d_getItem hu I2 g ry fun w' s3 I3 rw' => ⟨v, H2, I3, rw', q2⟩⟩
theorem ps_dput (hu : X.A.units + 1 < cLine) (ho : PE X o td) (hi : PE X i ty) (hv : PE X value tv) (hs : swapsWith value (some (.Subscript o i pos')) pos.line X.env = pure false) :
    PS X (.Assign [.Subscript o i pos'] value pos) (sDPut td ty tv) := by
  intro pins s σ H D I h
  refine wpAny_Assign_Subscript (thn (hv pins s σ H _ I h) fun r s1 ⟨v, H1, I1, rv, q1⟩ => thn (ho pins s1 σ H1 _ I1 q1) fun u s2 ⟨x, H2, I2, rx, q2⟩ => thn (hi pins s2 σ H2 _ I2 q2) fun iv s3 ⟨y, H3, I3, ry, a, H4, ex, g, q3⟩ => ?_) hs
  subst ex
  obtain rfl : u = Value.ref a := rx
  exact d_setItem hu I3 g ry rv fun s4 I4 => ⟨σ, H4, I4, q3⟩
end


/-! ### displays -/
theorem dk_empty {P : Program} {w : World} {H : Hp} (h : Heap) (hb : sysModules < h.objs.size) : ObjOk P w H (h.push { cls := .type "dict", data := .dict #[] }) h.objs.size (.dK []) :=
  ⟨Nat.zero_le _, beq_eq_false_iff_ne.mpr (Ne.symm (Nat.ne_of_lt hb)), [], .nil, Heap.DictOf.new h⟩
/-- {}, to be a dict of the kind that is wanted -/
def tDNewK : TE := fun _ H Q => ∀ p, H p = none → Q (.ref p) (upd H p (.dK []))
def tDNewT : TE := fun _ H Q => ∀ p, H p = none → Q (.ref p) (upd H p (.dT []))
section
variable {X : Cx} {pos : Pos}
end

/-- the pairs of a display, from the left -/
def tPairs : List (TE × TE) → St → Hp → (List (V × V) → Hp → Prop) → Prop
  | [], _, H, Q => Q [] H
  | (tk, tv) :: r, σ, H, Q => tk σ H fun x H1 => tv σ H1 fun y H2 => tPairs r σ H2 fun ps H3 => Q ((x, y) :: ps) H3
abbrev VV : List (V × V) → List (Value × Value) → Prop := Paired fun p q => RelV p.1 q.1 ∧ RelV p.2 q.2
def PPs (X : Cx) (pos : Pos) (keys : List (Option Expr)) (values : List Expr) (trs : List (TE × TE)) : Prop :=
  ∀ (pins : List (Addr × Obj)) (s : Shared) (σ : St) (H : Hp) (Q : List (V × V) → Hp → Prop), Inv X pins σ H s → tPairs trs σ H Q →
    wpAny (model X.prog X.w) X.A (evalPairs (pairTrees keys values X.env pos)) (fun vs s' => ∃ ps H', Inv X pins σ H' s' ∧ VV ps vs ∧ Q ps H') X.xe s
theorem pps_nil {X : Cx} {pos : Pos} : PPs X pos [] [] [] := fun pins s σ H Q I h => pairTrees_nil_walk ⟨[], H, I, .nil, h⟩
theorem pps_cons {X : Cx} {pos : Pos} {k v : Expr} {ks : List (Option Expr)} {vs : List Expr} {tk tv : TE} {trs : List (TE × TE)} (hk : PE X k tk) (hv : PE X v tv) (hr : PPs X pos ks vs trs) :
    PPs X pos (some k :: ks) (v :: vs) ((tk, tv) :: trs) := fun pins s σ H Q I h =>
  pairTrees_cons_walk (thn (hk pins s σ H _ I h) fun u s1 ⟨x, H1, I1, rx, q1⟩ => thn (hv pins s1 σ H1 _ I1 q1) fun w2 s2 ⟨y, H2, I2, ry, q2⟩ =>
    thn (hr pins s2 σ H2 _ I2 q2) fun ws s3 ⟨ps, H3, I3, rel, q3⟩ => ⟨(x, y) :: ps, H3, I3, .cons ⟨rx, ry⟩ rel, q3⟩)

def mergeK (kvs more : List (Key × V)) : List (Key × V) := more.foldl (fun acc kv => putK acc kv.1 kv.2) kvs
theorem KV.merge : ∀ {more : List (Key × V)} {rs : List (Key × Value)} {kvs : List (Key × V)} {vs : List (Key × Value)}, KV more rs → KV kvs vs → KV (mergeK kvs more) (merged vs rs) := by
  intro more rs kvs vs r
  unfold KV at r
  induction r generalizing kvs vs with
  | nil => intro q; exact q
  | @cons p q ps qs h t ih =>
    intro r0
    have e : KV (putK kvs p.1 p.2) (stored vs q.1 q.2) := by
      have := r0.put p.1 h.2
      rw [← h.1]; exact this
    exact ih e
theorem length_mergeK : ∀ (more kvs : List (Key × V)), (mergeK kvs more).length ≤ kvs.length + more.length
  | [], kvs => by show kvs.length ≤ kvs.length + 0; omega
  | p :: r, kvs => by
    have h1 := length_mergeK r (putK kvs p.1 p.2)
    have h2 := length_putK kvs p.1 p.2
    show (mergeK (putK kvs p.1 p.2) r).length ≤ _
    rw [List.length_cons]; omega
theorem carries_of {P : Program} {w : World} : ∀ {kvs : List (Key × V)} {ws : List (Value × Value)}, VV (kvs.map fun kv => (kV kv.1, kv.2)) ws → ∃ rs, Carries (mixKind P w) ws rs ∧ KV kvs rs
  | [], _, r => by rw [List.map_nil] at r; cases r; exact ⟨[], True.intro, .nil⟩
  | p :: kvs, _, r => by
    rw [List.map_cons] at r
    cases r with
    | @cons a b as bs h t =>
      obtain ⟨rs, c, q⟩ := carries_of (P := P) (w := w) t
      obtain ⟨b1, b2⟩ := b
      exact ⟨(p.1, b2) :: rs, ⟨kV_is h.1, rfl, c⟩, .cons ⟨rfl, h.2⟩ q⟩
/-- {k: v, ..} with keys ints and texts; the new dict stands empty while the pairs are made -/
def tDisp (trs : List (TE × TE)) : TE := fun σ H Q => ∀ p, H p = none → tPairs trs σ (upd H p (.dK [])) fun ps H2 => H2 p = some (.dK []) ∧ ∃ kvs : List (Key × V), ps = kvs.map (fun kv => (kV kv.1, kv.2)) ∧ kvs.length ≤ 15 ∧ Q (.ref p) (upd H2 p (.dK (mergeK [] kvs)))
theorem pe_disp {X : Cx} {pos : Pos} {keys : List (Option Expr)} {values : List Expr} {trs : List (TE × TE)} (h : PPs X pos keys values trs) (hall : keys.all (·.isSome) = true) (hl : keys.length = values.length) (h0 : keys ≠ [])
    (h15 : keys.length ≤ 15) : PE X (.Dict keys values pos) (tDisp trs) := by
  intro pins s σ H Q I q
  have hn := I.hok.fresh (Nat.le_refl s.heap.objs.size)
  have I1 := I.laid (a := s.heap.objs.size) (o := .dK []) (h' := s.heap.push { cls := .type "dict", data := .dict #[] }) (t' := s.toks) (fun _ _ q => Heap.get?_push_of_some _ q) (Nat.le_refl _) (dk_empty s.heap I.big)
  refine wpAny_Dict_walk (knd := mixKind X.prog X.w) hall hl h0 h15 (thn (h pins _ σ _ _ I1 (q _ hn)) fun ws s2 ⟨ps, H2, I2, rel, e, kvs, ep, lk, q2⟩ => ?_)
  subst ep
  obtain ⟨rs, c, rk⟩ := carries_of (P := X.prog) (w := X.w) rel
  obtain ⟨z, hd, vs0, r0, dd⟩ := dk_of I2.hok e
  cases r0
  refine ⟨rs, c, dd, fun h' dd' hs => ⟨.ref s.heap.objs.size, _, ?_, rfl, q2⟩⟩
  have hz : (mergeK [] kvs).length ≤ sizeLine := by
    have h1 := length_mergeK kvs []
    rw [List.length_nil] at h1
    rw [sizeLine_eq]; omega
  have he : ∃ q, h'.get? s.heap.objs.size = some q := let ⟨q, _, _, hq, _⟩ := dd'; ⟨q, hq⟩
  exact d_write I2 (by rw [e]; exact True.intro) hs he (dk_new hz hd (rk.merge .nil) dd')


/-! ### methods -/
/-- a method call o.m(e) of a built-in, with one argument: what must be seen of the text -/
structure M1 (X : Cx) (o : Expr) (m : Str) (apos : Pos) (e : Expr) (cpos : Pos) : Prop where
  base : attributeBase o m X.env (eval o X.env) = eval o X.env
  few : ((backTo cpos (starEach [e] X.env)).all (fun x => !x.1) && (backToKw cpos (keywordEach [] X.env)).all (fun x => x.1.isSome)
    && decide (([e] : List Expr).length + ([] : List Keyword).length + (if ([] : List Keyword).isEmpty then 0 else 1) < 30)) = true
  line : (apos.endLine == cpos.line) = true
  trees : backTo cpos (starEach [e] X.env) = [(false, eval e X.env)]
structure M2 (X : Cx) (o : Expr) (m : Str) (apos : Pos) (e f : Expr) (cpos : Pos) : Prop where
  base : attributeBase o m X.env (eval o X.env) = eval o X.env
  few : ((backTo cpos (starEach [e, f] X.env)).all (fun x => !x.1) && (backToKw cpos (keywordEach [] X.env)).all (fun x => x.1.isSome)
    && decide (([e, f] : List Expr).length + ([] : List Keyword).length + (if ([] : List Keyword).isEmpty then 0 else 1) < 30)) = true
  line : (apos.endLine == cpos.line) = true
  trees : backTo cpos (starEach [e, f] X.env) = [(false, eval e X.env), (false, eval f X.env)]

/-- a is a dict, whatever its keys -/
def IsD (H : Hp) (a : Addr) : Prop := (∃ kvs, Rd H a (.dK kvs)) ∨ ∃ kvs, Rd H a (.dT kvs)
section
variable {X : Cx} {pins : List (Addr × Obj)} {σ : St} {H : Hp} {s : Shared} {a : Addr} {y d : V} {u r : Value} {o : Option V} {A : Around} {E : Value → Shared → Prop}
end

def tDGet1 (td ty : TE) : TE := fun σ H Q => td σ H fun x H1 => ∃ a, x = .ref a ∧ IsD H1 a ∧ ty σ H1 fun y H2 => ∃ o, DGet H2 a y o ∧ Q (o.getD .non) H2
def tDGet2 (td ty tx : TE) : TE := fun σ H Q => td σ H fun x H1 => ∃ a, x = .ref a ∧ IsD H1 a ∧ ty σ H1 fun y H2 => tx σ H2 fun z H3 => ∃ o, DGet H3 a y o ∧ Q (o.getD z) H3
/-- d.pop(k): there; d.pop(k, x): there or not -/
def tDPop1 (td ty : TE) : TE := fun σ H Q => td σ H fun x H1 => ∃ a, x = .ref a ∧ IsD H1 a ∧ ty σ H1 fun y H2 => ∃ kvs k v, H2 a = some (.dK kvs) ∧ y = kV k ∧ valV kvs k = some v ∧ Q v (upd H2 a (.dK (dropK kvs k)))
def tDPop2 (td ty tx : TE) : TE := fun σ H Q => td σ H fun x H1 => ∃ a, x = .ref a ∧ IsD H1 a ∧ ty σ H1 fun y H2 => tx σ H2 fun z H3 => ∃ kvs k, H3 a = some (.dK kvs) ∧ y = kV k ∧
  (∀ v, valV kvs k = some v → Q v (upd H3 a (.dK (dropK kvs k)))) ∧ (valV kvs k = none → Q z H3)
section
variable {X : Cx} {o e f : Expr} {apos cpos : Pos} {td ty tx : TE}
end

/-! ### dict(d): a copy -/
section
variable {X : Cx} {pins : List (Addr × Obj)} {σ : St} {H : Hp} {s : Shared} {a : Addr} {kvs : List (Key × V)} {A : Around} {E : Value → Shared → Prop}
end


section
variable {X : Cx} {pins : List (Addr × Obj)} {σ : St} {H : Hp} {s : Shared} {a : Addr} {y : V} {u : Value} {A : Around} {E : Value → Shared → Prop}
end
end L2
namespace L2
open PySem PySem.Spec PyProof.Rows

theorem closure_fold (env : Env) : ∀ (names : List (Str × NameKind)) (cs : List (Str × Addr)), (∀ x, (x, NameKind.free) ∈ names → ∃ c, env.cells.lookup x = some c) →
    ∃ cl, (forIn names cs fun (p : Str × NameKind) (cs : List (Str × Addr)) => (if (p.2 == NameKind.free) = true then (do let c ← cellOf env p.1; pure (ForInStep.yield ((p.1, c) :: cs))) else pure (ForInStep.yield cs) : Sem (ForInStep (List (Str × Addr))))) = pure cl ∧
      (∀ x c, cl.lookup x = some c → env.cells.lookup x = some c ∨ cs.lookup x = some c) ∧ (∀ x, (x, NameKind.free) ∈ names → ∃ c, cl.lookup x = some c) ∧ (∀ x c, cs.lookup x = some c → ∃ d, cl.lookup x = some d)
  | [], cs, _ => ⟨cs, by simp, fun _ _ h => .inr h, (fun _ h => nomatch h), fun x c h => ⟨c, h⟩⟩
  | (n, k) :: r, cs, h => by
    by_cases hk : k = NameKind.free
    · subst hk
      obtain ⟨c, hc⟩ := h n (List.mem_cons_self ..)
      obtain ⟨cl, e, a, b, d⟩ := closure_fold env r ((n, c) :: cs) (fun x hx => h x (List.mem_cons_of_mem _ hx))
      have hcell : cellOf env n = pure c := by unfold cellOf; rw [hc]
      refine ⟨cl, ?_, fun x c' hx => ?_, fun x hx => ?_, fun x c' hx => ?_⟩
      · rw [List.forIn_cons]
        simp only [beq_self_eq_true, if_true, hcell, pure_bind]
        exact e
      · rcases a x c' hx with q | q
        · exact .inl q
        · rw [List.lookup_cons] at q
          by_cases hxn : (x == n) = true
          · rw [hxn] at q
            have hx' : x = n := by simpa using hxn
            subst hx'
            have : c = c' := by simpa using q
            subst this
            exact .inl hc
          · rw [Bool.eq_false_iff.mpr hxn] at q
            exact .inr q
      · rcases List.mem_cons.mp hx with q | q
        · have hx' : x = n := congrArg Prod.fst q
          subst hx'
          exact d x c (by rw [List.lookup_cons]; simp)
        · exact b x q
      · have : ∃ d', ((n, c) :: cs).lookup x = some d' := by
          rw [List.lookup_cons]
          by_cases hxn : (x == n) = true
          · rw [hxn]; exact ⟨c, rfl⟩
          · rw [Bool.eq_false_iff.mpr hxn]; exact ⟨c', hx⟩
        obtain ⟨d', hd'⟩ := this
        exact d x d' hd'
    · obtain ⟨cl, e, a, b, d⟩ := closure_fold env r cs (fun x hx => h x (List.mem_cons_of_mem _ hx))
      have hkf : (k == NameKind.free) = false := by simpa using hk
      refine ⟨cl, ?_, a, fun x hx => ?_, d⟩
      · rw [List.forIn_cons]
        simp only [hkf, Bool.false_eq_true, if_false, pure_bind]
        exact e
      · rcases List.mem_cons.mp hx with q | q
        · exact absurd (congrArg Prod.snd q).symm hk
        · exact b x q
theorem closure_ok (env : Env) (scope : Scope) (h : ∀ x, (x, NameKind.free) ∈ scope.names → ∃ c, env.cells.lookup x = some c) :
    ∃ cl, closureFor scope env = pure cl ∧ (∀ x c, cl.lookup x = some c → env.cells.lookup x = some c) ∧ (∀ x, (x, NameKind.free) ∈ scope.names → ∃ c, cl.lookup x = some c) := by
  obtain ⟨cl, e, a, b, _⟩ := closure_fold env scope.names [] h
  refine ⟨cl, ?_, fun x c hx => (a x c hx).elim id (fun z => by simp at z), b⟩
  unfold closureFor
  simp only [bind_pure]
  exact e

/-- the context of a comprehension's block -/
def cxC (X : Cx) (scope : Scope) (N' : List Str) (cl : List (Str × Addr)) (C : Addr) (s₀ : Shared) (H₀ : Hp) (fp : List Addr) (pn : List (Addr × Obj)) : Cx :=
  { X with N := N', s₀ := s₀, H₀ := H₀, env := compEnvC scope cl C X.env, outer := X.stack, ex := fp, fn := fun _ => false, pn := pn, xe := fun _ _ => False }
/-- which names of the block are the frame's own slots -/
inductive Cap (X : Cx) (scope : Scope) : List (Option Nat) → List Str → Prop
  | nil : Cap X scope [] []
  | own {x src N'} : Cap X scope src N' → Cap X scope (none :: src) (x :: N')
  | cap {x i src N'} : X.N[i]? = some x → scope.names.lookup x = some NameKind.free → (X.env.scope.names.lookup x = some NameKind.cell ∨ X.env.scope.names.lookup x = some NameKind.free) → Cap X scope src N' → Cap X scope (some i :: src) (x :: N')
def capSt (src : List (Option Nat)) (σ : St) : St := src.map fun o => match o with | none => none | some i => σ.getD i none
theorem Cap.length {X : Cx} {scope : Scope} : ∀ {src : List (Option Nat)} {N' : List Str}, Cap X scope src N' → src.length = N'.length
  | _, _, .nil => rfl
  | _, _, .own h => congrArg (· + 1) h.length
  | _, _, .cap _ _ _ h => congrArg (· + 1) h.length
theorem Cap.get {X : Cx} {scope : Scope} {σ : St} : ∀ {src : List (Option Nat)} {N' : List Str}, Cap X scope src N' → ∀ (j : Nat) (x : Str) (v : V), N'[j]? = some x → (capSt src σ)[j]? = some (some v) →
    ∃ i : Nat, X.N[i]? = some x ∧ σ[i]? = some (some v) ∧ scope.names.lookup x = some NameKind.free ∧ (X.env.scope.names.lookup x = some NameKind.cell ∨ X.env.scope.names.lookup x = some NameKind.free)
  | _, _, .nil, j, x, v, h, _ => by simp at h
  | _, _, .own h, 0, x, v, _, e => by simp [capSt] at e
  | _, _, .own h, j + 1, x, v, e1, e2 => h.get j x v (by simpa using e1) (by simpa [capSt] using e2)
  | _, _, .cap (x := y) (i := i) hN hf hk h, 0, x, v, e1, e2 => by
    have ex : y = x := by simpa using e1
    subst ex
    refine ⟨i, hN, ?_, hf, hk⟩
    simp only [capSt, List.map_cons, List.getElem?_cons_zero, Option.some.injEq] at e2
    rw [List.getD_eq_getElem?_getD] at e2
    cases q : σ[i]? with
    | none => rw [q] at e2; simp at e2
    | some o => rw [q] at e2; simp at e2; rw [e2]
  | _, _, .cap hN hf hk h, j + 1, x, v, e1, e2 => h.get j x v (by simpa using e1) (by simpa [capSt] using e2)

theorem lookup_relabel (env : Env) (x : Str) : ∀ {names : List (Str × NameKind)},
    (names.map fun (n, k) => if (k == NameKind.free && env.scope.kind == .function && env.kindOf n == some .cell) then (n, NameKind.cell) else (n, k)).lookup x =
      (names.lookup x).map fun k => if (k == NameKind.free && env.scope.kind == .function && env.kindOf x == some .cell) then NameKind.cell else k
  | [] => rfl
  | (n, k) :: r => by
    have ih := @lookup_relabel env x r
    rw [List.map_cons]
    dsimp only
    by_cases hx : (x == n) = true
    · have e : x = n := by simpa using hx
      subst e
      by_cases hc : (k == NameKind.free && env.scope.kind == .function && env.kindOf x == some .cell) = true
      · rw [if_pos hc, List.lookup_cons, List.lookup_cons, hx]
        simp only [Option.map_some]
        rw [if_pos hc]
      · rw [if_neg hc, List.lookup_cons, List.lookup_cons, hx]
        simp only [Option.map_some]
        rw [if_neg hc]
    · have hx' := Bool.eq_false_iff.mpr hx
      by_cases hc : (k == NameKind.free && env.scope.kind == .function && env.kindOf n == some .cell) = true
      · rw [if_pos hc]; simp only [List.lookup_cons, hx']; exact ih
      · rw [if_neg hc]; simp only [List.lookup_cons, hx']; exact ih
theorem lookup_mem_free {names : List (Str × NameKind)} {x : Str} (h : names.lookup x = some NameKind.free) : (x, NameKind.free) ∈ names := PySem.mem_of_lookup h

section
variable {X : Cx}
/-- the block's first state -/
theorem inv_comp {scope : Scope} {N' : List Str} {src : List (Option Nat)} {cl : List (Str × Addr)} {pins : List (Addr × Obj)} {σ : St} {H : Hp} {s s' : Shared} {h' : Heap} {tk : Nat} {fp : List Addr} {m : Str → Option Value}
    (hk : scope.kind = .function) (hcell : ∀ y ∈ scope.names, y.2 ≠ .cell) (hcap : Cap X scope src N')
    (a : ∀ x c, cl.lookup x = some c → X.env.cells.lookup x = some c) (b : ∀ x, (x, NameKind.free) ∈ scope.names → ∃ c, cl.lookup x = some c)
    (I : Inv X pins σ H s) (hf : ∀ b ∈ fp, FpOk X pins H b) (hfl : ∀ b ∈ fp, b < s.heap.objs.size) (es' : s' = { s with heap := h', toks := tk })
    (keep : ∀ b o, s.heap.get? b = some o → h'.get? b = some o) (hn : h'.Ns s.heap.objs.size m) :
    Inv (cxC X scope N' cl s.heap.objs.size s H fp (X.pn ++ pins)) [] (capSt src σ) H s' := by
  subst es'
  have kindOf : ∀ x, (compEnvC scope cl s.heap.objs.size X.env).kindOf x = (scope.names.lookup x).map fun k => if (k == NameKind.free && X.env.scope.kind == .function && X.env.kindOf x == some .cell) then NameKind.cell else k := fun x => lookup_relabel X.env x
  have freeOf : ∀ x, ((compEnvC scope cl s.heap.objs.size X.env).kindOf x = some .cell ∨ (compEnvC scope cl s.heap.objs.size X.env).kindOf x = some .free) → scope.names.lookup x = some .free := fun x h => by
    rw [kindOf] at h
    cases q : scope.names.lookup x with
    | none => rw [q] at h; simp at h
    | some k =>
      rw [q] at h
      by_cases hkf : k = NameKind.free
      · rw [hkf]
      · have hkf' : (k == NameKind.free) = false := by simpa using hkf
        simp only [Option.map_some, hkf', Bool.false_and, Bool.false_eq_true, if_false] at h
        rcases h with h | h
        · exact absurd (Option.some.inj h) (hcell _ (PySem.mem_of_lookup q))
        · exact absurd (Option.some.inj h) hkf
  refine ⟨⟨I.ok.mod, hk, I.ok.glob, I.ok.blt, Nat.le_refl _, fun x y c h1 h2 => I.ok.inj x y c (a x c h1) (a y c h2), fun x hx => b x (lookup_mem_free (freeOf x hx)), (fun x c z _ => nomatch z), I.ok.hd, I.ok.frames, .inl rfl, fun b' hb => ?_, I.bs, Nat.le_trans I.ok.bsz I.sz, fun b' o e hb => ?_, fun b' hb z => ?_, I.stack, I.stkFree⟩,
    rfl, I.bare, Un.kept keep, ⟨m, hn, fun j x v h1 h2 h3 => ?_⟩, fun x c h => ?_, I.hok.fresh (Nat.le_refl _), fun x c h => I.freeC x c (a x c h), fun p hp => ?_, I.hok.kept keep, ?_⟩
  · obtain ⟨f0, f1, f2, f3, f4, f5⟩ := hf b' hb
    exact ⟨Nat.ne_of_lt (hfl b' hb), fun x c h => f4 x c (a x c h)⟩
  · obtain ⟨f0, f1, f2, f3, f4, f5⟩ := hf b' hb
    rcases f3 with z | z
    · exact I.ok.noex b' o e z
    · exact absurd (Nat.lt_of_lt_of_le (Heap.lt_size e) (Nat.le_trans I.ok.bsz z)) (Nat.lt_irrefl _)
  · obtain ⟨f0, f1, f2, f3, f4, f5⟩ := hf b' hb
    rcases List.mem_cons.mp (I.stkSub b' z) with e | e
    · exact f1 e
    · exact f2 e
  · obtain ⟨i, e1, e2, e3, e4⟩ := hcap.get j x v h1 h2
    obtain ⟨m0, hn0, hl⟩ := I.loc
    obtain ⟨u, r, l⟩ := hl i x v e1 e2 (by rcases e4 with e4 | e4; exact .inr (.inl e4); exact .inr (.inr e4))
    refine ⟨u, r, ?_⟩
    rcases l with ⟨l, _⟩ | ⟨k, c, e, z⟩
    · have l' : X.env.scope.names.lookup x = some NameKind.local := l
      rcases e4 with e4 | e4 <;> (rw [e4] at l'; cases l')
    · refine .inr ⟨?_, ?_⟩
      · show (compEnvC scope cl s.heap.objs.size X.env).kindOf x = some .cell ∨ (compEnvC scope cl s.heap.objs.size X.env).kindOf x = some .free
        rw [kindOf, e3]
        simp only [Option.map_some]
        split
        · exact .inl rfl
        · exact .inr rfl
      · obtain ⟨c', hc'⟩ := b x (lookup_mem_free e3)
        have := a x c' hc'
        rw [e] at this
        cases this
        obtain ⟨o, ho, hd⟩ := z
        exact ⟨c, hc', o, keep _ _ ho, hd⟩
  · obtain ⟨v, o, ho, hd⟩ := I.cell x c (a x c h)
    exact ⟨v, o, keep _ _ ho, hd⟩
  · have hp' : p ∈ X.pn ++ pins := by simpa [cxC] using hp
    obtain ⟨e, n, ne, nf, d⟩ := I.pin p hp'
    refine ⟨keep _ _ e, n, Nat.ne_of_lt (Heap.lt_size e), fun z => ?_, d⟩
    rcases List.mem_cons.mp (I.stkSub p.1 z) with q | q
    · exact ne q
    · exact nf q
  · show (capSt src σ).length = N'.length
    rw [← hcap.length]
    simp [capSt]
end
end L2
namespace L2
open PySem PySem.Spec PyProof.Rows

/-! ### list comprehensions of one clause -/
section
variable {prog : Program} {w : World} {A : Around} {R : Result → Shared → Prop} {s : Shared}
/-- the loop, with what goes ahead of the store -/
theorem comp_loop {elt tg iter : Expr} {ifs : List Expr} {scope : Scope} {pos : Pos} {it acc : Value} {env : Env} (J : Nat → Shared → Prop)
    (turn : ∀ n s, J n s → wpAny (model prog w) A (pyNext it) (fun r s₁ => match r with
        | none => R (.ok .next) s₁
        | some v => wpAny (model prog w) A (letOwnedTupleGo tg it v) (fun _ z₁ => wpAny (model prog w) A (assign tg env v) (fun _ s₂ =>
            wpAny (model prog w) A (forIn ifs true fun c r => if r = true then do let ok ← isTrue c env (eval c env); pure (ForInStep.yield ok) else pure (ForInStep.yield r))
              (fun ok s₃ => if ok = true then wpAny (model prog w) A (eval elt env) (fun x s₄ => wpAny (model prog w) A (call (.builtin "list.append") [acc, x]) (fun _ s₅ => ∃ m, m < n ∧ J m s₅) (fun _ _ => False) s₄) (fun _ _ => False) s₃
                else ∃ m, m < n ∧ J m s₃) (fun _ _ => False) s₂) (fun _ _ => False) z₁) (fun _ _ => False) s₁) (fun _ _ => False) s)
    (n : Nat) (h : J n s) : codeAny (model prog w) A (.compLoop (.ListComp elt [⟨tg, iter, ifs, 0⟩] scope pos) 0 it acc env) R s := by
  refine codeAny_loop rfl J (fun n s hJ => ?_) n h
  show wpAny _ A (Sem.onRaise (compTurn (.ListComp elt [⟨tg, iter, ifs, 0⟩] scope pos) 0 it acc env) (fun x => do noteFrame x env; theTreesLotGoes x)) _ _ s
  refine wpAny_noted ?_
  rw [compTurn_list]
  have no : ∀ {E : Value → Shared → Prop}, ∀ (e : Value) (s' : Shared), False → E e s' := fun _ _ f => f.elim
  refine wpAny_bind (wpAny_standAt (wpAny_bind (wpAny_mono (turn n s hJ) (fun r s₁ h₁ => ?_) no)))
  cases r with
  | none => exact wpAny_pure h₁
  | some v =>
    refine wpAny_bind (wpAny_mono h₁ (fun _ z₁ hz => ?_) no)
    refine wpAny_bind (wpAny_mono hz (fun _ s₂ h₂ => wpAny_bind (wpAny_mono h₂ (fun ok s₃ h₃ => ?_) no)) no)
    cases ok with
    | false => exact wpAny_pure ⟨rfl, h₃⟩
    | true =>
      exact wpAny_bind (wpAny_bind (wpAny_mono h₃ (fun x s₄ h₄ => wpAny_bind (wpAny_mono h₄ (fun _ s₅ h₅ => wpAny_pure (wpAny_pure ⟨rfl, h₅⟩)) no)) no))
end

/-- the clause's tests -/
def PTs (X : Cx) (ifs : List Expr) (t : TT) : Prop :=
  ∀ (pins : List (Addr × Obj)) (s : Shared) (σ : St) (H : Hp) (Q : Bool → Hp → Prop), Inv X pins σ H s → t σ H Q →
    wpAny (model X.prog X.w) X.A (forIn ifs true fun c r => if r = true then do let ok ← isTrue c X.env (eval c X.env); pure (ForInStep.yield ok) else pure (ForInStep.yield r)) (TP X pins σ Q) X.xe s
def tYes : TT := fun _ H Q => Q true H
theorem pts_nil {X : Cx} : PTs X [] tYes := fun _ _ _ H _ I h => wpAny_tests_nil ⟨H, I, h⟩
/-- W: the turn, a measure, the items so far, the block's slots, the heap; N: what a turn is to reach -/
def LC (src : List (Option Nat)) (J : It) (g : TG) (tt : TT) (te : TE) (σ : St) (H1 : Hp) (Q : VK) (D : Addr) : Prop := ∃ W : Nat → Nat → List V → St → Hp → Prop, (∃ m, W 0 m [] (capSt src σ) (upd H1 D (.lst []))) ∧
  ∀ i m ys σ' H2, W i m ys σ' H2 → H2 D = some (.lst ys) ∧ ((J.stop i H2 ∧ Q (.ref D) H2) ∨ (J.go i H2 ∧ ∃ N : List V → St → Hp → Prop, (∀ ys' σ3 H3, N ys' σ3 H3 → ∃ m', m' < m ∧ W (i + 1) m' ys' σ3 H3) ∧ ∀ x H3, J.yld i H2 x H3 → g x σ' H3 fun σ2 H4 => tt σ2 H4 fun b H5 =>
    if b = true then te σ2 H5 fun y H6 => H6 D = some (.lst ys) ∧ ys.length < sizeLine ∧ N (ys ++ [y]) σ2 (upd H6 D (.lst (ys ++ [y])))
    else N ys σ2 H5))
def tLC (src : List (Option Nat)) (wi : TI) (g : TG) (tt : TT) (te : TE) : TE := fun σ H Q => wi σ H fun J H1 => ∀ D, H1 D = none → LC src J g tt te σ H1 Q D
section
variable {X : Cx}
theorem pe_lc {elt tg iter : Expr} {ifs : List Expr} {scope : Scope} {pos : Pos} {src : List (Option Nat)} {N' : List Str} {wi : TI} {g : TG} {tt : TT} {te : TE} (hcap : Cap X scope src N') (hc : X.calm = true) (hi : PI X tg iter wi)
    (hg : ∀ cl C s₀ H₀ fp pn, PG (cxC X scope N' cl C s₀ H₀ fp pn) tg g) (ht : ∀ cl C s₀ H₀ fp pn, PTs (cxC X scope N' cl C s₀ H₀ fp pn) ifs tt) (he : ∀ cl C s₀ H₀ fp pn, PE (cxC X scope N' cl C s₀ H₀ fp pn) elt te)
    (hfree : ∀ x, (x, NameKind.free) ∈ scope.names → X.env.scope.names.lookup x = some NameKind.cell ∨ X.env.scope.names.lookup x = some NameKind.free)
    (hk : scope.kind = .function := by rfl) (hcell : ∀ y ∈ scope.names, y.2 ≠ .cell := by decide) (hnames : ∀ y ∈ scope.names, y.2 = .local → scope.names.lookup y.1 = some .local := by decide +kernel)
    (hs : ∀ x, foldedSetIterable iter X.env x = pure x := by intro _; rfl) : PE X (.ListComp elt [⟨tg, iter, ifs, 0⟩] scope pos) (tLC src wi g tt te) := by
  intro pins s σ H Q I h
  have no : ∀ {E : Value → Shared → Prop}, ∀ (e : Value) (s' : Shared), False → E e s' := fun _ _ f => f.elim
  obtain ⟨cl, hcl, a, b⟩ := closure_ok X.env scope fun x hx => I.ok.has x (hfree x hx)
  rw [eval_ListComp]
  refine wpAny_comprehension_free (use := none) rfl hs hcl hk hnames (thn (hi pins s σ H _ I h) fun v s1 h1 => thn h1 fun itv s2 h2 => ?_)
  obtain ⟨it, fp, tn, J, H2, e, I2, T, st2, f2, q⟩ := h2
  subst e
  have hD : H2 s2.heap.objs.size = none := I2.hok.fresh (Nat.le_refl _)
  obtain ⟨W, ⟨m0, w0⟩, turn⟩ := q s2.heap.objs.size hD
  have I3 := I2.lnew (t' := s2.toks) (ys := []) (its := []) .nil (Nat.zero_le _)
  have fl2 : ∀ b ∈ fp, b < s2.heap.objs.size := fun b hb => by
    obtain ⟨o, e, _⟩ := T.obj _ _ st2 b hb
    exact Heap.lt_size e
  refine wpAny_newObj_type ?_
  generalize es3 : ({ s2 with heap := s2.heap.push { cls := .type "list", dict := none, data := .seq ([] : List Value).toArray } } : Shared) = s3
  have I3' : Inv X pins σ (upd H2 s2.heap.objs.size (.lst [])) s3 := es3 ▸ I3
  have keep3 : ∀ b o, s2.heap.get? b = some o → s3.heap.get? b = some o := fun b o e => by rw [← es3]; exact Heap.get?_push_of_some _ e
  have st3 : tn 0 s3.heap := T.keep _ _ _ st2 fun b _ o e => keep3 b o e
  have fl3 : ∀ b ∈ fp, b < s3.heap.objs.size := fun b hb => by
    obtain ⟨o, e, _⟩ := T.obj _ _ st3 b hb
    exact Heap.lt_size e
  have f3 : ∀ b ∈ fp, FpOk X pins (upd H2 s2.heap.objs.size (.lst [])) b := fun b hb => ⟨by rw [upd_ne (Nat.ne_of_lt (fl2 b hb))]; exact (f2 b hb).1, (f2 b hb).2⟩
  generalize eD : s2.heap.objs.size = D at *
  generalize eH3 : upd H2 D (.lst []) = H3 at *
  refine wpAny_newFunctionEnv hcell (by intro y hy; simp at hy) (fun h₁ hns₁ hsb₁ => ?_) hk
  have keep4 : ∀ b o, s3.heap.get? b = some o → h₁.get? b = some o := fun b o e => hsb₁.extBut b o (Nat.ne_of_lt (Heap.lt_size e)) (Heap.get?_push_of_some _ e)
  have I4 := inv_comp (N' := N') (src := src) (tk := s3.toks + ([] : List (Str × Value)).length) hk hcell hcap a b I3' f3 fl3 rfl keep4 hns₁
  -- the iterator's objects, through the block
  have stat : ∀ {H' : Hp}, (∀ b ∈ fp, H' b = none) → ∀ b ∈ fp, FpOk (cxC X scope N' cl s3.heap.objs.size s3 H3 fp (X.pn ++ pins)) [] H' b := fun hn b' hb => by
    obtain ⟨f0, f1, fs, fe, f4, f5⟩ := f3 b' hb
    refine ⟨hn b' hb, Nat.ne_of_lt (fl3 b' hb), fun z => ?_, .inl hb, fun x c h => f4 x c (a x c h), fun p hp => f5 p (by simpa [cxC] using hp)⟩
    rcases List.mem_cons.mp (I3'.stkSub b' z) with e | e
    · exact f1 e
    · exact fs e
  -- behind the block
  have fin : ∀ {H' : Hp} {s' : Shared} {σ' : St} {pins' : List (Addr × Obj)}, Inv (cxC X scope N' cl s3.heap.objs.size s3 H3 fp (X.pn ++ pins)) pins' σ' H' s' → ∀ h', Heap.SameBut s3.heap.objs.size s'.heap h' → Inv X pins σ H' { s' with heap := h' } := fun {H' s' σ' pins'} J' h' sb => by
    have same : ∀ b o, b ≠ s3.heap.objs.size → s'.heap.get? b = some o → h'.get? b = some o := fun b o hb e => sb.extBut b o hb e
    have u : Un (frs X.stack) fp H3 H' s3.heap s'.heap := J'.base
    refine I3'.call' (s' := { s' with heap := h' }) (ch := fp) J'.os ⟨fun b o e n hb hx => ?_, fun b o e n hb hx => ?_, u.free, fun b o e hx => ?_, u.tups, u.frzs, u.tbls⟩ (fun b o e => ?_) J'.bare fun b hb => ?_
    · exact same b o (Nat.ne_of_lt (Heap.lt_size e)) (u.keep b o e n hb hx)
    · obtain ⟨sl, z⟩ := u.slot b o e n hb hx
      exact ⟨sl, same b _ (Nat.ne_of_lt (Heap.lt_size e)) z⟩
    · obtain ⟨o', z⟩ := u.there b o e hx
      exact ⟨o', same b o' (Nat.ne_of_lt (Heap.lt_size e)) z⟩
    · have nC : ∀ c v, H' c = some v → c ≠ s3.heap.objs.size := fun c v z q => by
        have := J'.free
        rw [show (cxC X scope N' cl s3.heap.objs.size s3 H3 fp (X.pn ++ pins)).env.locals = s3.heap.objs.size from rfl, ← q, z] at this
        cases this
      refine (J'.hok b o e).stay (fun c v hc q => same c v ?_ q) (fun _ q => q) fun _ _ q => q
      rcases hc with z | z
      · rw [z]; exact nC b o e
      · exact nC c _ z
    · obtain ⟨f0, f1, fs, fe, f4, f5⟩ := f3 b hb
      exact ⟨fe, f1, f4, f5⟩
  have loop : codeAny (model X.prog X.w) X.A (.compLoop (.ListComp elt [⟨tg, iter, ifs, 0⟩] scope pos) 0 (.ref it) (.ref D) (compEnvC scope cl s3.heap.objs.size X.env))
      (compPost (model X.prog X.w) X.A X.xe none (EP X pins σ Q) (.ref D) s3.heap.objs.size) { s3 with heap := h₁, toks := s3.toks + ([] : List (Str × Value)).length } := by
    refine comp_loop (fun n s' => ∃ i ys σ' H', Inv (cxC X scope N' cl s3.heap.objs.size s3 H3 fp (X.pn ++ pins)) [] σ' H' s' ∧ tn i s'.heap ∧ (∀ b ∈ fp, H' b = none) ∧ W i n ys σ' H') ?_ m0 ⟨0, [], capSt src σ, H3, I4, T.keep _ _ _ st3 fun b _ o e => keep4 b o e, fun b hb => (f3 b hb).1, w0⟩
    rintro n s5 ⟨i, ys, σ5, H5, I5, st5, fr5, w5⟩
    obtain ⟨hDs, stop | go⟩ := turn i n ys σ5 H5 w5
    · obtain ⟨stop, qn⟩ := stop
      refine thn (T.done (cxC X scope N' cl s3.heap.objs.size s3 H3 fp (X.pn ++ pins)) rfl rfl rfl hc i [] s5 σ5 H5 _ I5 (stat fr5) st5 stop) fun r s6 ⟨hr, I6⟩ => ?_
      subst hr
      obtain ⟨m, hn, _⟩ := id I6.loc
      exact ⟨m, hn, fun h' sb => ⟨.ref D, H5, fin I6 h' sb, rfl, qn⟩⟩
    · obtain ⟨go, N, hN, step⟩ := go
      refine thn (T.item (cxC X scope N' cl s3.heap.objs.size s3 H3 fp (X.pn ++ pins)) rfl rfl rfl hc i [] s5 σ5 H5 _ I5 (stat fr5) st5 go) fun r s6 ⟨u, hr, h6⟩ => ?_
      subst hr
      refine thn h6 fun _ s7 ⟨x, H7, I7, r7, y7, st7, fr7⟩ => ?_
      have I7' := I7.pinned (stat fr7) (T.obj _ _ st7)
      have again : ∀ {s8 : Shared} {σ8 : St} {H8 : Hp} {ys' : List V}, Inv (cxC X scope N' cl s3.heap.objs.size s3 H3 fp (X.pn ++ pins)) ([] ++ pinsAt fp s7.heap) σ8 H8 s8 → (∃ m', m' < n ∧ W (i + 1) m' ys' σ8 H8) →
          ∃ m, m < n ∧ ∃ i ys σ' H', Inv (cxC X scope N' cl s3.heap.objs.size s3 H3 fp (X.pn ++ pins)) [] σ' H' s8 ∧ tn i s8.heap ∧ (∀ b ∈ fp, H' b = none) ∧ W i m ys σ' H' := fun {s8 σ8 H8 ys'} I8 ⟨m', hm, w8⟩ => by
        refine ⟨m', hm, i + 1, ys', σ8, H8, I8.unpinned, T.keep _ _ _ st7 fun b hb o e => (I8.pin (b, o) (List.mem_append_right _ (List.mem_append_right _ (mem_pinsAt hb e)))).1, fun b hb => ?_, w8⟩
        obtain ⟨o, e, d⟩ := T.obj _ _ st7 b hb
        exact (I8.pin (b, o) (List.mem_append_right _ (List.mem_append_right _ (mem_pinsAt hb e)))).2.1
      refine thn (hg cl _ s3 H3 fp _ _ s7 σ5 H7 x u _ I7' r7 (step x H7 y7)) fun _ s8 ⟨σ8, H8, I8, q8⟩ => ?_
      refine thn (ht cl _ s3 H3 fp _ _ s8 σ8 H8 _ I8 q8) fun ok s9 ⟨H9, I9, q9⟩ => ?_
      cases ok with
      | false => exact again I9 (hN _ _ _ q9)
      | true =>
        rw [if_pos rfl]
        refine thn (he cl _ s3 H3 fp _ _ s9 σ8 H9 _ I9 q9) fun y s10 ⟨yv, H10, I10, r10, q10⟩ => ?_
        obtain ⟨hDy, hlen, w10⟩ := q10
        refine thn (mt_append (X := cxC X scope N' cl s3.heap.objs.size s3 H3 fp (X.pn ++ pins)) _ s10 σ8 H10 (.ref D) [yv] (.ref D) [y] (fun _ H' => H' = upd H10 D (.lst (ys ++ [yv]))) I10 rfl (.cons r10 .nil) ⟨D, ys, yv, rfl, rfl, hDy, hlen, rfl⟩) fun _ s11 ⟨_, H11, I11, _, e11⟩ => ?_
        subst e11
        exact again I11 (hN _ _ _ w10)
  exact codeAny_compStart_list loop (T.self _ 0 _ _ _ (T.keep _ _ _ st3 fun b _ o e => keep4 b o e) loop)
end
end L2
namespace L2
open PySem PySem.Spec PyProof.Rows

/-! ### texts: slices -/
def cutS (x : Str) (lo hi : Option Int) : Str := ⟨((x.cps.toList.drop (HT.sIx x.length 0 lo)).take (HT.sIx x.length x.length hi - HT.sIx x.length 0 lo)).toArray⟩
def rSlS : V → Option Int → Option Int → Hp → VK → Prop := fun x lo hi H Q => ∃ z, x = .str z ∧ z.length ≤ sizeLine ∧ Q (.str (cutS z lo hi)) H
section
variable {X : Cx}
/-! ### texts: their signs, one after another -/
def Its (x : Str) : It := ⟨fun i _ => i < x.length, fun i H v H' => H' = H ∧ ∃ c, x.cps.toList[i]? = some c ∧ v = .str ⟨#[c]⟩, fun i _ => x.length ≤ i⟩
end
end L2
namespace L2
open PySem PySem.Spec PyProof.Rows
section
variable {X : Cx} {tg : Expr}
def iStr (tl : TE) : TI := fun σ H R => tl σ H fun x H1 => ∃ z, x = .str z ∧ R (Its z) H1
/-- over a sequence that yields the items of xs, whatever the turns do -/
def ItSeq (J : It) (P : Hp → Prop) (xs : List V) : Prop := ∀ H, P H → ∀ i, (∀ x, xs[i]? = some x → J.go i H ∧ ∀ y H', J.yld i H y H' → H' = H ∧ y = x) ∧ (xs.length ≤ i → J.stop i H)
theorem itseq_list {K : PySem.W.Frag} {a : Addr} {xs : List V} : ItSeq (Itl K a) (fun H => SqL K H a xs) xs := fun H hq i => by
  refine ⟨fun x hx => ⟨⟨xs, x, hq, hx⟩, fun y H' ⟨e1, e2⟩ => ⟨e1, ?_⟩⟩, fun hi => ⟨xs, hq, hi⟩⟩
  have := e2 xs hq
  rw [hx] at this
  exact (Option.some.inj this).symm
theorem itseq_range {lo : Int} {n : Nat} {P : Hp → Prop} : ItSeq (Itr lo n) P ((List.range n).map fun (i : Nat) => V.int (lo + i)) := fun H hq i => by
  refine ⟨fun x hx => ?_, fun hi => by show n ≤ i; simpa using hi⟩
  have hi : i < n := by
    have := (List.getElem?_eq_some_iff.mp hx).1
    simpa using this
  refine ⟨hi, fun y H' ⟨e1, e2⟩ => ⟨e1, ?_⟩⟩
  rw [List.getElem?_map, List.getElem?_range hi] at hx
  rw [e2]
  simpa using hx
theorem ItSeq.imp {J : It} {P P' : Hp → Prop} {xs : List V} (h : ItSeq J P xs) (hp : ∀ H, P' H → P H) : ItSeq J P' xs := fun H q => h H (hp H q)
/-- a comprehension over such a sequence, by what holds between two turns -/
theorem lc_by {J : It} {P : Hp → Prop} {xs : List V} (hJ : ItSeq J P xs) {src : List (Option Nat)} {g : TG} {tt : TT} {te : TE} {σ : St} {H1 : Hp} {Q : VK} {D : Addr} (Pv : Nat → List V → St → Hp → Prop)
    (h0 : Pv 0 [] (capSt src σ) (upd H1 D (.lst []))) (hP : ∀ i ys σ' H', Pv i ys σ' H' → P H' ∧ H' D = some (.lst ys))
    (step : ∀ i ys σ' H' x, xs[i]? = some x → Pv i ys σ' H' → g x σ' H' fun σ2 H4 => tt σ2 H4 fun b H5 => if b = true then te σ2 H5 fun y H6 => H6 D = some (.lst ys) ∧ ys.length < sizeLine ∧ Pv (i + 1) (ys ++ [y]) σ2 (upd H6 D (.lst (ys ++ [y]))) else Pv (i + 1) ys σ2 H5)
    (fin : ∀ ys σ' H', Pv xs.length ys σ' H' → Q (.ref D) H') :
    LC src J g tt te σ H1 Q D := by
  refine ⟨fun i m ys σ' H' => m = xs.length - i ∧ i ≤ xs.length ∧ Pv i ys σ' H', ⟨xs.length, by simp, Nat.zero_le _, h0⟩, ?_⟩
  rintro i m ys σ' H2 ⟨rfl, hi, p⟩
  obtain ⟨hp, hD⟩ := hP i ys σ' H2 p
  refine ⟨hD, ?_⟩
  by_cases hlt : i < xs.length
  · obtain ⟨go, yl⟩ := (hJ H2 hp i).1 xs[i] (by simp [hlt])
    refine .inr ⟨go, fun ys' σ3 H3 => Pv (i + 1) ys' σ3 H3, fun ys' σ3 H3 p' => ⟨xs.length - (i + 1), by omega, rfl, hlt, p'⟩, fun x H3 y => ?_⟩
    obtain ⟨e1, e2⟩ := yl x H3 y
    subst e1 e2
    exact step i ys σ' _ _ (by simp [hlt]) p
  · have e : i = xs.length := by omega
    subst e
    exact .inl ⟨(hJ H2 hp _).2 (Nat.le_refl _), fin ys σ' H2 p⟩
theorem Same.upd_new {H : Hp} {p : Addr} (h : H p = none) (o : HO) : Same H (upd H p o) := fun b u q => by rw [upd_ne (ne_of_none q h)]; exact q
theorem Same.upd_over {H H' : Hp} {p : Addr} (h : H p = none) (e : Same H H') (o : HO) : Same H (upd H' p o) := fun b u q => by rw [upd_ne (ne_of_none q h)]; exact e b u q
end

/-! ### all, any, join -/
section
variable {X : Cx}
/-- sep.join(a list of texts) -/
def rJoin (K : PySem.W.Frag) : V → List V → Hp → VK → Prop := fun x vs H Q => ∃ (z : Str) (p : Addr) (ys : List Str), x = .str z ∧ vs = [.ref p] ∧ SqL K H p (ys.map V.str) ∧ (ys.map (·.length)).sum + ys.length * z.length ≤ 16777216 ∧ Q (.str (Txt.join z ys)) H
/-! ### isinstance(e, a built-in type), isinstance(e, an own class) -/
def clsV : V → Option Value
  | .ty n => some (.type n)
  | .ref a => some (.ref a)
  | _ => none
theorem call_isinst : CallR X (.builtin "isinstance") (fun xs H Q => ∃ x c cv t b, xs = [x, c] ∧ clsV c = some cv ∧ TyOf X.K H x t ∧ PySem.W.kitOne X.K t cv = some b ∧ Q (.bl b) H) := by
  intro pins s σ H xs us Q I r h
  obtain ⟨x, c, cv, t, b, rfl, ec, ty, e, q⟩ := h
  obtain ⟨u, w', rfl, ru, rw'⟩ := vals2 r
  have ew : w' = cv := by
    cases c with
    | ty n => cases (show w' = Value.type n from rw'); simpa [clsV] using ec
    | ref a => cases (show w' = Value.ref a from rw'); simpa [clsV] using ec
    | _ => simp [clsV] at ec
  subst ew
  exact isinst_ok I ru ty e fun tk => ⟨.bl b, H, I.tok tk, rfl, q⟩

/-! ### == of two lists, != of two lists: flat items -/
def eqVs (xs ys : List V) : Bool := xs.length == ys.length && (List.range xs.length).all fun j => match xs[j]?, ys[j]? with | some x, some y => eqV x y | _, _ => false
end
end L2
namespace L2
open PySem PySem.Spec PyProof.Rows
/-! ### zip of two sequences -/
/-- an iterator within a zip: at k, in the heap h, the next is what get tells -/
structure Sub (P : Program) (w : World) (i : Addr) (St : Nat → Heap → Prop) (Ready : Heap → (Nat → Option Value) → Prop) : Prop where
  obj : ∀ k h, St k h → ∃ o, h.get? i = some o ∧ ∀ v, o.data ≠ .cell v
  keep : ∀ k h h', St k h → (∀ o, h.get? i = some o → h'.get? i = some o) → St k h'
  item : ∀ (A : Around) (k : Nat) (s : Shared) (get : Nat → Option Value) (x : Value) (Q : Value → Shared → Prop) (E : Value → Shared → Prop), St k s.heap → Ready s.heap get → get k = some x →
    (∀ h' tk, St (k + 1) h' → Heap.SameBut i s.heap h' → Q x { s with heap := h', toks := tk }) → wpAny (model P w) A (Builtin.SmallTypes.nextOf (.ref i)) Q E s
  fin : ∀ (A : Around) (k : Nat) (s : Shared) (get : Nat → Option Value) (Q : Value → Shared → Prop) (E : Value → Shared → Prop), A.handled = none → St k s.heap → Ready s.heap get → get k = none →
    (∀ h' e, Heap.ExtBut i s.heap h' → (∃ o, h'.get? e = some o ∧ o.cls = .type "StopIteration") → E (.ref e) { s with heap := h' }) → wpAny (model P w) A (Builtin.SmallTypes.nextOf (.ref i)) Q E s
section
variable {prog : Program} {w : World} {A : Around} {E : Value → Shared → Prop} {s : Shared}
end
structure ZApart (z TI TO i1 i2 : Addr) : Prop where
  a : TI ≠ z
  b : TO ≠ z
  c : i1 ≠ z
  d : i2 ≠ z
  e : TI ≠ TO
  f : TI ≠ i1
  g : TI ≠ i2
  h : TO ≠ i1
  i : TO ≠ i2
  j : i1 ≠ i2
section
variable {prog : Program} {w : World} {A : Around} {E : Value → Shared → Prop} {s : Shared} {z TI TO i1 i2 : Addr} {S1 S2 : Nat → Heap → Prop} {R1 R2 : Heap → (Nat → Option Value) → Prop} {g1 g2 : Nat → Option Value} {k : Nat} {a b : Value}
end
end L2
namespace L2
open PySem PySem.Spec PyProof.Rows
/-! ### zip(a, b): the object -/
abbrev zpH (h : Heap) (o1 o2 : Obj) : Heap := ((h.push o1).push o2)
abbrev zpT (h : Heap) (o1 o2 : Obj) : Heap := (zpH h o1 o2).push { cls := .type "tuple", data := .seq #[.ref h.objs.size, .ref (h.push o1).objs.size] }
abbrev zpO (h : Heap) (o1 o2 : Obj) : Heap := (zpT h o1 o2).push { cls := .type "tuple", data := .seq #[.none, .none] }
abbrev zpZ (h : Heap) (o1 o2 : Obj) : Heap := (zpO h o1 o2).push { cls := .type "zip", data := .fields #[.none, .bool false, .bool false, .ref (zpH h o1 o2).objs.size, .ref (zpT h o1 o2).objs.size] }
/-- iter(v) is a new object o, whatever stands beside -/
def ItersTo (h : Heap) (v : Value) (o : Obj) : Prop := ∀ (prog : Program) (w : World) (A : Around) (E : Value → Shared → Prop) (s : Shared) (Q : Value → Shared → Prop), (∀ b ob, h.get? b = some ob → s.heap.get? b = some ob) →
  Q (.ref s.heap.objs.size) { s with heap := s.heap.push o } → wpAny (model prog w) A (pyIter v) Q E s
section
variable {prog : Program} {w : World} {A : Around} {E : Value → Shared → Prop} {s : Shared}
end

section
variable {X : Cx} {pins : List (Addr × Obj)} {σ : St} {H : Hp} {s : Shared} {h' : Heap}
/-- several untracked records of ours have turned, and a new tuple is tracked -/
theorem Inv.turnedL {t' : Nat} {ch : List Addr} (I : Inv X pins σ H s) (k : ∀ b o, b ∉ ch → s.heap.get? b = some o → h'.get? b = some o) (hf : ∀ b ∈ ch, FpOk X pins H b) : Inv X pins σ H { s with heap := h', toks := t' } := by
  have nit : ∀ b u, H b = some u → b ∉ ch := fun b u e z => by rw [(hf b z).1] at e; cases e
  refine I.step (g' := s.gens) (d' := s.drawn) (ch := ch) (fun b hb => ?_) (fun b o _ _ hc e _ => k b o hc e) (fun b o _ _ hc e _ => ⟨o.slots, k b o hc e⟩) (fun _ _ _ _ n => n)
    (fun b o hc e => ⟨o, k b o hc e⟩) (fun _ _ e => e) (fun _ _ _ e => e) (fun b ps e => ⟨#[], by rw [e]; simp⟩) (fun m hm => ?_) (fun b u e => ?_) I.bare
  · obtain ⟨f0, f1, f2, f3, f4, f5⟩ := hf b hb
    exact ⟨f3, f1, f4, f5⟩
  · obtain ⟨o, es, ep, ho, r⟩ := hm
    exact ⟨o, es, ep, k _ o (fun z => (hf _ z).2.1 rfl) ho, r⟩
  · refine (I.hok b u e).stay (fun c v hc q => k c v ?_ q) (fun _ q => q) fun _ _ q => q
    rcases hc with z | z
    · rw [z]; exact nit b u e
    · exact nit c _ z
theorem Inv.turnedT {t' : Nat} {ch : List Addr} {T : Addr} {vs : List V} (I : Inv X pins σ H s) (k : ∀ b o, b ∉ ch → s.heap.get? b = some o → h'.get? b = some o) (hf : ∀ b ∈ ch, FpOk X pins H b) (hT : s.heap.objs.size ≤ T)
    (new : ObjOk X.prog X.w (upd H T (.tup vs)) h' T (.tup vs)) : Inv X pins σ (upd H T (.tup vs)) { s with heap := h', toks := t' } := by
  have hn : H T = none := I.hok.fresh hT
  have nit : ∀ b u, H b = some u → b ∉ ch := fun b u e z => by rw [(hf b z).1] at e; cases e
  have nT : ∀ b o, s.heap.get? b = some o → b ≠ T := fun b o e z => absurd (Heap.lt_size e) (by rw [z]; exact Nat.not_lt.mpr hT)
  have up : ∀ b u, H b = some u → upd H T (.tup vs) b = some u := fun b u e => by rw [upd_ne (ne_of_none e hn)]; exact e
  refine I.step (g' := s.gens) (d' := s.drawn) (ch := ch) (fun b hb => ?_) (fun b o _ _ hc e _ => k b o hc e) (fun b o _ _ hc e _ => ⟨o.slots, k b o hc e⟩) (fun b o _ e n => by rw [upd_ne (nT b o e)]; exact n)
    (fun b o hc e => ⟨o, k b o hc e⟩) (fun b xs e => up b _ e) (fun b o u e => up b _ e) (fun b ps e => ⟨#[], by rw [up b _ e]; simp⟩) (fun m hm => ?_) (fun b u e => ?_) I.bare
  · obtain ⟨f0, f1, f2, f3, f4, f5⟩ := hf b hb
    exact ⟨f3, f1, f4, f5⟩
  · obtain ⟨o, es, ep, ho, r⟩ := hm
    exact ⟨o, es, ep, k _ o (fun z => (hf _ z).2.1 rfl) ho, r⟩
  · by_cases hb : b = T
    · subst hb; rw [upd_same] at e; cases e; exact new
    · rw [upd_ne hb] at e
      refine (I.hok b u e).stay (fun c v hc q => k c v ?_ q) (fun c q => up c _ q) fun c xs q => up c _ q
      rcases hc with z | z
      · rw [z]; exact nit b u e
      · exact nit c _ z
end

/-- what zip(a, b) yields: pairs, each a new tuple -/
def Itz (G1 G2 : Hp → List V → Prop) : It :=
  ⟨fun i H => ∃ xs ys x y, G1 H xs ∧ G2 H ys ∧ xs[i]? = some x ∧ ys[i]? = some y, fun i H v H' => ∃ T, v = .ref T ∧ H T = none ∧ ∀ xs ys x y, G1 H xs → G2 H ys → xs[i]? = some x → ys[i]? = some y → H' = upd H T (.tup [x, y]),
    fun i H => ∃ xs ys, G1 H xs ∧ G2 H ys ∧ (xs.length ≤ i ∨ ys.length ≤ i)⟩
/-- a sequence as a zip's part: what of the abstract heap tells its items -/
structure Part (K : PySem.W.Frag) (G : Hp → List V → Prop) (Si : Addr → Nat → Heap → Prop) (R : Heap → (Nat → Option Value) → Prop) (own : Addr) : Prop where
  sub : ∀ (P : Program) (w : World) (i : Addr), Sub P w i (Si i) R
  ready : ∀ (X : Cx), X.K = K → ∀ (pins : List (Addr × Obj)) (σ : St) (H : Hp) (s : Shared) (xs : List V), Inv X pins σ H s → G H xs → ∃ us : List Value, Vals xs us ∧ R s.heap (fun k => us[k]?)
  inj : ∀ (X : Cx), X.K = K → ∀ (pins : List (Addr × Obj)) (σ : St) (H : Hp) (s : Shared) (xs ys : List V), Inv X pins σ H s → G H xs → G H ys → xs = ys
  keep : ∀ h h' g, R h g → (∀ o, h.get? own = some o → h'.get? own = some o) → R h' g
end L2
namespace L2
open PySem PySem.Spec PyProof.Rows
section
variable {X : Cx} {elts : List Expr} {kk : Nat} {tpos : Pos}
/-- zip(a, b) of two tuples, of two lists -/
def iZipT (K : PySem.W.Frag) (ta : TA) : TI := fun σ H R => ta σ H fun vs H1 => ∃ a b xs ys, vs = [.ref a, .ref b] ∧ SqT K H1 a xs ∧ SqT K H1 b ys ∧ R (Itz (fun H xs => SqT K H a xs) (fun H ys => SqT K H b ys)) H1
def iZipL (K : PySem.W.Frag) (ta : TA) : TI := fun σ H R => ta σ H fun vs H1 => ∃ a b xs ys, vs = [.ref a, .ref b] ∧ SqL K H1 a xs ∧ SqL K H1 b ys ∧ R (Itz (fun H xs => SqL K H a xs) (fun H ys => SqL K H b ys)) H1
/-- .. without a test -/
theorem lc_on {J : It} {P : Hp → Prop} {xs : List V} (hJ : ItSeq J P xs) {src : List (Option Nat)} {g : TG} {te : TE} {σ : St} {H1 : Hp} {Q : VK} {D : Addr} (Pv : Nat → List V → St → Hp → Prop)
    (h0 : Pv 0 [] (capSt src σ) (upd H1 D (.lst []))) (hP : ∀ i ys σ' H', Pv i ys σ' H' → P H' ∧ H' D = some (.lst ys))
    (mono : ∀ x σ H Q Q', (∀ σ' H', Q σ' H' → Q' σ' H') → g x σ H Q → g x σ H Q')
    (step : ∀ i ys σ' H' x, xs[i]? = some x → Pv i ys σ' H' → g x σ' H' fun σ2 H4 => te σ2 H4 fun y H6 => H6 D = some (.lst ys) ∧ ys.length < sizeLine ∧ Pv (i + 1) (ys ++ [y]) σ2 (upd H6 D (.lst (ys ++ [y]))))
    (fin : ∀ ys σ' H', Pv xs.length ys σ' H' → Q (.ref D) H') : LC src J g tYes te σ H1 Q D :=
  lc_by hJ Pv h0 hP (fun i ys σ' H' x hx p => by
    refine mono _ _ _ _ _ ?_ (step i ys σ' H' x hx p)
    intro σ2 H4 q
    unfold tYes
    dsimp only
    rw [if_pos rfl]
    exact q) fin
theorem gName_mono (i : Nat) : ∀ x σ H Q Q', (∀ σ' H', Q σ' H' → Q' σ' H') → gName i x σ H Q → gName i x σ H Q' := fun _ _ _ _ _ h q => h _ _ q
/-! ### for over a text, over anything of n turns -/
end
end L2
namespace L2
open PySem PySem.Spec PyProof.Rows
/-! ### short words: the surroundings of a law as one thing, its defs by their promises -/
structure Gx where
  P : Program
  w : World
  K : PySem.W.Frag
  mg : Str → Option Value
  base : Heap
def Cx.gx (X : Cx) : Gx := ⟨X.prog, X.w, X.K, X.mg, X.base⟩
/-- a def of the top as it stands there -/
def Gx.Raw (g : Gx) (x qual : Str) (st : Stmt) (ps : List Str) : Prop := ∃ f fd, Fun g.K x qual st f fd ∧ Binds g.K fd ps [] ∧ g.mg x = some (.ref f)
/-- .. with its promise, k calls deep -/
def Gx.Fn (g : Gx) (k : Nat) (x : Str) (ps : List Str) (sp : Sp) : Prop := ∃ f fd, FnOk g.P g.w g.K g.mg g.base CX0 k f fd ps sp ∧ Binds g.K fd ps [] ∧ PySem.W.keepIn g.K (.ref f) = true ∧ g.mg x = some (.ref f)
/-- a method of the class at C -/
def Gx.RawM (g : Gx) (C : Addr) (m qual : Str) (st : Stmt) (ps : List Str) : Prop := ∃ f fd, Fun g.K m qual st f fd ∧ Binds g.K fd ps [] ∧ Meth g.K C m f
def Gx.Me (g : Gx) (k : Nat) (C : Addr) (m : Str) (ps : List Str) (sp : Sp) : Prop := ∃ f fd, FnOk g.P g.w g.K g.mg g.base CX0 k f fd ps sp ∧ Binds g.K fd ps [] ∧ Meth g.K C m f
/-- the class's own making -/
def Gx.RawI (g : Gx) (x : Str) (C : Addr) (qual : Str) (st : Stmt) (ps : List Str) : Prop := ∃ f fd, Fun g.K "__init__" qual st f fd ∧ Binds g.K fd ps [] ∧ Mk g.K C f ∧ g.mg x = some (.ref C)
def Gx.Ma (g : Gx) (k : Nat) (x : Str) (C : Addr) (ps : List Str) (sp : Sp) : Prop := ∃ f fd, FnOk g.P g.w g.K g.mg g.base CX0 k f fd ps sp ∧ Binds g.K fd ps [] ∧ Mk g.K C f ∧ g.mg x = some (.ref C)
def Gx.Con (g : Gx) (x : Str) (v : V) : Prop := ∃ u, g.mg x = some u ∧ RelV v u
/-- the body's context -/
abbrev Gx.cx (g : Gx) (N : List Str) (qual : Str) (st : Stmt) (f : Addr) (cdv : Value) (A : Around) (outer : List Env) (s : Shared) (H : Hp) (E : XK) : Cx := (cxOf CX0 g.P g.w g.K g.mg g.base N qual (defScope st) f cdv A outer s H E).nox
def Body (g : Gx) (k : Nat) (N : List Str) (qual : Str) (st : Stmt) (sp : Sp) : Prop := ∀ (f : Addr) (cdv : Value) (A : Around) (outer : List Env) (s : Shared) (H : Hp) (vs : List V) (Q : VK) (E : XK), Room k (g.cx N qual st f cdv A outer s H E).A → sp vs H Q E →
  ∃ t, PSs (g.cx N qual st f cdv A outer s H E) (defBody st) t ∧ t { nx := fun _ H' => Q .non H', rt := Q } (start N vs) H
section
variable {g : Gx} {k : Nat} {x qual m : Str} {st : Stmt} {N ps : List Str} {sp : Sp} {C : Addr}
theorem Gx.Raw.fn (R : g.Raw x qual st ps) (S : FnScope N ps (defScope st)) (len : ∀ vs H Q E, sp vs H Q E → vs.length = ps.length) (b : Body g k N qual st sp) : g.Fn (k + 1) x ps sp := by
  obtain ⟨f, fd, F, bd, hm⟩ := R
  exact ⟨f, fd, F.ok S len fun cdv A outer s H vs Q E hr h => b f cdv A outer s H vs Q E hr h, bd, F.kp, hm⟩
theorem Gx.RawM.me (R : g.RawM C m qual st ps) (S : FnScope N ps (defScope st)) (len : ∀ vs H Q E, sp vs H Q E → vs.length = ps.length) (b : Body g k N qual st sp) : g.Me (k + 1) C m ps sp := by
  obtain ⟨f, fd, F, bd, hm⟩ := R
  exact ⟨f, fd, F.ok S len fun cdv A outer s H vs Q E hr h => b f cdv A outer s H vs Q E hr h, bd, hm⟩
theorem Gx.RawI.ma (R : g.RawI x C qual st ps) (S : FnScope N ps (defScope st)) (len : ∀ vs H Q E, sp vs H Q E → vs.length = ps.length) (b : Body g k N qual st sp) : g.Ma (k + 1) x C ps sp := by
  obtain ⟨f, fd, F, bd, hm, hg⟩ := R
  exact ⟨f, fd, F.ok S len fun cdv A outer s H vs Q E hr h => b f cdv A outer s H vs Q E hr h, bd, hm, hg⟩
theorem Gx.Fn.mono {j : Nat} (F : g.Fn j x ps sp) (h : j ≤ k) : g.Fn k x ps sp := by
  obtain ⟨f, fd, F, r⟩ := F
  exact ⟨f, fd, F.mono h, r⟩
theorem Gx.Me.mono {j : Nat} (F : g.Me j C m ps sp) (h : j ≤ k) : g.Me k C m ps sp := by
  obtain ⟨f, fd, F, r⟩ := F
  exact ⟨f, fd, F.mono h, r⟩
/-- nothing can be asked: no call is left -/
theorem Gx.Raw.none (R : g.Raw x qual st ps) (no : ∀ vs H Q E, ¬ sp vs H Q E) : g.Fn k x ps sp := by
  obtain ⟨f, fd, F, bd, hm⟩ := R
  exact ⟨f, fd, ⟨fun vs H Q E h => absurd h (no vs H Q E), fun A outer s H args us vs Q E _ _ _ _ h => absurd h (no vs H Q E)⟩, bd, F.kp, hm⟩
theorem Gx.RawM.none (R : g.RawM C m qual st ps) (no : ∀ vs H Q E, ¬ sp vs H Q E) : g.Me k C m ps sp := by
  obtain ⟨f, fd, F, bd, hm⟩ := R
  exact ⟨f, fd, ⟨fun vs H Q E h => absurd h (no vs H Q E), fun A outer s H args us vs Q E _ _ _ _ h => absurd h (no vs H Q E)⟩, bd, hm⟩
end
section
variable {g : Gx} {X : Cx} {k j : Nat} {x m : Str} {ps : List Str} {sp : Sp} {C : Addr} {e o : Expr} {es : List Expr} {t : TA} {ta : TE} {p pos apos : Pos}
/-- f(e, ..) -/
theorem pe_fn (F : g.Fn j x ps sp) (hr : Room k X.A) (ha : PA X (e :: es) t) (hj : j ≤ k := by omega) (hX : X.gx = g := by rfl) (hg : Gl X x := by rfl) (hdb : (x == ("__debug__" : Str)) = false := by decide)
    (he : starEach (e :: es) X.env = (false, eval e X.env) :: starEach es X.env := by rfl) (hpl : (backTo pos (starEach es X.env)).any (·.1) = false := by rfl) : PE X (.Call (.Name x p) (e :: es) [] pos) (tCall sp [] E0 t) := by
  subst hX
  obtain ⟨f, fd, F, b, kp, hm⟩ := F
  exact pe_call F (hr.mono hj) hg hm kp b .nil pass0 ha hdb he hpl
/-- o.m(e, ..) -/
theorem pe_me {pl : Sem Bool} (F : g.Me j C m ps sp) (c : Cls g.K C) (hr : Room k X.A) (ho : PE X o ta) (ha : PA X (e :: es) t) (hj : j ≤ k := by omega) (hX : X.gx = g := by rfl)
    (hst : starEach (e :: es) X.env = (false, eval e X.env) :: starEach es X.env := by rfl) (hpl : (backTo pos (starEach es X.env)).any (·.1) = false := by rfl)
    (ht : eval (.Call (.Attribute o m apos) (e :: es) [] pos) X.env = (do
      let ov ← eval o X.env
      standAt apos.atName
      let (f, first) ← holding [ov] (getMethod ov m pl)
      callWith pos f first (backTo pos (starEach (e :: es) X.env)) (backToKw pos (keywordEach [] X.env))) := by rfl) : PE X (.Call (.Attribute o m apos) (e :: es) [] pos) (tMeth C m sp [] E0 ta t) := by
  subst hX
  obtain ⟨f, fd, F, b, hm⟩ := F
  exact pe_meth ho c hm F (hr.mono hj) b .nil pass0 ha hst hpl ht
/-- C(e, ..) -/
theorem pe_ma (F : g.Ma j x C ps sp) (hr : Room k X.A) (ha : PA X (e :: es) t) (hj : j + 1 ≤ k := by omega) (hX : X.gx = g := by rfl) (hg : Gl X x := by rfl) (hdb : (x == ("__debug__" : Str)) = false := by decide)
    (he : starEach (e :: es) X.env = (false, eval e X.env) :: starEach es X.env := by rfl) (hpl : (backTo pos (starEach es X.env)).any (·.1) = false := by rfl) : PE X (.Call (.Name x p) (e :: es) [] pos) (tMake C sp [] E0 t) := by
  subst hX
  obtain ⟨f, fd, F, b, M, hm⟩ := F
  exact pe_make M F (hr.mono hj) hg hm b .nil pass0 ha hdb he hpl
/-- a built-in function, type -/
theorem pe_bf {id : String} {r : List V → Hp → VK → Prop} (hm : g.mg x = none) (hc : CallR X (.builtin id) r) (ha : PA X (e :: es) t) (hv : bootBuiltins x = some (.builtin id) := by decide +kernel) (hX : X.gx = g := by rfl) (hg : Gl X x := by rfl) (hn : x ≠ "__name__" := by decide) (hdb : (x == ("__debug__" : Str)) = false := by decide)
    (he : starEach (e :: es) X.env = (false, eval e X.env) :: starEach es X.env := by rfl) (hpl : (backTo pos (starEach es X.env)).any (·.1) = false := by rfl) : PE X (.Call (.Name x p) (e :: es) [] pos) (tCB r t) := by
  subst hX
  exact pe_callB hc hg hm hv ha hn hdb he hpl
theorem pe_bt {T : String} {r : List V → Hp → VK → Prop} (hm : g.mg x = none) (hc : CallR X (.type T) r) (ha : PA X (e :: es) t) (hv : bootBuiltins x = some (.type T) := by decide +kernel) (hX : X.gx = g := by rfl) (hg : Gl X x := by rfl) (hn : x ≠ "__name__" := by decide) (hdb : (x == ("__debug__" : Str)) = false := by decide)
    (he : starEach (e :: es) X.env = (false, eval e X.env) :: starEach es X.env := by rfl) (hpl : (backTo pos (starEach es X.env)).any (·.1) = false := by rfl) : PE X (.Call (.Name x p) (e :: es) [] pos) (tCB r t) := by
  subst hX
  exact pe_callTy hc hg hm hv ha hn hdb he hpl
/-- a built-in type's name -/
theorem pe_bn {T : String} (hm : g.mg x = none) (hv : bootBuiltins x = some (.type T) := by decide +kernel) (hX : X.gx = g := by rfl) (hg : Gl X x := by rfl) (hn : x ≠ "__name__" := by decide) (hdb : (x == ("__debug__" : Str)) = false := by decide) : PE X (.Name x pos) (tC (.ty T)) := by
  subst hX
  exact pe_bltn hg hm hv rfl hn hdb
end
/-! ### code lists as texts -/
def S (l : List Nat) : Str := ⟨l.toArray⟩
def joinL (s : List Nat) : List (List Nat) → List Nat
  | [] => []
  | [x] => x
  | x :: y :: r => x ++ s ++ joinL s (y :: r)
end L2
namespace L2
open PySem PySem.Spec PyProof.Rows
/-! ### what the top has written -/
section
variable {K : PySem.W.Frag} {h : Heap} {mg : Str → Option Value} {P : Program} {w : World} {base : Heap} {f C : Addr} {x qual m : Str} {st : Stmt} {ps : List Str} {oc kV dc pm cd ct : Value} {od an : Option Addr} {sl : Array (Option Value)}
theorem raw_mk (X : K.In h) (G : h.Ns mainGlobals mg) (ps : List Str)
    (a : PySem.W.nsIn K mainGlobals x = some (some (.ref f))) (l : K.lookup f = some ⟨oc, od, .func (PySem.W.fnOf x x (defArgs st) (defBody st) (defScope st) .none kV dc pm an cd ct), sl⟩) (c : PySem.W.codeIn K cd x = true) (k : PySem.W.keepIn K (.ref f) = true)
    (b : ∀ (kV doc pm : Value) (an : Option Addr) (cdv ct : Value) (us : List Value), us.length = ps.length → bindArgs (PySem.W.fnOf x x (defArgs st) (defBody st) (defScope st) .none kV doc pm an cdv ct) ⟨us, []⟩ = pure (ps.zip us)) :
    ∀ P w base, (Gx.mk P w K mg base).Raw x x st ps := fun P w base =>
  have F := fun_mk (st := st) l c k
  ⟨f, _, F, F.binds b, PySem.W.mg_of X G a⟩
theorem rawM_mk (X : K.In h) (G : h.Ns mainGlobals mg) (ps : List Str)
    (a : PySem.W.findIn K (.ref C) m = some (some (.ref f))) (i : PySem.W.isFn K (.ref f) = true) (l : K.lookup f = some ⟨oc, od, .func (PySem.W.fnOf m qual (defArgs st) (defBody st) (defScope st) .none kV dc pm an cd ct), sl⟩) (c : PySem.W.codeIn K cd qual = true) (k : PySem.W.keepIn K (.ref f) = true)
    (b : ∀ (kV doc pm : Value) (an : Option Addr) (cdv ct : Value) (us : List Value), us.length = ps.length → bindArgs (PySem.W.fnOf m qual (defArgs st) (defBody st) (defScope st) .none kV doc pm an cdv ct) ⟨us, []⟩ = pure (ps.zip us)) :
    ∀ P w base, (Gx.mk P w K mg base).RawM C m qual st ps := fun P w base =>
  have F := fun_mk (st := st) l c k
  ⟨f, _, F, F.binds b, ⟨a, i, k⟩⟩
theorem rawI_mk (X : K.In h) (G : h.Ns mainGlobals mg) (ps : List Str) (aC : PySem.W.nsIn K mainGlobals x = some (some (.ref C))) (mk : PySem.W.makesIn K C = true) (kc : PySem.W.keepIn K (.ref C) = true)
    (a : PySem.W.findIn K (.ref C) "__init__" = some (some (.ref f))) (i : PySem.W.isFn K (.ref f) = true) (l : K.lookup f = some ⟨oc, od, .func (PySem.W.fnOf "__init__" qual (defArgs st) (defBody st) (defScope st) .none kV dc pm an cd ct), sl⟩) (c : PySem.W.codeIn K cd qual = true) (k : PySem.W.keepIn K (.ref f) = true)
    (b : ∀ (kV doc pm : Value) (an : Option Addr) (cdv ct : Value) (us : List Value), us.length = ps.length → bindArgs (PySem.W.fnOf "__init__" qual (defArgs st) (defBody st) (defScope st) .none kV doc pm an cdv ct) ⟨us, []⟩ = pure (ps.zip us)) :
    ∀ P w base, (Gx.mk P w K mg base).RawI x C qual st ps := fun P w base =>
  have F := fun_mk (st := st) l c k
  ⟨f, _, F, F.binds b, ⟨mk, a, i, kc⟩, PySem.W.mg_of X G aC⟩
end
/-- the law's own promise -/
def spTrue (K : PySem.W.Frag) : Sp := fun vs H Q _ => ∃ (a : Addr) (ns : List Int), vs = [.ref a] ∧ SqL K H a (ns.map V.int) ∧ ns.length ≤ 63 ∧ ∀ H', Q (.bl true) H'
/-- the law's def as it stands at the top -/
def LawRaw (K : PySem.W.Frag) (mg : Str → Option Value) (st : Stmt) (x n : Str) : Prop := ∃ f fd, Fun K n n st f fd ∧ (∀ (s : Shared) (u : Value), BindsTo s fd ⟨[u], []⟩ [(x, u)]) ∧ mg n = some (.ref f)
theorem lawRaw_mk {K : PySem.W.Frag} {h : Heap} {mg : Str → Option Value} {f : Addr} {x n : Str} {st : Stmt} {oc kV dc pm cd ct : Value} {od an : Option Addr} {sl : Array (Option Value)} (X : K.In h) (G : h.Ns mainGlobals mg)
    (a : PySem.W.nsIn K mainGlobals n = some (some (.ref f))) (l : K.lookup f = some ⟨oc, od, .func (PySem.W.fnOf n n (defArgs st) (defBody st) (defScope st) .none kV dc pm an cd ct), sl⟩) (c : PySem.W.codeIn K cd n = true) (k : PySem.W.keepIn K (.ref f) = true)
    (b : ∀ (kV doc pm : Value) (an : Option Addr) (cdv ct : Value) (s : Shared) (u : Value), BindsTo s (PySem.W.fnOf n n (defArgs st) (defBody st) (defScope st) .none kV doc pm an cdv ct) ⟨[u], []⟩ [(x, u)]) : LawRaw K mg st x n :=
  ⟨f, _, fun_mk (st := st) l c k, b kV dc pm an cd ct, PySem.W.mg_of X G a⟩
end L2
namespace L2
open PySem PySem.Spec PyProof.Rows
section
variable {X : Cx}
/-- a number's bits, by a power above it -/
theorem bits_lt {a : Int} {m : Nat} (h : a.natAbs < 2 ^ m) : Builtin.Int.intBits a ≤ m := by
  unfold Builtin.Int.intBits
  split
  · omega
  · rename_i h0
    have h0 : a.natAbs ≠ 0 := by simpa using h0
    have := (Nat.log2_lt h0).mpr h
    omega
/-- a product whose bits are told -/
def CMulB (i j : Int) : Prop := ∃ m n : Nat, i.natAbs < 2 ^ m ∧ j.natAbs < 2 ^ n ∧ m + n ≤ 100000000
theorem CMulB.ok {i j : Int} (h : CMulB i j) : IntMulOk i j := by
  obtain ⟨m, n, h1, h2, h3⟩ := h
  exact IntMulOk.of_le (bits_lt h1) (bits_lt h2) (by omega)
def CDivL (i j : Int) : Prop := 0 < j ∧ j.natAbs < 2 ^ 9000
theorem op_fdivL : OpR X (binaryOp .FloorDiv) (rI CDivL fun i j => .int (i / j)) := opI fun i j _ _ _ _ _ hc q => by
  have h1 : (0 : Int) < j := hc.1
  have h2 := hc.2
  have h3 : j.natAbs ≠ 0 := by omega
  exact floordiv_int (by omega) (by rw [Int.fdiv_eq_ediv_of_nonneg i (by omega)]; exact q) (.inl (PyProof.noPylong_of_log2 ((Nat.log2_lt h3).mpr h2)))
end
end L2
namespace L2
open PySem PySem.Spec PyProof.Rows
theorem cxOf_K {CX : CXT} {P : Program} {w : World} {K : PySem.W.Frag} {mg : Str → Option Value} {base : Heap} {N : List Str} {qual : Str} {scope : Scope} {f : Addr} {cd : Value} {A : Around} {outer : List Env} {s : Shared} {H : Hp} {E : XK} :
    (cxOf CX P w K mg base N qual scope f cd A outer s H E).K = K := rfl
theorem nox_K {X : Cx} : X.nox.K = X.K := rfl
/-! loops, said of the reading itself -/
section
variable {g : TG} {tb : TS} {D : Ends} {σ : St} {H : Hp}
theorem tFor_range1 {ta : TA} {n : Nat} (Pv : Nat → St → Hp → Prop) (ha : ∀ R : List V → Hp → Prop, R [.int n] H → ta σ H R) (hn : n < 2 ^ 62) (h0 : Pv 0 σ H)
    (hs : ∀ i σ H, i < n → Pv i σ H → g (.int i) σ H fun σ2 H2 => tb { D with nx := Pv (i + 1), ct := Pv (i + 1), bk := D.nx } σ2 H2) (hd : ∀ σ H, Pv n σ H → D.nx σ H) : tFor (iRng1 ta) g tb D σ H := by
  refine ha _ ⟨n, rfl, by omega, by omega, ?_⟩
  refine for_range (lo := 0) (n := n) Pv h0 (fun i σ H hi p => ?_) hd
  have e : (0 : Int) + i = i := by omega
  rw [e]; exact hs i σ H hi p
end
end L2
namespace L2
open PySem PySem.Spec PyProof.Rows
section
variable {X : Cx}
/-- the sum of a list of ints -/
theorem call_sum_ints (hc : X.calm = true := by rfl) : CallR X (.builtin "sum") (fun xs H Q => ∃ (p : Addr) (ns : List Int), xs = [.ref p] ∧ SqL X.K H p (ns.map V.int) ∧ Q (.int ns.sum) H) := by
  intro pins s σ H xs us Q I r h
  obtain ⟨p, ns, rfl, hq, q⟩ := h
  obtain ⟨u, rfl, rx⟩ := vals1 r
  cases rx
  obtain ⟨its, r', pl, hz⟩ := I.list hq
  have hi := intsAre_of r'
  have hl := pl.isList
  obtain ⟨xs, ex⟩ := hi.allInts.items
  rw [ex] at hl
  have e : preSum (numAt xs) xs.size = ns.sum := by
    have h1 := nums_intItems (xs := xs)
    rw [← ex] at h1
    have h2 := hi.numsOf
    rw [preSum_eq, List.take_of_length_le (by simp)]
    rw [← h1]
    exact congrArg List.sum h2
  refine sum_intListG (I.ok.hd hc) hl fun h' tk t' hk => ?_
  rw [e]
  exact ⟨.int _, H, I.kept (t' := tk) hk, ⟨t', rfl⟩, q⟩
end
/-! ### enumerate over a list -/
/-- what enumerate yields: pairs of a place and a thing, each a new tuple -/
def Ite (G : Hp → List V → Prop) : It :=
  ⟨fun i H => ∃ xs x, G H xs ∧ xs[i]? = some x, fun i H v H' => ∃ T, v = .ref T ∧ H T = none ∧ ∀ xs x, G H xs → xs[i]? = some x → H' = upd H T (.tup [.int i, x]), fun i H => ∃ xs, G H xs ∧ xs.length ≤ i⟩
theorem turn_enumL {P : Program} {w : World} {K : PySem.W.Frag} {elts : List Expr} {kk : Nat} {pos : Pos} {a e it : Addr} (ne : e ≠ it) (na : a ≠ e ∧ a ≠ it) :
    Turn P w K (.Tuple elts kk pos) (Ite fun H xs => SqL K H a xs) [e, it] e (fun i h => (∃ old, IsEnum h e it i old) ∧ h.IsListIter it a i) where
  mem := by simp
  obj := fun i h ⟨⟨old, he⟩, hi⟩ c hc => by
    simp only [List.mem_cons, List.not_mem_nil, or_false] at hc
    rcases hc with rfl | rfl
    · exact ⟨_, he, fun v z => by cases z⟩
    · obtain ⟨o, q, _, d⟩ := hi
      exact ⟨o, q, fun v z => by rw [d] at z; cases z⟩
  keep := fun i h h' ⟨⟨old, he⟩, hi⟩ q => ⟨⟨old, q e (by simp) _ he⟩, hi.at fun o z => q it (by simp) o z⟩
  item := by
    intro X hP hw hK hc i pins s σ H E I hf ⟨⟨old, he⟩, hi⟩ hg
    subst hP hw hK
    obtain ⟨xs, x, g1, hx⟩ := hg
    obtain ⟨its, rv, pl, hz⟩ := I.list g1
    obtain ⟨u, hu, ru⟩ := rv.get hx
    refine wpAny_pyNext_enum_item he hi pl.isList (x := u) (by simpa using hu) ne fun h1 ho hi1 hT hsz kp => ?_
    refine ⟨_, rfl, ?_⟩
    refine wpAny_letOwnedTupleGo_enum (s := { s with heap := h1, toks := s.toks + 1 }) ho fun h2 he2 sb => ?_
    have elt : e < s.heap.objs.size := Heap.lt_size he
    have kp2 : ∀ c o, c ∉ [e, it] → s.heap.get? c = some o → h2.get? c = some o := fun c o hm z => by
      have c1 : c ≠ e := fun q => hm (by simp [q])
      have c2 : c ≠ it := fun q => hm (by simp [q])
      exact sb.extBut c o c1 (kp c o c1 c2 z)
    have hT2 : h2.get? s.heap.objs.size = some { cls := .type "tuple", data := .seq #[.int i s.toks, u] } := sb.extBut _ _ (Nat.ne_of_gt elt) hT
    have I' := I.turnedT (t' := s.toks + 1) (h' := h2) (T := s.heap.objs.size) (vs := [.int i, x]) kp2 hf (Nat.le_refl _) (show ObjOk X.prog X.w _ h2 _ (.tup [.int i, x]) from ⟨by show 2 ≤ sizeLine; decide, [.int i s.toks, u], .cons ⟨_, rfl⟩ (.cons ru .nil), _, hT2, rfl, _, rfl⟩)
    have fresh : H s.heap.objs.size = none := I.hok.fresh (Nat.le_refl _)
    refine ⟨.ref s.heap.objs.size, _, I', rfl, ⟨_, rfl, fresh, fun xs' x' g1' hx' => ?_⟩, ⟨⟨_, by simpa using he2⟩, hi1.at fun o z => sb.extBut _ _ (Ne.symm ne) z⟩, fun c hm => ?_⟩
    · rw [I.list_inj g1' g1, hx] at hx'
      cases hx'
      rfl
    · have h0 := (hf c hm).1
      have clt : c < s.heap.objs.size := by
        simp only [List.mem_cons, List.not_mem_nil, or_false] at hm
        rcases hm with rfl | rfl
        · exact elt
        · obtain ⟨o, q, _⟩ := hi; exact Heap.lt_size q
      rw [upd_ne (Nat.ne_of_lt clt)]
      exact h0
  done := by
    intro X hP hw hK hc i pins s σ H E I hf ⟨⟨old, he⟩, hi⟩ hg
    subst hP hw hK
    obtain ⟨xs, g1, hx⟩ := hg
    obtain ⟨its, rv, pl, hz⟩ := I.list g1
    have hl := rv.length
    obtain ⟨f0, f1, f2, f3, f4, f5⟩ := hf it (by simp)
    exact wpAny_pyNext_enum_end (I.ok.hd hc) he hi pl.isList (by simp; omega) fun h' eb => ⟨rfl, I.turned (t' := s.toks) (fun b o hb z => eb b o hb z) f0 f1 f3 f4 f5⟩
  self := fun _ _ _ _ _ ⟨⟨_, he⟩, _⟩ h => wpAny_pyIter_enum he h
section
variable {X : Cx} {elts : List Expr} {kk : Nat} {tpos : Pos}
def iEnumL (K : PySem.W.Frag) (ta : TA) : TI := fun σ H R => ta σ H fun vs H1 => ∃ a xs, vs = [.ref a] ∧ SqL K H1 a xs ∧ R (Ite fun H xs => SqL K H a xs) H1
theorem pi_enumL {a : Expr} {ta : TA} {p pos : Pos} (hg : Gl X "enumerate") (hm : X.mg "enumerate" = none) (ha : PA X [a] ta) (hs : starEach [a] X.env = [(false, eval a X.env)] := by rfl) :
    PI X (.Tuple elts kk tpos) (.Call (.Name "enumerate" p) [a] [] pos) (iEnumL X.K ta) := by
  intro pins s σ H R I h
  refine Call_ (ld_blt I hg hm boot_enumerate (PyProof.Rows.callWith_type1 (thn (ha pos pins s σ H _ I h) fun us s1 ⟨vs, H1, I1, r1, q1⟩ => ?_) hs rfl))
  obtain ⟨x, xs, e, hx, q⟩ := q1
  subst e
  obtain ⟨u, rfl, ru⟩ := vals1 r1
  cases ru
  obtain ⟨i1, _, pl, _⟩ := I1.list hx
  have l1 : x < s1.heap.objs.size := by obtain ⟨_, e, _⟩ := pl.isList; exact Heap.lt_size e
  refine call_enumerate_list pl.isList fun h' he hi hsz keep => ?_
  refine wpAny_pyIter_enum he ?_
  have I2 : Inv X pins σ H1 { s1 with heap := h' } := I1.kept (t' := s1.toks) keep
  have l1' : @LT.lt Nat _ x s1.heap.objs.size := l1
  refine ⟨_, [s1.heap.objs.size + 1, s1.heap.objs.size], _, _, H1, rfl, I2, turn_enumL (by intro z; have z' : @Eq Nat _ _ := z; omega) ⟨by intro z; have z' : @Eq Nat _ _ := z; omega, by intro z; have z' : @Eq Nat _ _ := z; omega⟩, ⟨⟨_, he⟩, hi⟩, fun c hc => ?_, q⟩
  have hle : s1.heap.objs.size ≤ c := by
    simp only [List.mem_cons, List.not_mem_nil, or_false] at hc
    rcases hc with e | e <;> (have e' : @Eq Nat _ _ := e; show @LE.le Nat _ s1.heap.objs.size c; omega)
  exact I1.fpOk hle (I1.hok.fresh hle)
end
end L2
namespace L2
open PySem PySem.Spec PyProof.Rows
/-! ### == and != of data of any depth -/
mutual
/-- the data that a value of the heap stands for -/
inductive Den (K : PySem.W.Frag) (H : Hp) : V → PyData → Prop
  | non : Den K H .non .none
  | bl (b : Bool) : Den K H (.bl b) (.bool b)
  | int (i : Int) : Den K H (.int i) (.int i)
  | str (x : Str) (h : PyData.strOk x = true) : Den K H (.str x) (.str x)
  | lst {a : Addr} {vs : List V} {ds : List PyData} : SqL K H a vs → Dens K H vs ds → Den K H (.ref a) (.list ds)
  | tup {a : Addr} {vs : List V} {ds : List PyData} : SqT K H a vs → Dens K H vs ds → Den K H (.ref a) (.tuple ds)
inductive Dens (K : PySem.W.Frag) (H : Hp) : List V → List PyData → Prop
  | nil : Dens K H [] []
  | cons {v : V} {d : PyData} {vs : List V} {ds : List PyData} : Den K H v d → Dens K H vs ds → Dens K H (v :: vs) (d :: ds)
end
mutual
theorem Den.lay {K : PySem.W.Frag} {H : Hp} : ∀ {v : V} {d : PyData}, Den K H v d → d.canLay0 = true
  | _, _, .non => rfl
  | _, _, .bl b => rfl
  | _, _, .int i => rfl
  | _, _, .str x h => by simpa [PyData.canLay0] using h
  | _, _, .lst _ hs => by rw [PyData.canLay0]; exact hs.lay
  | _, _, .tup _ hs => by rw [PyData.canLay0]; exact hs.lay
theorem Dens.lay {K : PySem.W.Frag} {H : Hp} : ∀ {vs : List V} {ds : List PyData}, Dens K H vs ds → PyData.canLayAll0 ds = true
  | _, _, .nil => rfl
  | _, _, .cons h hs => by rw [PyData.canLayAll0, h.lay, hs.lay]; rfl
end
theorem Dens.ints {K : PySem.W.Frag} {H : Hp} : ∀ ns : List Int, Dens K H (ns.map V.int) (ns.map PyData.int)
  | [] => .nil
  | n :: ns => .cons (.int n) (.ints ns)
section
variable {X : Cx}
mutual
theorem Den.reads {pins : List (Addr × Obj)} {σ : St} {H : Hp} {s : Shared} (I : Inv X pins σ H s) : ∀ {v : V} {d : PyData} {u : Value}, Den X.K H v d → RelV v u → ∃ as, Reads s.heap u d as
  | _, _, u, .non, r => by cases (show u = .none from r); exact ⟨_, .none⟩
  | _, _, u, .bl b, r => by cases (show u = .bool b from r); exact ⟨_, .bool b⟩
  | _, _, u, .int i, r => by obtain ⟨t, rfl⟩ := r; exact ⟨_, .int i t⟩
  | _, _, u, .str x h, r => by obtain ⟨t, rfl⟩ := r; exact ⟨_, .str x t⟩
  | _, _, u, .lst (a := a) h hs, r => by
    cases (show u = .ref a from r)
    obtain ⟨its, rv, pl, hz⟩ := I.list h
    obtain ⟨as, ra⟩ := hs.reads I rv
    obtain ⟨o, e1, e2, n, e3⟩ := pl.isList
    exact ⟨_, .list e1 e2 e3 (by simpa using ra)⟩
  | _, _, u, .tup (a := a) h hs, r => by
    cases (show u = .ref a from r)
    obtain ⟨its, rv, pl, hz⟩ := I.tuple h
    obtain ⟨as, ra⟩ := hs.reads I rv
    obtain ⟨o, e1, e2, n, e3⟩ := (show s.heap.IsTuple a its.toArray from pl)
    exact ⟨_, .tuple e1 e2 e3 (by simpa using ra)⟩
theorem Dens.reads {pins : List (Addr × Obj)} {σ : St} {H : Hp} {s : Shared} (I : Inv X pins σ H s) : ∀ {vs : List V} {ds : List PyData} {us : List Value}, Dens X.K H vs ds → Vals vs us → ∃ as, ReadsAll s.heap us ds as
  | _, _, us, .nil, r => by cases r; exact ⟨_, .nil⟩
  | _, _, us, .cons h hs, r => by
    cases r with
    | cons r rr =>
      obtain ⟨as, ra⟩ := h.reads I r
      obtain ⟨bs, rb⟩ := hs.reads I rr
      exact ⟨_, .cons ra rb⟩
end
theorem op_eqD (hu : X.A.units + 64 < cLine) : OpR X (compareOp .Eq) (fun x y H Q => ∃ d e, Den X.K H x d ∧ Den X.K H y e ∧ d.depth ≤ 64 ∧ Q (.bl (PyData.eqv d e)) H) := by
  intro pins s σ H x y v u Q I rx ry h
  obtain ⟨d, e, hd, he, dp, q⟩ := h
  obtain ⟨as, ra⟩ := hd.reads I rx
  obtain ⟨bs, rb⟩ := he.reads I ry
  exact SeqAt.rcAt_reads ra rb hd.lay he.lay (by omega) _ _ _ _ ⟨.bl _, H, I, rfl, q⟩
end
theorem depth_ints : ∀ ns : List Int, PyData.depthAll (ns.map PyData.int) ≤ 1
  | [] => by simp [PyData.depthAll]
  | n :: ns => by
    have := depth_ints ns
    rw [List.map_cons, PyData.depthAll, PyData.depth]
    omega
/-! ### comprehensions -/
theorem take_snoc {α : Type} {l : List α} {i : Nat} {x : α} (h : l[i]? = some x) : l.take (i + 1) = l.take i ++ [x] := by
  obtain ⟨hi, hc⟩ := List.getElem?_eq_some_iff.mp h
  rw [List.take_succ_eq_append_getElem hi, hc]
theorem lc_map {J : It} {P : Hp → Prop} {xs : List V} (hJ : ItSeq J P xs) {src : List (Option Nat)} {te : TE} {σ : St} {H1 : Hp} {Q : VK} {D : Addr} (ys : List V) (hP : ∀ H', Same H1 H' → P H') (hD : H1 D = none) (hl : ys.length = xs.length) (hlen : xs.length ≤ 100000)
    (step : ∀ (i : Nat) x y H', xs[i]? = some x → ys[i]? = some y → Same H1 H' → ∀ R : VK, (∀ H'', Same H' H'' → R y H'') → te (some x :: capSt src σ) H' R)
    (fin : ∀ H', Same H1 H' → H' D = some (.lst ys) → Q (.ref D) H') : LC (none :: src) J (gName 0) tYes te σ H1 Q D := by
  have h6 : 100000 < sizeLine := by decide
  refine lc_on hJ (fun i zs σ' H' => zs = ys.take i ∧ (∃ o, σ' = o :: capSt src σ) ∧ Same H1 H' ∧ H' D = some (.lst zs)) ⟨by simp, ⟨none, rfl⟩, .upd_new hD _, upd_same⟩ (fun i zs σ' H' p => ⟨hP _ p.2.2.1, p.2.2.2⟩) (gName_mono 0) ?_ ?_
  · rintro i zs σ' H' x hx ⟨rfl, ⟨o, rfl⟩, sm, hd⟩
    have hi := (List.getElem?_eq_some_iff.mp hx).1
    have hy : ys[i]? = some (ys[i]'(by omega)) := List.getElem?_eq_getElem _
    show te (some x :: capSt src σ) H' _
    refine step i x _ H' hx hy sm _ fun H'' s2 => ⟨s2 _ _ hd, ?_, (take_snoc hy).symm, ⟨_, rfl⟩, .upd_over hD (sm.trans s2) _, upd_same⟩
    rw [List.length_take]; omega
  · rintro zs σ' H' ⟨rfl, _, sm, hd⟩
    rw [← hl, List.take_length] at hd
    exact fin H' sm hd
theorem gTup2_mono' (K : PySem.W.Frag) (i j : Nat) : ∀ x σ H Q Q', (∀ σ' H', Q σ' H' → Q' σ' H') → gTup K 2 (gCons (gName i) (gCons (gName j) gNil)) x σ H Q → gTup K 2 (gCons (gName i) (gCons (gName j) gNil)) x σ H Q' := by
  rintro x σ H Q Q' h ⟨a, xs, e, sq, l, v, r, e1, v2, r2, e2, e3, q⟩
  exact ⟨a, xs, e, sq, l, v, r, e1, v2, r2, e2, e3, h _ _ q⟩
end L2
namespace L2
open PySem PySem.Spec PyProof.Rows
/-! a block cut behind its first statements -/
section
variable {a b c d e r : TS} {D : Ends} {σ : St} {H : Hp} (M : St → Hp → Prop) (h1 : ∀ σ H, M σ H → r D σ H)
include h1
theorem cut2 (h2 : ∀ N : St → Hp → Prop, (∀ σ H, M σ H → N σ H) → tSeq a b { D with nx := N } σ H) : tSeq a (tSeq b r) D σ H := h2 (r D) h1
theorem cut3 (h2 : ∀ N : St → Hp → Prop, (∀ σ H, M σ H → N σ H) → tSeq a (tSeq b c) { D with nx := N } σ H) : tSeq a (tSeq b (tSeq c r)) D σ H := h2 (r D) h1
theorem cut5 (h2 : ∀ N : St → Hp → Prop, (∀ σ H, M σ H → N σ H) → tSeq a (tSeq b (tSeq c (tSeq d e))) { D with nx := N } σ H) : tSeq a (tSeq b (tSeq c (tSeq d (tSeq e r)))) D σ H := h2 (r D) h1
end
theorem scal_ii (i j : Int) : scal (.int i) (.int j) = true := rfl
theorem scal_ss (i j : Str) : scal (.str i) (.str j) = true := rfl
theorem cutV_lo (xs : List V) (i : Nat) : cutV xs (some (i : Int)) none = xs.drop i := by
  unfold cutV
  rw [HT.sIx_nat, HT.sIx_none]
  by_cases hi : i ≤ xs.length
  · rw [Nat.min_eq_left hi, List.take_of_length_le (by rw [List.length_drop]; omega)]
  · rw [List.drop_of_length_le (by omega), List.drop_of_length_le (show xs.length ≤ i by omega)]
    simp
end L2
namespace L2
open PySem PySem.Spec PyProof.Rows
/-- while, by a word with letters of its own -/
theorem while_of {α : Type} {c : TT} {tb : TS} {D : Ends} {σ : St} {H : Hp} (Pv : α → St → Hp → Prop) (cond : α → Bool) (μ : α → Nat) (a₀ : α) (h0 : Pv a₀ σ H)
    (hc : ∀ a σ H, Pv a σ H → ∀ R : Bool → Hp → Prop, (∀ H', Pv a σ H' → R (cond a) H') → c σ H R)
    (hb : ∀ a σ H, Pv a σ H → cond a = true → tb { D with nx := fun σ' H' => ∃ a', Pv a' σ' H' ∧ μ a' < μ a, ct := fun σ' H' => ∃ a', Pv a' σ' H' ∧ μ a' < μ a, bk := D.nx } σ H)
    (hd : ∀ a σ H, Pv a σ H → cond a = false → D.nx σ H) : tWhile c tb D σ H := by
  refine ⟨fun m σ H => ∃ a, m = μ a ∧ Pv a σ H, ⟨_, a₀, rfl, h0⟩, ?_⟩
  rintro m σ H ⟨a, rfl, p⟩
  refine hc a σ H p _ fun H' p' => ?_
  cases e : cond a with
  | true => exact ⟨_, fun σ' H' ⟨a', q, l⟩ => ⟨_, l, a', rfl, q⟩, hb a σ H' p' e⟩
  | false => exact hd a σ H' p' e
section
variable {X : Cx} {tg : Expr}
def CPowB (i j : Int) : Prop := 0 ≤ j ∧ ∃ m : Nat, i.natAbs < 2 ^ m ∧ (m : Int) * j ≤ 2 ^ 27
/-- hi, hi - 1, .. (n of them) -/
def Itd (hi : Int) (n : Nat) : It := ⟨fun i _ => i < n, fun i H x H' => H' = H ∧ x = .int (hi - i), fun i _ => n ≤ i⟩
def iRngD (ta : TA) : TI := fun σ H R => ta σ H fun vs H1 => ∃ i j : Int, vs = [.int i, .int j, .int (-1)] ∧ (-(2 ^ 62) ≤ i ∧ i < 2 ^ 62 ∧ -(2 ^ 62) ≤ j ∧ j < 2 ^ 62) ∧ R (Itd i (i - j).toNat) H1
end
end L2
namespace L2
open PySem PySem.Spec PyProof.Rows
/-- for over a list that is made on the spot -/
theorem tFor_listN {g : TG} {tb : TS} {D : Ends} {σ : St} {H : Hp} {K : PySem.W.Frag} {tl : TE} {xs : List V} (Pv : Addr → Nat → St → Hp → Prop) (ha : ∀ R : V → Hp → Prop, (∀ c H1, Pv c 0 σ H1 → R (.ref c) H1) → tl σ H R) (hl : ∀ c i σ H, i ≤ xs.length → Pv c i σ H → SqL K H c xs)
    (hs : ∀ c (i : Nat) x σ H, xs[i]? = some x → Pv c i σ H → g x σ H fun σ2 H2 => tb { D with nx := Pv c (i + 1), ct := Pv c (i + 1), bk := D.nx } σ2 H2) (hd : ∀ c σ H, Pv c xs.length σ H → D.nx σ H) : tFor (iList K tl) g tb D σ H := by
  refine ha _ fun c H1 h0 => ⟨c, rfl, ⟨xs, hl c 0 σ H1 (Nat.zero_le _) h0⟩, ?_⟩
  exact for_list (Pv c) h0 (hl c) (hs c) (hd c)
end L2
namespace L2
open PySem PySem.Spec PyProof.Rows
section
variable {src : List (Option Nat)} {te : TE} {σ : St} {H : Hp} {Q : VK}
theorem tLC_list {K : PySem.W.Frag} {tl : TE} {a : Addr} {xs : List V} (ys : List V) (ha : ∀ R : V → Hp → Prop, R (.ref a) H → tl σ H R) (hS : SqL K H a xs) (hl : ys.length = xs.length) (hlen : xs.length ≤ 100000)
    (step : ∀ (i : Nat) x y H', xs[i]? = some x → ys[i]? = some y → Same H H' → ∀ R : VK, (∀ H'', Same H' H'' → R y H'') → te (some x :: capSt src σ) H' R)
    (fin : ∀ D H', H D = none → Same H H' → H' D = some (.lst ys) → Q (.ref D) H') : tLC (none :: src) (iList K tl) (gName 0) tYes te σ H Q :=
  ha _ ⟨a, rfl, ⟨xs, hS⟩, fun D hD => lc_map (itseq_list.imp fun H' (e : Same H H') => e.seq hS) ys (fun _ e => e) hD hl hlen step fun H' => fin D H' hD⟩
end
end L2
namespace L2
open PySem PySem.Spec PyProof.Rows
section
variable {src : List (Option Nat)} {te : TE} {σ : St} {H : Hp} {Q : VK}
end
/-! the same within a comprehension, whose own block says the text's objects in its own words -/
section
variable {X : Cx} {K : PySem.W.Frag}
end
end L2
namespace L2
open PySem PySem.Spec PyProof.Rows
section
variable {tb : TS} {D : Ends} {σ : St} {H : Hp}
end
end L2
namespace L2
open PySem PySem.Spec PyProof.Rows
section
variable {X : Cx} {e st : Expr} {te ts : TE} {pos p2 : Pos}
/-- xs[::-1] of a list: a new list -/
def tRev (K : PySem.W.Frag) (te ts : TE) : TE := fun σ H Q => te σ H fun x H1 => ts σ H1 fun y H2 => y = .int (-1) ∧ ∃ a xs, x = .ref a ∧ SqL K H2 a xs ∧ ∀ p, H2 p = none → Q (.ref p) (upd H2 p (.lst xs.reverse))
end
end L2
namespace L2
open PySem PySem.Spec PyProof.Rows
section
variable {X : Cx} {pos : Pos}
/-- is, is not, of truths -/
theorem op_isB : OpR X (compareOp .Is) (fun x y H Q => ∃ a b, x = .bl a ∧ y = .bl b ∧ Q (.bl (a == b)) H) := by
  intro pins s σ H x y v u Q I rx ry h
  obtain ⟨a, b, rfl, rfl, q⟩ := h
  cases rx
  cases ry
  exact is_bool ⟨.bl _, H, I, rfl, q⟩
def rBits : V → List V → Hp → VK → Prop := fun x vs H Q => ∃ i, x = .int i ∧ vs = [] ∧ Q (.int (Builtin.Int.intBits i : Nat)) H
def rFind : V → List V → Hp → VK → Prop := fun x vs H Q => ∃ (z y : Str), x = .str z ∧ vs = [.str y] ∧ Q (.int (Txt.find z y)) H
def tDict0 : TE := fun _ H Q => ∀ p, H p = none → Q (.ref p) (upd H p (.dK []))
end
/-- a tuple of texts of the module's top -/
def Gx.ConT (g : Gx) (x : Str) (xs : List V) : Prop := ∃ c, g.mg x = some (.ref c) ∧ ∀ H, SqT g.K H c xs
theorem conT_mk {K : PySem.W.Frag} {h : Heap} {mg : Str → Option Value} {x : Str} {i : Addr} {dc : Option Addr} {its : Array Value} {n : Nat} {sl : Array (Option Value)} {xs : List V} (X : K.In h) (G : h.Ns mainGlobals mg)
    (a : PySem.W.nsIn K mainGlobals x = some (some (.ref i))) (l : K.lookup i = some ⟨.type "tuple", dc, .seq its n, sl⟩) (hz : its.size ≤ sizeLine) (r : Vals xs its.toList) : ∀ P w base, (Gx.mk P w K mg base).ConT x xs :=
  fun P w base => ⟨i, PySem.W.mg_of X G a, fun H => .inr ⟨_, its, n, l, rfl, rfl, hz, r⟩⟩
section
variable {X : Cx} {g : Gx} {x : Str} {pos : Pos}
def tConT (K : PySem.W.Frag) (xs : List V) : TE := fun _ H Q => ∀ c, SqT K H c xs → Q (.ref c) H
theorem pe_gt {xs : List V} (F : g.ConT x xs) (hX : X.gx = g := by rfl) (hg : Gl X x := by rfl) (hd : (x == ("__debug__" : Str)) = false := by decide) : PE X (.Name x pos) (tConT g.K xs) := by
  subst hX
  obtain ⟨c, e, hc⟩ := F
  exact fun pins s σ H Q I h => pe_glob hg e (show RelV (.ref c) (.ref c) from rfl) hd pins s σ H Q I (h c (hc H))
end
end L2
namespace L2
open PySem PySem.Spec PyProof.Rows
theorem iteN {c A B : Prop} [Decidable c] (h : ¬ c) (hb : B) : if c then A else B := by rw [if_neg h]; exact hb
theorem iteY {c A B : Prop} [Decidable c] (h : c) (ha : A) : if c then A else B := by rw [if_pos h]; exact ha
section
variable {src : List (Option Nat)} {te : TE} {σ : St} {H : Hp} {Q : VK}
end
section
variable {X : Cx} {K : PySem.W.Frag} {o e : Expr} {es : List Expr} {to : TE} {t : TA} {name : Str} {apos cpos : Pos} {T id : String} {r : V → List V → Hp → VK → Prop}
end
section
variable {X : Cx}
def CMulC (i j : Int) : Prop := CMulB i j ∨ CMul i j
theorem op_mulC : OpR X (binaryOp .Mult) (rI CMulC fun i j => .int (i * j)) := opI fun _ _ _ _ _ _ _ hc q => mul_int q (hc.elim (fun h => h.ok) fun h => h.ok)
end
end L2
namespace L2
open PySem PySem.Spec PyProof.Rows
abbrev IsZipF (h : Heap) (z TI TO : Addr) (f0 : Value) (f1 : Bool) : Prop :=
  h.get? z = some { cls := .type "zip", dict := none, data := .fields #[f0, .bool f1, .bool false, .ref TI, .ref TO], slots := #[] }
section
variable {prog : Program} {w : World} {A : Around} {E : Value → Shared → Prop} {s : Shared} {z TI TO i1 i2 T : Addr} {S1 S2 : Nat → Heap → Prop} {R1 R2 : Heap → (Nat → Option Value) → Prop} {g1 g2 : Nat → Option Value} {k : Nat} {a b : Value} {f : Bool} {oT : Obj}
end
/-! list(zip(a, b)) of two tuples of one length -/
section
variable {prog : Program} {w : World} {A : Around} {s : Shared} {R : Result → Shared → Prop} {z TI TO i1 i2 S p1 p2 : Addr} {xs ys : List Value}
/-- the zip as it stands at turn i -/
def ZSt (h : Heap) (z TI TO i1 i2 p1 p2 : Addr) (i : Nat) (as : List Addr) : Prop :=
  IsPair h TI (.ref i1) (.ref i2) ∧ h.IsTupleIter i1 p1 i ∧ h.IsTupleIter i2 p2 i ∧ ((i = 0 ∧ IsZip h z TI TO .none ∧ ∃ a b, IsPair h TO a b) ∨ ∃ T f, T ∈ as ∧ IsZipF h z TI TO (rawInt T) f)
end
end L2
namespace L2
open PySem PySem.Calls PySem.Spec PyProof.Rows PyProof.V
section
variable {prog : Program} {w : World} {A : Around} {E : Value → Shared → Prop} {s : Shared} {z TI TO i1 i2 p1 p2 : Addr} {xs ys : List Value}
/-- what the list has at the end -/
structure ZGot (xs ys : List Value) (lo : Nat) (h : Heap) (as : List Addr) : Prop where
  len : as.length = xs.length
  rise : as.Pairwise (· < ·)
  above : ∀ a ∈ as, lo ≤ a
  pairs : ∀ (j : Nat) a x y, as[j]? = some a → xs[j]? = some x → ys[j]? = some y → IsPair h a x y
end
end L2
namespace L2
open PySem PySem.Spec PyProof.Rows
section
variable {X : Cx} {pins : List (Addr × Obj)} {σ : St} {H H' : Hp} {s : Shared} {h' : Heap}
end
section
variable {X : Cx}
/-- list(zip(a, b)) of two tuples of one length -/
def tLZ (K : PySem.W.Frag) (ta : TA) : TE := fun σ H Q => ta σ H fun vs H1 => ∃ a b xs ys, vs = [.ref a, .ref b] ∧ SqT K H1 a xs ∧ SqT K H1 b ys ∧ xs.length = ys.length ∧
  ∀ (l : Addr) (as : List Addr) (H2 : Hp), H1 l = none → Same H1 H2 → H2 l = some (.lst (as.map V.ref)) → as.length = xs.length →
    (∀ (j : Nat) a x y, as[j]? = some a → xs[j]? = some x → ys[j]? = some y → H1 a = none ∧ H2 a = some (.tup [x, y])) → Q (.ref l) H2
end
end L2
namespace L2
open PySem PySem.Spec PyProof.Rows
section
variable {src : List (Option Nat)} {te : TE} {σ : St} {H : Hp} {Q : VK}
end
end L2
namespace L2
open PySem PySem.Spec PyProof.Rows
section
variable {X : Cx}
/-- name = [.. for ..]: stored ahead of the letting go of the block's own names -/
theorem ps_setC {i : Nat} {x : Str} {pos' apos : Pos} {elt tg iter : Expr} {ifs : List Expr} {scope : Scope} {pos : Pos} {src : List (Option Nat)} {N' : List Str} {wi : TI} {g : TG} {tt : TT} {te : TE} (hN : X.N.Nodup) (hix : X.N[i]? = some x) (hlx : Loc X.env.scope x) (hcap : Cap X scope src N') (hc : X.calm = true) (hi : PI X tg iter wi)
    (hg : ∀ cl C s₀ H₀ fp pn, PG (cxC X scope N' cl C s₀ H₀ fp pn) tg g) (ht : ∀ cl C s₀ H₀ fp pn, PTs (cxC X scope N' cl C s₀ H₀ fp pn) ifs tt) (he : ∀ cl C s₀ H₀ fp pn, PE (cxC X scope N' cl C s₀ H₀ fp pn) elt te)
    (hfree : ∀ x, (x, NameKind.free) ∈ scope.names → X.env.scope.names.lookup x = some NameKind.cell ∨ X.env.scope.names.lookup x = some NameKind.free)
    (hk : scope.kind = .function := by rfl) (hcell : ∀ y ∈ scope.names, y.2 ≠ .cell := by decide) (hnames : ∀ y ∈ scope.names, y.2 = .local → scope.names.lookup y.1 = some .local := by decide +kernel)
    (hs : ∀ x, foldedSetIterable iter X.env x = pure x := by intro _; rfl) (hsw : swapsWithSole [.Name x pos'] (.ListComp elt [⟨tg, iter, ifs, 0⟩] scope pos) apos.line X.env = pure true := by rfl) (hf : X.fn x = true ∨ X.env.scope.names.lookup x = some .local := by first | exact .inl rfl | exact .inr rfl | assumption) :
    PS X (.Assign [.Name x pos'] (.ListComp elt [⟨tg, iter, ifs, 0⟩] scope pos) apos) (tAsg (tLC src wi g tt te) (gName i)) := by
  intro pins s σ H D0 I h
  have no : ∀ {E : Value → Shared → Prop}, ∀ (e : Value) (s' : Shared), False → E e s' := fun _ _ f => f.elim
  obtain ⟨cl, hcl, a, b⟩ := closure_ok X.env scope fun x hx => I.ok.has x (hfree x hx)
  rw [exec_Assign_arm]
  refine wpAny_bind (wpAny_standAt ?_)
  rw [hsw]
  refine wpAny_bind (wpAny_pure ?_)
  rw [if_pos rfl]
  refine wpAny_bind ?_
  rw [arm_evalThenUse_ListComp]
  refine wpAny_bind ?_
  refine wpAny_comprehension_free (use := some _) rfl hs hcl hk hnames (thn (hi pins s σ H _ I h) fun v s1 h1 => thn h1 fun itv s2 h2 => ?_)
  obtain ⟨it, fp, tn, J, H2, e, I2, T, st2, f2, q⟩ := h2
  subst e
  have hD : H2 s2.heap.objs.size = none := I2.hok.fresh (Nat.le_refl _)
  obtain ⟨W, ⟨m0, w0⟩, turn⟩ := q s2.heap.objs.size hD
  have I3 := I2.lnew (t' := s2.toks) (ys := []) (its := []) .nil (Nat.zero_le _)
  have fl2 : ∀ b ∈ fp, b < s2.heap.objs.size := fun b hb => by
    obtain ⟨o, e, _⟩ := T.obj _ _ st2 b hb
    exact Heap.lt_size e
  refine wpAny_newObj_type ?_
  generalize es3 : ({ s2 with heap := s2.heap.push { cls := .type "list", dict := none, data := .seq ([] : List Value).toArray } } : Shared) = s3
  have I3' : Inv X pins σ (upd H2 s2.heap.objs.size (.lst [])) s3 := es3 ▸ I3
  have keep3 : ∀ b o, s2.heap.get? b = some o → s3.heap.get? b = some o := fun b o e => by rw [← es3]; exact Heap.get?_push_of_some _ e
  have st3 : tn 0 s3.heap := T.keep _ _ _ st2 fun b _ o e => keep3 b o e
  have fl3 : ∀ b ∈ fp, b < s3.heap.objs.size := fun b hb => by
    obtain ⟨o, e, _⟩ := T.obj _ _ st3 b hb
    exact Heap.lt_size e
  have f3 : ∀ b ∈ fp, FpOk X pins (upd H2 s2.heap.objs.size (.lst [])) b := fun b hb => ⟨by rw [upd_ne (Nat.ne_of_lt (fl2 b hb))]; exact (f2 b hb).1, (f2 b hb).2⟩
  generalize eD : s2.heap.objs.size = D at *
  generalize eH3 : upd H2 D (.lst []) = H3 at *
  refine wpAny_newFunctionEnv hcell (by intro y hy; simp at hy) (fun h₁ hns₁ hsb₁ => ?_) hk
  have keep4 : ∀ b o, s3.heap.get? b = some o → h₁.get? b = some o := fun b o e => hsb₁.extBut b o (Nat.ne_of_lt (Heap.lt_size e)) (Heap.get?_push_of_some _ e)
  have I4 := inv_comp (N' := N') (src := src) (tk := s3.toks + ([] : List (Str × Value)).length) hk hcell hcap a b I3' f3 fl3 rfl keep4 hns₁
  -- the iterator's objects, through the block
  have stat : ∀ {H' : Hp}, (∀ b ∈ fp, H' b = none) → ∀ b ∈ fp, FpOk (cxC X scope N' cl s3.heap.objs.size s3 H3 fp (X.pn ++ pins)) [] H' b := fun hn b' hb => by
    obtain ⟨f0, f1, fs, fe, f4, f5⟩ := f3 b' hb
    refine ⟨hn b' hb, Nat.ne_of_lt (fl3 b' hb), fun z => ?_, .inl hb, fun x c h => f4 x c (a x c h), fun p hp => f5 p (by simpa [cxC] using hp)⟩
    rcases List.mem_cons.mp (I3'.stkSub b' z) with e | e
    · exact f1 e
    · exact fs e
  -- behind the block
  have fin : ∀ {H' : Hp} {s' : Shared} {σ' : St} {pins' : List (Addr × Obj)}, Inv (cxC X scope N' cl s3.heap.objs.size s3 H3 fp (X.pn ++ pins)) pins' σ' H' s' → ∀ h', Heap.SameBut s3.heap.objs.size s'.heap h' → Inv X pins σ H' { s' with heap := h' } := fun {H' s' σ' pins'} J' h' sb => by
    have same : ∀ b o, b ≠ s3.heap.objs.size → s'.heap.get? b = some o → h'.get? b = some o := fun b o hb e => sb.extBut b o hb e
    have u : Un (frs X.stack) fp H3 H' s3.heap s'.heap := J'.base
    refine I3'.call' (s' := { s' with heap := h' }) (ch := fp) J'.os ⟨fun b o e n hb hx => ?_, fun b o e n hb hx => ?_, u.free, fun b o e hx => ?_, u.tups, u.frzs, u.tbls⟩ (fun b o e => ?_) J'.bare fun b hb => ?_
    · exact same b o (Nat.ne_of_lt (Heap.lt_size e)) (u.keep b o e n hb hx)
    · obtain ⟨sl, z⟩ := u.slot b o e n hb hx
      exact ⟨sl, same b _ (Nat.ne_of_lt (Heap.lt_size e)) z⟩
    · obtain ⟨o', z⟩ := u.there b o e hx
      exact ⟨o', same b o' (Nat.ne_of_lt (Heap.lt_size e)) z⟩
    · have nC : ∀ c v, H' c = some v → c ≠ s3.heap.objs.size := fun c v z q => by
        have := J'.free
        rw [show (cxC X scope N' cl s3.heap.objs.size s3 H3 fp (X.pn ++ pins)).env.locals = s3.heap.objs.size from rfl, ← q, z] at this
        cases this
      refine (J'.hok b o e).stay (fun c v hc q => same c v ?_ q) (fun _ q => q) fun _ _ q => q
      rcases hc with z | z
      · rw [z]; exact nC b o e
      · exact nC c _ z
    · obtain ⟨f0, f1, fs, fe, f4, f5⟩ := f3 b hb
      exact ⟨fe, f1, f4, f5⟩
  have loop : codeAny (model X.prog X.w) X.A (.compLoop (.ListComp elt [⟨tg, iter, ifs, 0⟩] scope pos) 0 (.ref it) (.ref D) (compEnvC scope cl s3.heap.objs.size X.env))
      (compPost (model X.prog X.w) X.A X.xe (some fun v => assignAll v ((assignEach [.Name x pos'] X.env).map (·.2))) (fun _ s' => wpAny (model X.prog X.w) X.A (pure PUnit.unit) (fun _ s' => wpAny (model X.prog X.w) X.A (pure Flow.next) (SP X pins D0) X.xe s') X.xe s') (.ref D) s3.heap.objs.size) { s3 with heap := h₁, toks := s3.toks + ([] : List (Str × Value)).length } := by
    refine comp_loop (fun n s' => ∃ i ys σ' H', Inv (cxC X scope N' cl s3.heap.objs.size s3 H3 fp (X.pn ++ pins)) [] σ' H' s' ∧ tn i s'.heap ∧ (∀ b ∈ fp, H' b = none) ∧ W i n ys σ' H') ?_ m0 ⟨0, [], capSt src σ, H3, I4, T.keep _ _ _ st3 fun b _ o e => keep4 b o e, fun b hb => (f3 b hb).1, w0⟩
    rintro n s5 ⟨i, ys, σ5, H5, I5, st5, fr5, w5⟩
    obtain ⟨hDs, stop | go⟩ := turn i n ys σ5 H5 w5
    · obtain ⟨stop, qn⟩ := stop
      refine thn (T.done (cxC X scope N' cl s3.heap.objs.size s3 H3 fp (X.pn ++ pins)) rfl rfl rfl hc i [] s5 σ5 H5 _ I5 (stat fr5) st5 stop) fun r s6 ⟨hr, I6⟩ => ?_
      subst hr
      obtain ⟨m, hn, _⟩ := id I6.loc
      have IO : Inv X pins σ H5 s6 := fin I6 s6.heap (Heap.SameBut.refl _ _)
      have hCn : H5 s3.heap.objs.size = none := I6.free
      have hC : ∀ {H' : Hp}, H' s3.heap.objs.size = none → FpOk X pins H' s3.heap.objs.size := fun {H'} z => I3'.fpOk (Nat.le_refl _) z
      obtain ⟨oC, es, ep, hoC, rC⟩ := hn
      have IP := IO.pinned (fp := [s3.heap.objs.size]) (fun b hb => by rw [List.mem_singleton.mp hb]; exact hC hCn) (fun b hb => by rw [List.mem_singleton.mp hb]; exact ⟨oC, hoC, fun v z => by (rw [rC.1] at z; cases z)⟩)
      show wpAny _ _ (assign (.Name x pos') X.env (.ref D)) _ _ _
      refine thn (pg_name hN hix hlx hf _ s6 σ H5 (.ref D) (.ref D) _ IP rfl qn) fun _ s7 ⟨σ7, H7, I7, q7⟩ => ?_
      obtain ⟨g1, g2, _⟩ := I7.pin (s3.heap.objs.size, oC) (List.mem_append_right _ (List.mem_append_right _ (mem_pinsAt (List.mem_singleton.mpr rfl) hoC)))
      refine ⟨m, ⟨oC, es, ep, g1, rC⟩, fun h' sb => wpAny_pure (wpAny_pure ⟨σ7, H7, ?_, q7⟩)⟩
      exact I7.unpinned.turnedL (t' := s7.toks) (ch := [s3.heap.objs.size]) (fun b o hb e => sb.extBut b o (fun z => hb (by rw [z]; exact List.mem_singleton.mpr rfl)) e) (fun b hb => by rw [List.mem_singleton.mp hb]; exact hC g2)
    · obtain ⟨go, N, hN, step⟩ := go
      refine thn (T.item (cxC X scope N' cl s3.heap.objs.size s3 H3 fp (X.pn ++ pins)) rfl rfl rfl hc i [] s5 σ5 H5 _ I5 (stat fr5) st5 go) fun r s6 ⟨u, hr, h6⟩ => ?_
      subst hr
      refine thn h6 fun _ s7 ⟨x, H7, I7, r7, y7, st7, fr7⟩ => ?_
      have I7' := I7.pinned (stat fr7) (T.obj _ _ st7)
      have again : ∀ {s8 : Shared} {σ8 : St} {H8 : Hp} {ys' : List V}, Inv (cxC X scope N' cl s3.heap.objs.size s3 H3 fp (X.pn ++ pins)) ([] ++ pinsAt fp s7.heap) σ8 H8 s8 → (∃ m', m' < n ∧ W (i + 1) m' ys' σ8 H8) →
          ∃ m, m < n ∧ ∃ i ys σ' H', Inv (cxC X scope N' cl s3.heap.objs.size s3 H3 fp (X.pn ++ pins)) [] σ' H' s8 ∧ tn i s8.heap ∧ (∀ b ∈ fp, H' b = none) ∧ W i m ys σ' H' := fun {s8 σ8 H8 ys'} I8 ⟨m', hm, w8⟩ => by
        refine ⟨m', hm, i + 1, ys', σ8, H8, I8.unpinned, T.keep _ _ _ st7 fun b hb o e => (I8.pin (b, o) (List.mem_append_right _ (List.mem_append_right _ (mem_pinsAt hb e)))).1, fun b hb => ?_, w8⟩
        obtain ⟨o, e, d⟩ := T.obj _ _ st7 b hb
        exact (I8.pin (b, o) (List.mem_append_right _ (List.mem_append_right _ (mem_pinsAt hb e)))).2.1
      refine thn (hg cl _ s3 H3 fp _ _ s7 σ5 H7 x u _ I7' r7 (step x H7 y7)) fun _ s8 ⟨σ8, H8, I8, q8⟩ => ?_
      refine thn (ht cl _ s3 H3 fp _ _ s8 σ8 H8 _ I8 q8) fun ok s9 ⟨H9, I9, q9⟩ => ?_
      cases ok with
      | false => exact again I9 (hN _ _ _ q9)
      | true =>
        rw [if_pos rfl]
        refine thn (he cl _ s3 H3 fp _ _ s9 σ8 H9 _ I9 q9) fun y s10 ⟨yv, H10, I10, r10, q10⟩ => ?_
        obtain ⟨hDy, hlen, w10⟩ := q10
        refine thn (mt_append (X := cxC X scope N' cl s3.heap.objs.size s3 H3 fp (X.pn ++ pins)) _ s10 σ8 H10 (.ref D) [yv] (.ref D) [y] (fun _ H' => H' = upd H10 D (.lst (ys ++ [yv]))) I10 rfl (.cons r10 .nil) ⟨D, ys, yv, rfl, rfl, hDy, hlen, rfl⟩) fun _ s11 ⟨_, H11, I11, _, e11⟩ => ?_
        subst e11
        exact again I11 (hN _ _ _ w10)
  exact codeAny_compStart_list loop (T.self _ 0 _ _ _ (T.keep _ _ _ st3 fun b _ o e => keep4 b o e) loop)
end
end L2
namespace L2
open PySem PySem.Spec PyProof.Rows
/-! ### an exception of the program's own: it flies over B, which is all that stays behind it but the frames -/
structure Fly (P : Program) (w : World) (l : List Env) (H : Hp) (h : Heap) (e : Addr) (cls : Value) (H' : Hp) (h' B : Heap) : Prop where
  fl : ∃ a0, Heap.FlyingW B l e cls a0 h'
  hok : HOk P w H' B
  keep : ∀ b o, h.get? b = some o → H b = none → b ∉ frs l → B.get? b = some o
  slot : ∀ b o, h.get? b = some o → H b = none → b ∈ frs l → ∃ sl, h'.get? b = some { o with slots := sl }
  al : ∀ b o, h.get? b = some o → b ∉ frs l → ∃ o', B.get? b = some o'
  free : ∀ b o, h.get? b = some o → H b = none → H' b = none
  tups : ∀ b xs, H b = some (.tup xs) → H' b = some (.tup xs)
  frzs : ∀ b o u, H b = some (.frz o u) → H' b = some (.frz o u)
  tbls : ∀ b ps, H b = some (.tbl ps) → ∃ more, H' b = some (.tbl (ps ++ more))
section
variable {P : Program} {w : World} {l : List Env} {H H' : Hp} {h h' h'' B : Heap} {e : Addr} {cls : Value}
end
section
variable {X : Cx} {pins : List (Addr × Obj)} {σ : St} {H H' : Hp} {s s' : Shared} {h' B : Heap} {e : Addr} {cls : Value} {M : Model} {A : Around} {Q : Unit → Shared → Prop} {EE : Value → Shared → Prop}
end
/-- how an exception lies behind a call -/
def CXF (P : Program) (w : World) : CXT := fun l H s E e s' => ∃ (a : Addr) (cls : Value) (H' : Hp) (B : Heap), e = .ref a ∧ s'.os = s.os ∧ AllBare s'.gens ∧ Fly P w l H s.heap a cls H' s'.heap B ∧ E cls none H'
/-- a body from which exceptions may go -/
abbrev Gx.cxX (g : Gx) (N : List Str) (qual : Str) (st : Stmt) (f : Addr) (cdv : Value) (A : Around) (outer : List Env) (s : Shared) (H : Hp) (E : XK) : Cx := cxOf (CXF g.P g.w) g.P g.w g.K g.mg g.base N qual (defScope st) f cdv A outer s H E
section
variable {g : Gx} {N : List Str} {qual : Str} {st : Stmt} {f : Addr} {cdv : Value} {A : Around} {outer : List Env} {s : Shared} {H : Hp} {E : XK}
/-- what a raise asks -/
def Raises (X : Cx) (E : XK) : Prop := ∀ (pins : List (Addr × Obj)) (σ : St) (H : Hp) (s : Shared) (h' : Heap) (e : Addr) (cls : Value) (vs : List Value), Inv X pins σ H s → Heap.MadeExcOf s.heap h' e cls vs → E cls none H → X.xe (.ref e) { s with heap := h' }
end
def Gx.FnX (g : Gx) (k : Nat) (x : Str) (ps : List Str) (sp : Sp) : Prop := ∃ f fd, FnOk g.P g.w g.K g.mg g.base (CXF g.P g.w) k f fd ps sp ∧ Binds g.K fd ps [] ∧ PySem.W.keepIn g.K (.ref f) = true ∧ g.mg x = some (.ref f)
def BodyX (g : Gx) (k : Nat) (N : List Str) (qual : Str) (st : Stmt) (sp : Sp) : Prop := ∀ (f : Addr) (cdv : Value) (A : Around) (outer : List Env) (s : Shared) (H : Hp) (vs : List V) (Q : VK) (E : XK), Room k (g.cxX N qual st f cdv A outer s H E).A → sp vs H Q E →
  ∃ t, PSs (g.cxX N qual st f cdv A outer s H E) (defBody st) t ∧ t { nx := fun _ H' => Q .non H', rt := Q } (start N vs) H
section
variable {g : Gx} {k : Nat} {x qual m : Str} {st : Stmt} {N ps : List Str} {sp : Sp} {C : Addr}
end
section
variable {g : Gx} {X : Cx} {k j : Nat} {x : Str} {ps : List Str} {sp : Sp} {E : XK} {e : Expr} {es : List Expr} {t : TA} {p pos cpos np : Pos}
/-- the built-in line that our classes stand in -/
abbrev veLine : List Value := [.type "ValueError", .type "Exception", .type "BaseException", .type "object"]
/-- an exception class of the text, without an __init__ of its own -/
structure Gx.Exc (g : Gx) (x : Str) (C : Addr) : Prop where
  bound : g.mg x = some (.ref C)
  own : PySem.W.excIn g.K C veLine "ValueError.__new__" = true
def tRaise (C : Addr) (E : XK) (t : TA) : TS := fun _ σ H => t σ H fun vs H1 => vs.length ≤ sizeLine ∧ E (.ref C) none H1
end
/-! ### try: x = f(..) except C: suite -/
abbrev Cx.caught (X : Cx) (e : Addr) : Cx := { X with A := X.A.mark (some (.ref e)), calm := false, xe := fun _ _ => False }
section
variable {X : Cx} {pins : List (Addr × Obj)} {σ : St} {H H' H1 : Hp} {s s1 s' : Shared} {e : Value} {D : Ends} {ts : TS} {b₀ : Stmt} {suite : List Stmt} {c : Str} {cv : Value} {cp hpos : Pos}
end
def tTry (K : PySem.W.Frag) (cv : Value) (sp : Sp) (t : TA) (i : Nat) (ts : TS) : TS := fun D σ H => t σ H fun vs H1 => sp (vs ++ []) H1 (fun v H2 => D.nx (σ.set i (some v)) H2) (fun cls _ H2 => PySem.W.exmOne K cls cv = some true ∧ ts D σ H2)
section
variable {g : Gx} {X : Cx} {k j i : Nat} {x f c : Str} {ps : List Str} {sp : Sp} {e : Expr} {es : List Expr} {t : TA} {ts : TS} {b₀ : Stmt} {suite : List Stmt} {cv : Value} {fp px cp hpos apos cpos pos : Pos}
end
end L2
namespace L2
open PySem PySem.Spec PyProof.Rows
/-! ### enumerate, over a tuple, or from a number on -/
def Ite' (k : Nat) (G : Hp → List V → Prop) : It :=
  ⟨fun i H => ∃ xs x, G H xs ∧ xs[i]? = some x, fun i H v H' => ∃ T, v = .ref T ∧ H T = none ∧ ∀ xs x, G H xs → xs[i]? = some x → H' = upd H T (.tup [.int ((i + k : Nat) : Int), x]), fun i H => ∃ xs, G H xs ∧ xs.length = i⟩
theorem draws_shift {P : Program} {w : World} {A : Around} {it : Addr} {fp : List Addr} {n : Nat} {R : Nat → Value → Prop} {St : Nat → Heap → Prop} (D : Draws P w A it fp n R St) (k : Nat) :
    Draws P w A it fp (n + k) (fun i v => ∃ j, i = j + k ∧ R j v) (fun i h => ∃ j, i = j + k ∧ St j h) where
  live := fun i h ⟨j, _, st⟩ => D.live j h st
  frame := fun i h h' ⟨j, e, st⟩ q => ⟨j, e, D.frame j h h' st q⟩
  item := fun i s Q E hi ⟨j, e, st⟩ hQ => by
    subst e
    exact D.item j s Q E (by omega) st fun x h' tk p st' sb => hQ x h' tk ⟨j, rfl, p⟩ ⟨j + 1, by omega, st'⟩ sb
  done := fun s Q E ⟨j, e, st⟩ hE => by
    have : j = n := by omega
    subst this
    exact D.done s Q E st hE
theorem turn_enum {P : Program} {w : World} {K : PySem.W.Frag} {elts : List Expr} {kk : Nat} {pos : Pos} {a e it : Addr} {k : Nat} {G : Hp → List V → Prop} {inner : Nat → Heap → Prop} (ne : e ≠ it) (na : e ≠ a)
    (obj : ∀ i h, inner i h → ∃ o, h.get? it = some o ∧ ∀ v, o.data ≠ .cell v) (keep : ∀ i h h', inner i h → (∀ o, h.get? it = some o → h'.get? it = some o) → inner i h')
    (inj : ∀ (X : Cx) pins σ H s xs ys, X.prog = P → X.w = w → X.K = K → Inv X pins σ H s → G H xs → G H ys → xs = ys)
    (dr : ∀ (X : Cx) pins σ H s xs i, X.prog = P → X.w = w → X.K = K → X.calm = true → Inv X pins σ H s → G H xs → inner i s.heap → ∃ its : List Value, Vals xs its ∧ ∃ St : Nat → Heap → Prop, Draws P w X.A.in1 it [it, a] its.length (fun i v => its[i]? = some v) St ∧ St i s.heap ∧ ∀ i h, St i h → inner i h) :
    Turn P w K (.Tuple elts kk pos) (Ite' k G) [e, it] e (fun i h => (∃ old, IsEnum h e it ((i + k : Nat) : Int) old) ∧ inner i h) where
  mem := by simp
  obj := fun i h ⟨⟨old, he⟩, hi⟩ c hc => by
    simp only [List.mem_cons, List.not_mem_nil, or_false] at hc
    rcases hc with rfl | rfl
    · exact ⟨_, he, fun v z => by cases z⟩
    · exact obj i h hi
  keep := fun i h h' ⟨⟨old, he⟩, hi⟩ q => ⟨⟨old, q e (by simp) _ he⟩, keep i h h' hi fun o z => q it (by simp) o z⟩
  item := by
    intro X hP hw hK hc i pins s σ H E I hf ⟨⟨old, he⟩, hi⟩ hg
    obtain ⟨xs, x, g1, hx⟩ := hg
    obtain ⟨its, rv, St, D, hst, hin⟩ := dr X pins σ H s xs i hP hw hK hc I g1 hi
    subst hP hw hK
    have hlen := rv.length
    have hil : i < xs.length := (List.getElem?_eq_some_iff.mp hx).1
    refine wpAny_pyNext_enum_itemD (draws_shift D k) he ⟨i, rfl, hst⟩ (by omega) ne (fun z => ?_) fun u h1 tk hu ho hi1 hT hsz kp => ?_
    · simp only [List.mem_cons, List.not_mem_nil, or_false] at z
      rcases z with z | z
      · exact ne z
      · exact na z
    refine ⟨_, rfl, ?_⟩
    refine wpAny_letOwnedTupleGo_enum (s := { s with heap := h1, toks := tk + 1 }) ho fun h2 he2 sb => ?_
    have elt : e < s.heap.objs.size := Heap.lt_size he
    have ilt : it < s.heap.objs.size := by obtain ⟨o, q, _⟩ := obj i _ hi; exact Heap.lt_size q
    have kp2 : ∀ c o, c ∉ [e, it] → s.heap.get? c = some o → h2.get? c = some o := fun c o hm z => by
      have c1 : c ≠ e := fun q => hm (by simp [q])
      have c2 : c ≠ it := fun q => hm (by simp [q])
      exact sb.extBut c o c1 (kp c o c1 c2 z)
    obtain ⟨j, ej, hu⟩ := hu
    have ej : j = i := by omega
    subst ej
    obtain ⟨u', hu', ru⟩ := rv.get hx
    rw [hu] at hu'
    cases hu'
    have hT2 : h2.get? s.heap.objs.size = some { cls := .type "tuple", data := .seq #[.int ((j + k : Nat) : Int) tk, u] } := sb.extBut _ _ (Nat.ne_of_gt elt) hT
    have I' := I.turnedT (t' := tk + 1) (h' := h2) (T := s.heap.objs.size) (vs := [.int ((j + k : Nat) : Int), x]) kp2 hf (Nat.le_refl _) (show ObjOk X.prog X.w _ h2 _ (.tup [.int ((j + k : Nat) : Int), x]) from ⟨by show 2 ≤ sizeLine; decide, [.int ((j + k : Nat) : Int) tk, u], .cons ⟨_, rfl⟩ (.cons ru .nil), _, hT2, rfl, _, rfl⟩)
    have fresh : H s.heap.objs.size = none := I.hok.fresh (Nat.le_refl _)
    obtain ⟨j', ej', st'⟩ := hi1
    have ej' : j' = j + 1 := by omega
    subst ej'
    refine ⟨.ref s.heap.objs.size, _, I', rfl, ⟨_, rfl, fresh, fun xs' x' g1' hx' => ?_⟩, ⟨⟨u, ?_⟩, keep _ _ _ (hin _ _ st') fun o z => sb.extBut _ _ (Ne.symm ne) z⟩, fun c hm => ?_⟩
    · rw [inj X pins σ H s _ _ rfl rfl rfl I g1' g1, hx] at hx'
      cases hx'
      rfl
    · have e2 : (((j + 1 + k : Nat)) : Int) = ((j + k : Nat) : Int) + 1 := by omega
      rw [e2]
      simpa using he2
    · have h0 := (hf c hm).1
      have clt : c < s.heap.objs.size := by
        simp only [List.mem_cons, List.not_mem_nil, or_false] at hm
        rcases hm with rfl | rfl
        · exact elt
        · exact ilt
      rw [upd_ne (Nat.ne_of_lt clt)]
      exact h0
  done := by
    intro X hP hw hK hc i pins s σ H E I hf ⟨⟨old, he⟩, hi⟩ hg
    obtain ⟨xs, g1, hx⟩ := hg
    obtain ⟨its, rv, St, D, hst, hin⟩ := dr X pins σ H s xs i hP hw hK hc I g1 hi
    subst hP hw hK
    have hlen := rv.length
    obtain ⟨f0, f1, f2, f3, f4, f5⟩ := hf it (by simp)
    exact wpAny_pyNext_enum_endD (draws_shift D k) he ⟨i, by omega, hst⟩ fun h' eb => ⟨rfl, I.turned (t' := s.toks) (fun b o hb z => eb b o hb z) f0 f1 f3 f4 f5⟩
  self := fun _ _ _ _ _ ⟨⟨_, he⟩, _⟩ h => wpAny_pyIter_enum he h

section
variable {prog : Program} {w : World} {A : Around} {E : Value → Shared → Prop} {s : Shared}
open AutoSeq1 (wpAny_loadPart') in
end
section
variable {X : Cx} {elts : List Expr} {kk : Nat} {tpos : Pos}
def iEnumT (K : PySem.W.Frag) (ta : TA) : TI := fun σ H R => ta σ H fun vs H1 => ∃ a xs, vs = [.ref a] ∧ SqT K H1 a xs ∧ R (Ite' 0 fun H xs => SqT K H a xs) H1
end
/-! ### loops over it -/
section
variable {g : TG} {tb : TS} {D : Ends} {σ : St} {H : Hp}
theorem for_enum {k : Nat} {G : Hp → List V → Prop} {xs : List V} (Pv : Nat → St → Hp → Prop) (h0 : Pv 0 σ H) (hl : ∀ i σ H, i ≤ xs.length → Pv i σ H → G H xs)
    (hs : ∀ i x σ H T, xs[i]? = some x → Pv i σ H → H T = none → g (.ref T) σ (upd H T (.tup [.int ((i + k : Nat) : Int), x])) fun σ2 H2 => tb { D with nx := Pv (i + 1), ct := Pv (i + 1), bk := D.nx } σ2 H2) (hd : ∀ σ H, Pv xs.length σ H → D.nx σ H) :
    ∃ W : Nat → Nat → St → Hp → Prop, (∃ m, W 0 m σ H) ∧ ∀ i m σ H, W i m σ H →
      ((Ite' k G).stop i H ∧ D.nx σ H) ∨ ((Ite' k G).go i H ∧ ∃ N : St → Hp → Prop, (∀ σ' H', N σ' H' → ∃ m', m' < m ∧ W (i + 1) m' σ' H') ∧ ∀ x H', (Ite' k G).yld i H x H' → g x σ H' fun σ2 H2 => tb { D with nx := N, ct := N, bk := D.nx } σ2 H2) := by
  refine ⟨fun i m σ H => m = xs.length - i ∧ i ≤ xs.length ∧ Pv i σ H, ⟨xs.length, by simp, Nat.zero_le _, h0⟩, ?_⟩
  rintro i m σ H ⟨rfl, hi, p⟩
  have q := hl i σ H hi p
  by_cases hlt : i < xs.length
  · have hx : xs[i]? = some xs[i] := List.getElem?_eq_getElem hlt
    refine .inr ⟨⟨xs, _, q, hx⟩, Pv (i + 1), fun σ' H' p' => ⟨xs.length - (i + 1), by omega, rfl, hlt, p'⟩, ?_⟩
    rintro v H' ⟨T, rfl, hT, heq⟩
    have e := heq xs _ q hx
    subst e
    exact hs i _ σ H T hx p hT
  · have e : i = xs.length := by omega
    subst e
    exact .inl ⟨⟨xs, q, rfl⟩, hd σ H p⟩
end
end L2
namespace L2
open PySem PySem.Spec PyProof.Rows
/-! ### enumerate(xs, start=1) -/
section
variable {prog : Program} {w : World} {A : Around} {E : Value → Shared → Prop} {s : Shared}
theorem typeCall_enumK (a b : Value) : checkTypeCall "enumerate" ⟨[a], [("start", b)]⟩ = pure () := by kernel_rfl
theorem newCall_enumK (a b : Value) : checkBuiltinCall "enumerate.__new__" ⟨[.type "enumerate", a], [("start", b)]⟩ = pure () := by kernel_rfl
theorem args_initK (obj a b : Value) : argsOk "object.__init__" ⟨[obj, a], [("start", b)]⟩ := by first | decide +kernel | rfl | (unfold argsOk; kernel_rfl) | kernel_rfl
theorem initK_meets {T newId : String} {self a b : Value} (hl : typeLookup (.type T) "__init__" = pure (some (.builtin "object.__init__"))) (hm : Bind.madeBy (.type T) = pure (some newId)) (hne : (some newId != some "object.__new__") = true) :
    Meets (Builtin.«object.__init__» ⟨[self, a], [("start", b)]⟩) (fun _ R s => s.TypeIs self T ∧ R (.ok (.ret .none)) s) := by
  refine .of_wp fun prog w A R s hs => ?_
  obtain ⟨hT, hq⟩ := hs
  repeat (any_goals (first | wp_step | assumption))
  exact ⟨_, rfl, hq⟩
open AutoSeq1 (wpAny_loadPart') in
theorem meets_enum1 (l : Addr) (o : Obj) (its : Array Value) (n : Nat) (t : Tok) (hc : o.cls = .type "list") (hd : o.data = .seq its n) :
    Meets (Builtin.«enumerate.__new__» ⟨[.type "enumerate", .ref l], [("start", .int 1 t)]⟩) (fun _ R s => s.heap.get? l = some o ∧
      R (.ok (.ret (.ref (s.heap.push { cls := .type "list_iterator", data := .fields #[.ref l, .int 0 0] }).objs.size)))
        { s with heap := (s.heap.push { cls := .type "list_iterator", data := .fields #[.ref l, .int 0 0] }).push { cls := .type "enumerate", data := .fields #[.none, .bool false, .ref s.heap.objs.size, rawInt 1, .none, .none] } }) :=
  .of_wp fun prog w A R s h => by
    obtain ⟨hp, g, d, tk, os⟩ := s
    obtain ⟨hl, h⟩ := h
    have hsub := sub_enumerate
    have hL : Heap.IsList (Shared.heap ⟨hp, g, d, tk, os⟩) l its := ⟨o, hl, hc, n, hd⟩
    wp_walk using wpAny_loadPart' hl
    refine wpAny_stack_any fun st => wpAny_pure ?_
    split
    · rename_i c _ _ _ _ _
      cases (c == Value.type "enumerate")
      · wp_walk using wpAny_loadPart' hl, wpAny_pyIter_list hL
        exact ⟨_, rfl, h⟩
      · wp_walk using wpAny_loadPart' hl, wpAny_pyIter_list hL
        exact ⟨_, rfl, h⟩
    · wp_walk using wpAny_loadPart' hl, wpAny_pyIter_list hL
      exact ⟨_, rfl, h⟩
theorem callType_kw {T newId : String} {Bn : Builtin} {args : List Value} {kw : List (Str × Value)} {S0 : PySem.Spec} {Q : Value → Shared → Prop} (ft : TypeCalled T newId "object.__init__")
    (hct : checkTypeCall T ⟨args, kw⟩ = pure ()) (hcn : checkBuiltinCall newId ⟨.type T :: args, kw⟩ = pure ()) (hok : ∀ obj, argsOk "object.__init__" ⟨obj :: args, kw⟩) (entryN : entryFor table newId = some Bn) (gn : Meets (Bn ⟨.type T :: args, kw⟩) S0)
    (gi : ∀ obj, Meets (Builtin.«object.__init__» ⟨obj :: args, kw⟩) (fun _ R s => s.TypeIs obj T ∧ R (.ok (.ret .none)) s))
    (h : S0 A.in1 (wants (fun obj s₁ => s₁.TypeIs obj T ∧ Q obj s₁) E) s) : wpAny (model prog w) A (call (.type T) args kw) Q E s := by
  have h1 := ft.notType
  have h2 := ft.canCreate
  have h3 := ft.made
  have h4 := ft.sub
  obtain ⟨c, tl, h5⟩ := ft.mro
  refine wpAny_call (codeAny_of_tree ?_)
  change wpAny _ _ (callAny (.type T) _) _ _ _
  refine wpAny_pure ⟨Code.quiet_builtin ⟨.type T :: args, kw⟩ (by decide +kernel), codeAny_builtin F.entry_type_call ?_⟩
  rw [Around.under_plain (weight_type_call_type T args kw) (units_type_call_type T args kw)]
  repeat (any_goals (first | wp_step | assumption))
  refine codeAny_mono (codeAny_call_builtin ft.plain entryN (wpAny_of_eq hcn (gn prog w A.in1 _ s h))) fun r1 s1 z1 => ?_
  cases r1 with
  | error e => exact z1
  | ok f1 =>
    cases f1 with
    | ret obj =>
      obtain ⟨hT, hq⟩ := z1
      have h6 := ft.init.lookup
      have h7 := ft.init.bind obj
      repeat (any_goals (first | wp_step | assumption))
      refine codeAny_mono (codeAny_call_builtin ft.init.plain F.entry_object_init (ft.init.check _ _ _ _ _ _ _ _ hT (hok obj) (gi obj prog w A.in1 (wants (fun r s₂ => r = .none ∧ Q obj s₂) E) s1 ⟨hT, rfl, hq⟩))) fun r2 s2 z2 => ?_
      cases r2 with
      | error e => exact z2
      | ok f2 =>
        cases f2 with
        | ret r =>
          obtain ⟨rfl, hq⟩ := z2
          repeat (any_goals (first | wp_step | assumption))
        | _ => exact z2.elim
    | _ => exact z1.elim
theorem call_enum1 {l : Addr} {its : Array Value} {t : Tok} {Q : Value → Shared → Prop} (hL : s.heap.IsList l its)
    (h : ∀ h', IsEnum h' (s.heap.objs.size + 1) s.heap.objs.size 1 .none → h'.IsListIter s.heap.objs.size l 0 → (∀ b o, s.heap.get? b = some o → h'.get? b = some o) → Q (.ref (s.heap.objs.size + 1)) { s with heap := h' }) :
    wpAny (model prog w) A (call (.type "enumerate") [.ref l] [("start", .int 1 t)]) Q E s := by
  obtain ⟨o, hl, hc, n, hd⟩ := hL
  refine callType_kw F.called_enumerate (typeCall_enumK _ _) (newCall_enumK _ _) (fun obj => args_initK obj _ _) F.entry_enumerate_new (meets_enum1 l o its n t hc hd) (fun obj => initK_meets F.called_enumerate.init.lookup F.called_enumerate.made (by decide)) ⟨hl, ?_⟩
  have hz : (s.heap.push { cls := .type "list_iterator", data := .fields #[.ref l, .int 0 0] }).objs.size = s.heap.objs.size + 1 := Heap.size_push ..
  change _ ∧ _
  rw [hz]
  have he : IsEnum ((s.heap.push { cls := .type "list_iterator", data := .fields #[.ref l, .int 0 0] }).push { cls := .type "enumerate", data := .fields #[.none, .bool false, .ref s.heap.objs.size, rawInt 1, .none, .none] }) (s.heap.objs.size + 1) s.heap.objs.size 1 .none := by
    have z := Heap.get?_push_size (s.heap.push { cls := .type "list_iterator", data := .fields #[.ref l, .int 0 0] }) (o := { cls := .type "enumerate", data := .fields #[.none, .bool false, .ref s.heap.objs.size, rawInt 1, .none, .none] }) rfl
    rw [hz] at z
    exact z
  exact ⟨⟨_, he, rfl⟩, h _ he ⟨_, Heap.get?_push_of_some _ (Heap.get?_push_size _ rfl), rfl, rfl⟩ fun b o x => Heap.get?_push_of_some _ (Heap.get?_push_of_some _ x)⟩
end
end L2
namespace L2
open PySem PySem.Spec PyProof.Rows
section
variable {X : Cx} {elts : List Expr} {kk : Nat} {tpos : Pos}
theorem turn_enum1 {P : Program} {w : World} {K : PySem.W.Frag} {pos : Pos} {a e it : Addr} (ne : e ≠ it) (na : e ≠ a) (nt : a ≠ it) :
    Turn P w K (.Tuple elts kk pos) (Ite' 1 fun H xs => SqL K H a xs) [e, it] e (fun i h => (∃ old, IsEnum h e it ((i + 1 : Nat) : Int) old) ∧ h.IsListIter it a i) := by
  refine turn_enum ne na (fun i h ⟨o, q, _, d⟩ => ⟨o, q, fun v z => by rw [d] at z; cases z⟩) (fun i h h' ⟨o, q, r⟩ k => ⟨o, k o q, r⟩) (fun X pins σ H s xs ys hP hw hK I g1 g2 => ?_) (fun X pins σ H s xs i hP hw hK hc I g1 hi => ?_)
  · subst hP hw hK
    exact I.list_inj g1 g2
  · subst hP hw hK
    obtain ⟨its, rv, pl, hz⟩ := I.list g1
    refine ⟨its, rv, fun i h => h.IsListIter it a i ∧ h.IsList a its.toArray, by simpa using Draws.list (prog := X.prog) (w := X.w) (A := X.A.in1) (I.ok.hd hc) it a nt its.toArray, ⟨hi, pl.isList⟩, fun i h st => st.1⟩
def iEnum1 (K : PySem.W.Frag) (ta : TA) : TI := fun σ H R => ta σ H fun vs H1 => ∃ a xs, vs = [.ref a] ∧ SqL K H1 a xs ∧ R (Ite' 1 fun H xs => SqL K H a xs) H1
theorem pi_enum1 {a : Expr} {ta : TA} {p pos cp kp : Pos} {cj : Nat} (hg : Gl X "enumerate") (hm : X.mg "enumerate" = none) (ha : PA X [a] ta) (he : starEach [a] X.env = (false, eval a X.env) :: starEach [] X.env := by rfl) :
    PI X (.Tuple elts kk tpos) (.Call (.Name "enumerate" p) [a] [⟨some "start", .Constant (.int 1) cj cp, kp⟩] pos) (iEnum1 X.K ta) := by
  intro pins s σ H R I h
  refine wpAny_Call_ofName (ld_blt I hg hm boot_enumerate ?_)
  refine PySem.W.callWith_of (P := fun _ => True) (by rw [he]; rfl) (fun h _ => ⟨_, .inr (.inl rfl), PySem.W.Looks.of_pure rfl⟩) (PyProof.Rows.evalArgs_kw2 rfl (thn (ha pos pins s σ H _ I h) fun us s1 hz => ?_) he)
  obtain ⟨vs, H1, I1, r1, x, xs, e, hx, q⟩ := hz
  refine thn (pk_cons (X := X) (nm := some "start") (kpos := kp) (pe_int (X := X)) pk_nil pos pins s1 σ H1 (fun vs H2 => vs = [.int 1] ∧ H2 = H1) I1 ⟨rfl, rfl⟩) fun ws s2 hz => ⟨trivial, ?_⟩
  obtain ⟨zs, H2, I2, r2, rfl, rfl⟩ := hz
  subst e
  obtain ⟨u, rfl, ru⟩ := vals1 r1
  cases ru
  obtain ⟨u2, rfl, t2, rfl⟩ := vals1 r2
  obtain ⟨i1, _, pl, _⟩ := I2.list hx
  have l1 : x < s2.heap.objs.size := by obtain ⟨_, e, _⟩ := pl.isList; exact Heap.lt_size e
  refine call_enum1 pl.isList fun h' he hi keep => ?_
  refine wpAny_pyIter_enum he ?_
  have I3 : Inv X pins σ H2 { s2 with heap := h' } := I2.kept (t' := s2.toks) keep
  have l1' : @LT.lt Nat _ x s2.heap.objs.size := l1
  refine ⟨_, [s2.heap.objs.size + 1, s2.heap.objs.size], _, _, H2, rfl, I3, turn_enum1 (by intro z; have z' : @Eq Nat _ _ := z; omega) (by intro z; have z' : @Eq Nat _ _ := z; omega) (by intro z; have z' : @Eq Nat _ _ := z; omega), ⟨⟨_, he⟩, hi⟩, fun c hc => ?_, q⟩
  have hle : s2.heap.objs.size ≤ c := by
    simp only [List.mem_cons, List.not_mem_nil, or_false] at hc
    rcases hc with e | e <;> (have e' : @Eq Nat _ _ := e; show @LE.le Nat _ s2.heap.objs.size c; omega)
  exact I2.fpOk hle (I2.hok.fresh hle)
end
section
variable {g : TG} {tb : TS} {D : Ends} {σ : St} {H : Hp}
theorem tFor_enum1 {K : PySem.W.Frag} {ta : TA} {a : Addr} {xs : List V} (Pv : Nat → St → Hp → Prop) (ha : ∀ R : List V → Hp → Prop, R [.ref a] H → ta σ H R) (h0 : Pv 0 σ H) (hl : ∀ i σ H, i ≤ xs.length → Pv i σ H → SqL K H a xs)
    (hs : ∀ i x σ H T, xs[i]? = some x → Pv i σ H → H T = none → g (.ref T) σ (upd H T (.tup [.int ((i + 1 : Nat) : Int), x])) fun σ2 H2 => tb { D with nx := Pv (i + 1), ct := Pv (i + 1), bk := D.nx } σ2 H2) (hd : ∀ σ H, Pv xs.length σ H → D.nx σ H) : tFor (iEnum1 K ta) g tb D σ H := by
  refine ha _ ⟨a, xs, rfl, hl 0 σ H (Nat.zero_le _) h0, ?_⟩
  exact for_enum Pv h0 hl (fun i x σ H T hx p hT => hs i x σ H T hx p hT) hd
end
/-! ### range(a, b, c), c above 0 -/
section
variable {X : Cx} {tg : Expr}
/-- lo, lo + c, .., n of them -/
def Itu (lo c : Int) (n : Nat) : It := ⟨fun i _ => i < n, fun i H v H' => v = .int (lo + i * c) ∧ H' = H, fun i _ => n ≤ i⟩
def iRngU (ta : TA) : TI := fun σ H R => ta σ H fun vs H1 => ∃ i j c : Int, vs = [.int i, .int j, .int c] ∧ (-(2 ^ 60) ≤ i ∧ i < 2 ^ 60 ∧ -(2 ^ 60) ≤ j ∧ j < 2 ^ 60 ∧ 0 < c ∧ c < 2 ^ 29) ∧ R (Itu i c (Builtin.Range.rangeSize i j c).toNat) H1
end
end L2
namespace L2
open PySem PySem.Spec PyProof.Rows
/-! ### an exception that was caught by a name: a thing of the heap -/
def ExcO (a : Addr) (cls : Value) : HO := .ext fun h => ∃ o vs, h.get? a = some o ∧ o.cls = cls ∧ o.data = .fields vs
section
variable {P : Program} {w : World} {l : List Env} {H H' : Hp} {h h' h'' B : Heap} {a e : Addr} {cls : Value} {o : HO}
end
section
variable {X : Cx} {pins : List (Addr × Obj)} {σ : St} {H H' H1 : Hp} {s s1 s' : Shared}
end
/-- behind an except clause by a name: the name stands for nothing -/
def Ends.gone (D : Ends) (j : Nat) : Ends := { nx := fun σ H => D.nx (σ.set j none) H, rt := D.rt, bk := fun σ H => D.bk (σ.set j none) H, ct := fun σ H => D.ct (σ.set j none) H }
section
variable {X : Cx} {pins : List (Addr × Obj)} {σ : St} {H H' H1 : Hp} {s s1 s' : Shared} {e : Value} {D : Ends} {ts : TS} {b₀ : Stmt} {suite : List Stmt} {c n : Str} {cv : Value} {cp hpos : Pos} {j : Nat}
end
end L2
namespace L2
open PySem PySem.Spec PyProof.Rows
/-! ### try by a name; a def that is called within an except suite -/
def tTryAs (K : PySem.W.Frag) (cv : Value) (sp : Sp) (t : TA) (i j : Nat) (ts : TS) : TS := fun D σ H => t σ H fun vs H1 => sp (vs ++ []) H1 (fun v H2 => D.nx (σ.set i (some v)) H2) (fun cls _ H2 => PySem.W.exmOne K cls cv = some true ∧ ∀ a, H2 a = none → ts (D.gone j) (σ.set j (some (.ref a))) (upd H2 a (ExcO a cls)))
section
variable {g : Gx} {X : Cx} {k jj i j : Nat} {x f c n : Str} {ps : List Str} {sp : Sp} {e : Expr} {es : List Expr} {t : TA} {ts : TS} {b₀ : Stmt} {suite : List Stmt} {cv : Value} {fp px cp hpos apos cpos pos : Pos}
end
/-- room, whatever is handled -/
structure RoomM (k : Nat) (A : Around) : Prop where
  dp : A.depth + 3 * k + 5 < recursionLimit
  un : A.units + 16 * k + 200 < cLine
structure FnOkM (P : Program) (w : World) (K : PySem.W.Frag) (mg : Str → Option Value) (base : Heap) (k : Nat) (f : Addr) (fd : FuncData) (ps : List Str) (sp : Sp) : Prop where
  len : ∀ vs H Q E, sp vs H Q E → vs.length = ps.length
  run : ∀ (A : Around) (outer : List Env) (s : Shared) (H : Hp) (args : Args) (us : List Value) (vs : List V) (Q : VK) (E : XK), RoomM k A → Env0 P w K mg base A outer s H → BindsTo s fd args (ps.zip us) → Vals vs us → sp vs H Q E →
    codeAny (model P w) A (.call (.ref f) args) (CR CX0 outer P w H s Q E) s
def Gx.FnM (g : Gx) (k : Nat) (x : Str) (ps : List Str) (sp : Sp) : Prop := ∃ f fd, FnOkM g.P g.w g.K g.mg g.base k f fd ps sp ∧ Binds g.K fd ps [] ∧ PySem.W.keepIn g.K (.ref f) = true ∧ g.mg x = some (.ref f)
abbrev Gx.cxM (g : Gx) (N : List Str) (qual : Str) (st : Stmt) (f : Addr) (cdv : Value) (A : Around) (outer : List Env) (s : Shared) (H : Hp) (E : XK) : Cx := { cxOf CX0 g.P g.w g.K g.mg g.base N qual (defScope st) f cdv A outer s H E with calm := false, xe := fun _ _ => False }
def BodyM (g : Gx) (k : Nat) (N : List Str) (qual : Str) (st : Stmt) (sp : Sp) : Prop := ∀ (f : Addr) (cdv : Value) (A : Around) (outer : List Env) (s : Shared) (H : Hp) (vs : List V) (Q : VK) (E : XK), RoomM k (g.cxM N qual st f cdv A outer s H E).A → sp vs H Q E →
  ∃ t, PSs (g.cxM N qual st f cdv A outer s H E) (defBody st) t ∧ t { nx := fun _ H' => Q .non H', rt := Q } (start N vs) H
section
variable {g : Gx} {k : Nat} {x qual : Str} {st : Stmt} {N ps : List Str} {sp : Sp}
end
section
variable {g : Gx} {X : Cx} {k j : Nat} {x : Str} {ps : List Str} {sp : Sp} {e : Expr} {es : List Expr} {t : TA} {p pos : Pos}
end
end L2
namespace PySem.W
open PySem PySem.Calls PyProof.Rows Builtin Builtin.ObjectAttr Builtin.Getset_descriptor
section
variable {prog : Program} {w : World} {A : Around} {E : Value → Shared → Prop} {K : Frag} {x C : Addr} {ox : Obj} {hh : Heap} {g : Array GenState} {d : Drawn} {t : Nat} {os : OsState}
end
end PySem.W
namespace L2
open PySem PySem.Spec PyProof.Rows
/-- what the text's exception class has from its line -/
structure ExcT (K : PySem.W.Frag) (C : Addr) : Prop where
  hd : PySem.W.hasDictIn K C = true
  hm : PySem.W.mroIn K C (.type "object") = some true
  hb : PySem.W.mroIn K C (.type "BaseException") = some true
  ha : PySem.W.findIn K (.ref C) "__class__" = some (some (.builtin "object.__class__"))
  hga : PySem.W.findIn K (.ref C) "__getattribute__" = some (some (.builtin "BaseException.__getattribute__"))
  hgt : PySem.W.findIn K (.ref C) "__getattr__" = some none
section
variable {X : Cx}
/-- a class of the text, as a value -/
theorem pe_cla {g : Gx} {x : Str} {C : Addr} {pos : Pos} (h : g.mg x = some (.ref C)) (hX : X.gx = g := by rfl) (hg : Gl X x := by rfl) (hd : (x == ("__debug__" : Str)) = false := by decide) : PE X (.Name x pos) (tC (.ref C)) := by
  subst hX
  exact pe_glob hg h rfl hd
end
theorem caught_K {X : Cx} {a : Addr} : (X.caught a).K = X.K := rfl
end L2
namespace L2
open PySem PySem.Spec PyProof.Rows
theorem noattr_mk {K : PySem.W.Frag} {C : Addr} {f : Str} (h : PySem.W.findIn K (.ref C) f = some none) : NoAttr K C f := h
end L2
namespace L2
open PySem PySem.Spec PyProof.Rows
section
variable {src : List (Option Nat)} {te : TE} {σ : St} {H : Hp} {Q : VK}
end
end L2
namespace L2
open PySem PySem.Spec PyProof.Rows
section
variable {X : Cx}
end
end L2
namespace L2
open PySem PySem.Spec PyProof.Rows
section
variable {src : List (Option Nat)} {te : TE} {σ : St} {H : Hp} {Q : VK}
end
end L2
namespace L2
open PySem PySem.Spec PyProof.Rows
/-! the script itself as a list that + may read -/
def SqX (K : PySem.W.Frag) (H : Hp) (a : Addr) (xs : List V) : Prop := Rd H a (.lst xs) ∨ ∃ (its : Array Value) (n : Nat), K.lookup a = some { cls := .type "list", data := .seq its n } ∧ its.size ≤ sizeLine ∧ Vals xs its.toList
section
variable {X : Cx}
def rCatX (K : PySem.W.Frag) : R2 := fun x y H Q => ∃ l b xs zs, x = .ref l ∧ y = .ref b ∧ SqX K H l xs ∧ SqX K H b zs ∧ xs.length + zs.length ≤ sizeLine ∧ ∀ p, H p = none → Q (.ref p) (upd H p (.lst (xs ++ zs)))
end
def spTrueX (K : PySem.W.Frag) : Sp := fun vs H Q _ => ∃ (a : Addr) (ns : List Int), vs = [.ref a] ∧ SqX K H a (ns.map V.int) ∧ ns.length ≤ 63 ∧ ∀ H', Q (.bl true) H'
end L2
namespace L2
open PySem PySem.Spec PyProof.Rows
/-! defs as values: a def's name as an argument, a call of what a name of one's own holds -/
def Gx.FnV (g : Gx) (k : Nat) (f : Addr) (ps : List Str) (sp : Sp) : Prop := ∃ fd, FnOk g.P g.w g.K g.mg g.base CX0 k f fd ps sp ∧ Binds g.K fd ps [] ∧ PySem.W.keepIn g.K (.ref f) = true
def tFn (g : Gx) (k : Nat) (ps : List Str) (sp : Sp) : TE := fun _ H Q => ∀ f, g.FnV k f ps sp → Q (.ref f) H
def tCallV (g : Gx) (k i : Nat) (t : TA) : TE := fun σ H Q => ∃ f ps sp, σ[i]? = some (some (.ref f)) ∧ g.FnV k f ps sp ∧ t σ H fun vs H1 => sp vs H1 Q E0
section
variable {X : Cx} {g : Gx} {k j i : Nat} {x : Str} {ps : List Str} {sp : Sp} {p pos : Pos} {e : Expr} {es : List Expr} {t : TA}
end
/-! the arguments of a call, one by one: for tuples and lists, said once (by rfl at the place it costs minutes) -/
theorem star_tup (es : List Expr) (x : Nat) (p : Pos) (es' : List Expr) (env : Env) : starEach (.Tuple es x p :: es') env = (false, eval (.Tuple es x p) env) :: starEach es' env := rfl
theorem star_lst (es : List Expr) (p : Pos) (es' : List Expr) (env : Env) : starEach (.List es p :: es') env = (false, eval (.List es p) env) :: starEach es' env := rfl
end L2
namespace L2
open PySem PySem.Spec PyProof.Rows
/-! isinstance(x, (T, U)); comprehensions over the pairs of two lists, two tuples, either -/
section
variable {X : Cx} {pins : List (Addr × Obj)} {σ : St} {H : Hp} {s : Shared} {A : Around} {E Q : Value → Shared → Prop}
end
section
variable {X : Cx}
end
section
variable {src : List (Option Nat)} {te : TE} {σ : St} {Q : VK}
variable {X : Cx} {H : Hp}
/-- an iteration over either of two kinds -/
def iOr (a b : TI) : TI := fun σ H R => a σ H R ∨ b σ H R
end
end L2
namespace L2
open PySem PySem.Spec PyProof.Rows
/-! ### < of data: ints and tuples of them, to any depth -/
mutual
/-- d < e, of which this is the answer -/
inductive LtR : PyData → PyData → Bool → Prop
  | int (i j : Int) : LtR (.int i) (.int j) (decide (i < j))
  | tup {ds es : List PyData} {b : Bool} : LtA ds es b → LtR (.tuple ds) (.tuple es) b
inductive LtA : List PyData → List PyData → Bool → Prop
  | nn : LtA [] [] false
  | nc {e : PyData} {es : List PyData} : LtA [] (e :: es) true
  | cn {d : PyData} {ds : List PyData} : LtA (d :: ds) [] false
  | eq {d e : PyData} {ds es : List PyData} {b : Bool} : PyData.eqv d e = true → LtA ds es b → LtA (d :: ds) (e :: es) b
  | ne {d e : PyData} {ds es : List PyData} {b : Bool} : PyData.eqv d e = false → LtR d e b → LtA (d :: ds) (e :: es) b
end
def LtAt (A : Around) (s : Shared) (u v : Value) (b : Bool) : Prop := ∀ (prog : Program) (w : World) (E : Value → Shared → Prop) (Q : Value → Shared → Prop), Q (.bool b) s → wpAny (model prog w) A (richCompare .Lt u v) Q E s
section
open PySem.SeqAt
open PySem.AutoSeq1 (wpAny_loadPart')
open PySem.MeetsSeq PySem.MeetsSeq2 PySem.MeetsSeq3
/-- pairs of items: equal by the data, or comparable -/
inductive Two (A : Around) (s : Shared) : List Value → List Value → Bool → Prop
  | nn : Two A s [] [] false
  | nc {v : Value} {vs : List Value} : Two A s [] (v :: vs) true
  | cn {v : Value} {vs : List Value} : Two A s (v :: vs) [] false
  | eq {u v : Value} {us vs : List Value} {b : Bool} : EqAt A s u v true → Two A s us vs b → Two A s (u :: us) (v :: vs) b
  | ne {u v : Value} {us vs : List Value} {b : Bool} : EqAt A s u v false → LtAt A s u v b → Two A s (u :: us) (v :: vs) b
variable {X : Cx}
end
end L2
namespace L2
open PySem PySem.Spec PyProof.Rows
/-! ### <= of data: ints and tuples of them, to any depth -/
mutual
/-- d <= e, of which this is the answer -/
inductive LeR : PyData → PyData → Bool → Prop
  | int (i j : Int) : LeR (.int i) (.int j) (decide (i ≤ j))
  | tup {ds es : List PyData} {b : Bool} : LeA ds es b → LeR (.tuple ds) (.tuple es) b
inductive LeA : List PyData → List PyData → Bool → Prop
  | nn : LeA [] [] true
  | nc {e : PyData} {es : List PyData} : LeA [] (e :: es) true
  | cn {d : PyData} {ds : List PyData} : LeA (d :: ds) [] false
  | eq {d e : PyData} {ds es : List PyData} {b : Bool} : PyData.eqv d e = true → LeA ds es b → LeA (d :: ds) (e :: es) b
  | ne {d e : PyData} {ds es : List PyData} {b : Bool} : PyData.eqv d e = false → LeR d e b → LeA (d :: ds) (e :: es) b
end
def LeAt (A : Around) (s : Shared) (u v : Value) (b : Bool) : Prop := ∀ (prog : Program) (w : World) (E : Value → Shared → Prop) (Q : Value → Shared → Prop), Q (.bool b) s → wpAny (model prog w) A (richCompare .LtE u v) Q E s
section
open PySem.SeqAt
open PySem.AutoSeq1 (wpAny_loadPart')
open PySem.MeetsSeq PySem.MeetsSeq2 PySem.MeetsSeq3
/-- pairs of items: equal by the data, or comparable -/
inductive TwoE (A : Around) (s : Shared) : List Value → List Value → Bool → Prop
  | nn : TwoE A s [] [] true
  | nc {v : Value} {vs : List Value} : TwoE A s [] (v :: vs) true
  | cn {v : Value} {vs : List Value} : TwoE A s (v :: vs) [] false
  | eq {u v : Value} {us vs : List Value} {b : Bool} : EqAt A s u v true → TwoE A s us vs b → TwoE A s (u :: us) (v :: vs) b
  | ne {u v : Value} {us vs : List Value} {b : Bool} : EqAt A s u v false → LeAt A s u v b → TwoE A s (u :: us) (v :: vs) b
variable {X : Cx}
variable {K : PySem.W.Frag}
end
end L2
namespace L2
open PySem
/-! keys: ints and tuples of keys; their order -/
mutual
inductive KD : PyData → Prop
  | int (i : Int) : KD (.int i)
  | tup {ds : List PyData} : KDs ds → KD (.tuple ds)
inductive KDs : List PyData → Prop
  | nil : KDs []
  | cons {d : PyData} {ds : List PyData} : KD d → KDs ds → KDs (d :: ds)
end
mutual
/-- the order of keys, ints ahead of tuples -/
inductive KLt : PyData → PyData → Prop
  | int {i j : Int} : i < j → KLt (.int i) (.int j)
  | mix {i : Int} {ds : List PyData} : KLt (.int i) (.tuple ds)
  | tup {ds es : List PyData} : KLs ds es → KLt (.tuple ds) (.tuple es)
inductive KLs : List PyData → List PyData → Prop
  | nil {e : PyData} {es : List PyData} : KLs [] (e :: es)
  | here {d e : PyData} {ds es : List PyData} : KLt d e → KLs (d :: ds) (e :: es)
  | there {d : PyData} {ds es : List PyData} : KLs ds es → KLs (d :: ds) (d :: es)
end
/-! where < answers, it answers by the order -/
/-! two keys that < can be asked of: of one make where they first differ -/
mutual
inductive Sim : PyData → PyData → Prop
  | int (i j : Int) : Sim (.int i) (.int j)
  | tup {ds es : List PyData} : Sims ds es → Sim (.tuple ds) (.tuple es)
inductive Sims : List PyData → List PyData → Prop
  | nil {es : List PyData} : Sims [] es
  | end_ {ds : List PyData} : Sims ds []
  | cons {d e : PyData} {ds es : List PyData} : Sim d e → (d = e → Sims ds es) → Sims (d :: ds) (e :: es)
end
end L2
namespace L2
open PySem
section
variable {src : List (Option Nat)} {te : TE} {σ : St} {H : Hp} {Q : VK}
end
end L2
namespace L2
open PySem
/-! values with the lists that stand in them, in their order -/
mutual
inductive VL (H : Hp) : V → PyData → List Addr → Prop
  | int (i : Int) : VL H (.int i) (.int i) []
  | str (x : Str) (h : PyData.strOk x = true) : VL H (.str x) (.str x) []
  | lst {a : Addr} {vs : List V} {ds : List PyData} {L : List Addr} : H a = some (.lst vs) → vs.length ≤ 10000 → VLs H vs ds L → VL H (.ref a) (.list ds) (a :: L)
  | tup {a : Addr} {vs : List V} {ds : List PyData} {L : List Addr} : H a = some (.tup vs) → vs.length ≤ 10000 → VLs H vs ds L → VL H (.ref a) (.tuple ds) L
inductive VLs (H : Hp) : List V → List PyData → List Addr → Prop
  | nil : VLs H [] [] []
  | cons {v : V} {d : PyData} {L : List Addr} {vs : List V} {ds : List PyData} {L' : List Addr} : VL H v d L → VLs H vs ds L' → VLs H (v :: vs) (d :: ds) (L ++ L')
end
/-- tuples stay -/
def Tps (H H' : Hp) : Prop := ∀ a vs, H a = some (.tup vs) → H' a = some (.tup vs)
/-- its lists are all new, each but once -/
structure Own (H0 H : Hp) (v : V) (d : PyData) (L : List Addr) : Prop where
  vl : VL H v d L
  nd : L.Nodup
  new : ∀ a ∈ L, H0 a = none
structure Owns (H0 H : Hp) (vs : List V) (ds : List PyData) (L : List Addr) : Prop where
  vl : VLs H vs ds L
  nd : L.Nodup
  new : ∀ a ∈ L, H0 a = none
section
variable {src : List (Option Nat)} {te : TE} {σ : St} {H : Hp} {Q : VK}
/-- so many turns of range(0, n, c) -/
def UpTo (n c m : Nat) : Prop := (∀ i, i < m → i * c < n) ∧ n ≤ m * c
/-- what is left of a list by the places -/
def sel (p : Nat → Bool) (ds : List PyData) (n : Nat) : List PyData := ((List.range n).filter p).filterMap (ds[·]?)
end
end L2
namespace L2
open PySem PySem.Spec PyProof.Rows
section
variable {X : Cx} {pos : Pos}
def rStarts : V → List V → Hp → VK → Prop := fun x vs H Q => ∃ (z y : Str), x = .str z ∧ vs = [.str y] ∧ Q (.bl (Txt.startswith z y)) H
end
/-- the signs of a number's text -/
def dg (i : Int) : List Nat := (Str.ofString (toString i)).cps.toList
end L2
namespace L2
open PySem
section
variable {src : List (Option Nat)} {te : TE} {σ : St} {H : Hp} {Q : VK}
/-- a comprehension over range(n) with a promise of its own, that need not keep the heap -/
theorem tLC_rangeI {ta : TA} {n : Nat} (I : Addr → Nat → List V → Hp → Prop) (ha : ∀ R : List V → Hp → Prop, R [.int n] H → ta σ H R) (hlen : n ≤ 100000)
    (i0 : ∀ D, H D = none → I D 0 [] (upd H D (.lst []))) (dl : ∀ D i zs H', I D i zs H' → zs.length = i ∧ H' D = some (.lst zs))
    (step : ∀ D (i : Nat) zs H', H D = none → i < n → I D i zs H' → ∀ R : VK, (∀ y H'', H'' D = some (.lst zs) → I D (i + 1) (zs ++ [y]) (upd H'' D (.lst (zs ++ [y]))) → R y H'') → te (some (.int i) :: capSt src σ) H' R)
    (fin : ∀ D zs H', H D = none → I D n zs H' → Q (.ref D) H') : tLC (none :: src) (iRng1 ta) (gName 0) tYes te σ H Q := by
  refine ha _ ⟨n, rfl, by omega, by omega, fun D hD => ?_⟩
  have h6 : 100000 < sizeLine := by decide
  refine lc_on (itseq_range (lo := 0) (n := n) (P := fun _ => True)) (fun i zs σ' H' => (∃ o, σ' = o :: capSt src σ) ∧ i ≤ n ∧ I D i zs H') ⟨⟨none, rfl⟩, Nat.zero_le _, i0 D hD⟩ (fun i zs σ' H' q => ⟨trivial, (dl _ _ _ _ q.2.2).2⟩) (gName_mono 0) ?_ ?_
  · rintro i zs σ' H' x hx ⟨⟨o, rfl⟩, _, hI⟩
    have hi : i < n := by have := (List.getElem?_eq_some_iff.mp hx).1; simpa using this
    rw [List.getElem?_map, List.getElem?_range hi] at hx
    have e : V.int (0 + (i : Int)) = x := Option.some.inj hx
    rw [Int.zero_add] at e
    subst e
    have hl := (dl _ _ _ _ hI).1
    show te (some (.int i) :: capSt src σ) H' _
    exact step D i zs H' hD hi hI _ fun y H'' hd hI' => ⟨hd, by omega, ⟨_, rfl⟩, hi, hI'⟩
  · rintro zs σ' H' ⟨_, _, hI⟩
    exact fin D zs H' hD (by simpa using hI)
end
end L2
namespace L2
open PySem PySem.Spec PyProof.Rows
/-! ### methods that may raise -/
def Gx.MeX (g : Gx) (k : Nat) (C : Addr) (m : Str) (ps : List Str) (sp : Sp) : Prop := ∃ f fd, FnOk g.P g.w g.K g.mg g.base (CXF g.P g.w) k f fd ps sp ∧ Binds g.K fd ps [] ∧ Meth g.K C m f
section
variable {g : Gx} {k : Nat} {x qual m : Str} {st : Stmt} {N ps : List Str} {sp : Sp} {C : Addr}
end
section
variable {g : Gx} {X : Cx} {k j : Nat} {x m : Str} {ps : List Str} {sp : Sp} {E : XK} {C : Addr} {e o : Expr} {es : List Expr} {t : TA} {ta : TE} {p pos apos : Pos}
end
/-- an expression that is never reached -/
def tNo : TE := fun _ _ _ => False
/-! ### try: f(..) except C as e: suite -/
def tTryE (K : PySem.W.Frag) (cv : Value) (sp : Sp) (t : TA) (j : Nat) (ts : TS) : TS := fun D σ H => t σ H fun vs H1 => sp (vs ++ []) H1 (fun v H2 => D.nx σ H2) (fun cls _ H2 => PySem.W.exmOne K cls cv = some true ∧ ∀ a, H2 a = none → ts (D.gone j) (σ.set j (some (.ref a))) (upd H2 a (ExcO a cls)))
section
variable {g : Gx} {X : Cx} {k jj j : Nat} {f c n : Str} {ps : List Str} {sp : Sp} {e : Expr} {es : List Expr} {t : TA} {ts : TS} {b₀ : Stmt} {suite : List Stmt} {cv : Value} {fp cp hpos apos cpos pos : Pos}
end
end L2
namespace L2
open PySem PySem.Spec PyProof.Rows
/-! ### sets of texts: set(text), set(list of texts), len of it -/
def addOnce (l : List Str) (v : Str) : List Str := if l.any (· == v) then l else l ++ [v]
def met (val : Nat → Str) (i : Nat) : List Str := ((List.range i).map val).foldl addOnce []
section
variable {prog : Program} {w : World} {A : Around} {R : Result → Shared → Prop} {I : Addr} {fp wr : List Addr} {G : Array GenState → Array GenState → Prop} {n : Nat} {P : Nat → Value → Prop} {St : Nat → Shared → Prop}
end
end L2
namespace L2
open PySem PySem.Spec PyProof.Rows
def sg (x : Str) (i : Nat) : Str := ⟨#[x.cps.getD i 0]⟩
section
variable {prog : Program} {w : World} {A : Around} {E : Value → Shared → Prop} {s : Shared}
end
/-- a set, so many in it -/
def SetO (a : Addr) (n : Nat) : HO := .ext fun h => ∃ (o : Obj) (es : Array (Int × Value)) (ep : Nat) (t : SetTable), h.get? a = some o ∧ o.ExactSet ∧ o.data = .set es ep t ∧ t.fits es.size = true ∧ es.size = n ∧ n < scanBound
section
variable {X : Cx}
end
end L2
namespace L2
open PySem PySem.Spec PyProof.Rows
/-- a test that is never reached -/
def tNoT : TT := fun _ _ _ => False
section
variable {X : Cx}
end
end L2
namespace L2
open PySem PySem.Spec PyProof.Rows
/-! ### x.split(one sign) -/
section
variable {X : Cx}
def rSplit : V → List V → Hp → VK → Prop := fun x vs H Q => ∃ (z : Str) (c : Nat), x = .str z ∧ vs = [.str ⟨#[c]⟩] ∧ z.length ≤ 100000 ∧ ∀ l, H l = none → Q (.ref l) (upd H l (.lst ((Txt.split z ⟨#[c]⟩).map V.str)))
end
end L2
namespace L2
open PySem PySem.Spec PyProof.Rows
section
variable {X : Cx}
end
end L2
namespace L2
open PySem PySem.Spec PyProof.Rows
/-! ### xs[k::step], and defs asked of a class by its name -/
section
variable {X : Cx} {e lo st : Expr} {te tl ts : TE} {pos p2 : Pos}
/-- xs[k::step] of a list, k not below 0, step above it: a new list of some of its things -/
def tSlStep (K : PySem.W.Frag) (te tl ts : TE) : TE := fun σ H Q => te σ H fun x H1 => tl σ H1 fun y H2 => ts σ H2 fun z H3 =>
  ∃ (a : Addr) (xs : List V) (k n : Int), x = .ref a ∧ y = .int k ∧ z = .int n ∧ 0 ≤ k ∧ 0 < n ∧ SqL K H3 a xs ∧ ∀ p ys, H3 p = none → (∀ v ∈ ys, v ∈ xs) → ys.length ≤ xs.length → Q (.ref p) (upd H3 p (.lst ys))
end
/-- what a class has from its line, to be asked for a def by its own name -/
structure ClsFn (K : PySem.W.Frag) (B : Addr) (m : Str) (f : Addr) : Prop where
  ga : PySem.W.specialIn K (.ref B) "__getattribute__" = some (some (.builtin "type.__getattribute__"))
  rd : PySem.W.readsIn K B (.type "type") = true
  at_ : PySem.W.findCls K (.ref B) (.type "type") m = some (.val (.ref f))
  kp : PySem.W.keepIn K (.ref f) = true
/-- the def m of the class at B, which the text calls x -/
def Gx.Cf (g : Gx) (k : Nat) (x m : Str) (ps : List Str) (sp : Sp) : Prop := ∃ B f fd, FnOk g.P g.w g.K g.mg g.base CX0 k f fd ps sp ∧ Binds g.K fd ps [] ∧ ClsFn g.K B m f ∧ g.mg x = some (.ref B)
def Gx.RawC (g : Gx) (x m qual : Str) (st : Stmt) (ps : List Str) : Prop := ∃ B f fd, Fun g.K m qual st f fd ∧ Binds g.K fd ps [] ∧ ClsFn g.K B m f ∧ g.mg x = some (.ref B)
theorem Gx.Cf.mono {g : Gx} {j k : Nat} {x m : Str} {ps : List Str} {sp : Sp} (F : g.Cf j x m ps sp) (h : j ≤ k) : g.Cf k x m ps sp := by
  obtain ⟨B, f, fd, F, r⟩ := F
  exact ⟨B, f, fd, F.mono h, r⟩
section
variable {g : Gx} {X : Cx} {k j : Nat} {x m : Str} {ps : List Str} {sp : Sp} {e : Expr} {es : List Expr} {t : TA} {p pos apos : Pos}
/-- C.m(e, ..) -/
theorem pe_cf {pl : Sem Bool} (F : g.Cf j x m ps sp) (hr : Room k X.A) (ha : PA X (e :: es) t) (hj : j ≤ k := by omega) (hX : X.gx = g := by rfl) (hg : Gl X x := by rfl) (hdb : (x == ("__debug__" : Str)) = false := by decide)
    (hst : starEach (e :: es) X.env = (false, eval e X.env) :: starEach es X.env := by rfl) (hpl : (backTo pos (starEach es X.env)).any (·.1) = false := by rfl)
    (ht : eval (.Call (.Attribute (.Name x p) m apos) (e :: es) [] pos) X.env = (do
      let ov ← eval (.Name x p) X.env
      standAt apos.atName
      let (f, first) ← holding [ov] (getMethod ov m pl)
      callWith pos f first (backTo pos (starEach (e :: es) X.env)) (backToKw pos (keywordEach [] X.env))) := by rfl) : PE X (.Call (.Attribute (.Name x p) m apos) (e :: es) [] pos) (tCall sp [] E0 t) := by
  subst hX
  obtain ⟨B, f, fd, F, b, c, hm⟩ := F
  intro pins s σ H Q I h
  refine PySem.W.methodCall_KW (pl := pl) (thn (pe_cla (g := X.gx) (pos := p) hm rfl hg hdb pins s σ H (fun v H1 => v = .ref B ∧ H1 = H) I ⟨rfl, rfl⟩) fun u s1 ⟨v, H1, I1, rv, e1, e2⟩ => ?_) ht
  subst e1 e2
  obtain rfl : u = Value.ref B := rv
  refine PySem.W.method_cls I1.kIn c.ga (PySem.W.cls_value I1.kIn c.rd c.at_ rfl ?_)
  have I2 := I1.tok (s1.toks + 1)
  refine PySem.W.callWith_K (h₀ := X.base) I.ok.mod.kin c.kp (thn (ha pos pins _ σ H1 _ I2 h) fun us s2 ⟨vs, H2, I3, r, q2⟩ => ⟨I3.kIn, ?_⟩) hst hpl
  exact run_fn (dvs := []) (ds := []) F (hr.mono hj) b .nil pass0 I3 r q2
end
end L2
namespace L2
open PySem PySem.Spec PyProof.Rows
/-- y not in d, y in d, of a dict -/
def rNotInD : R2 := fun y x H Q => ∃ a o, x = .ref a ∧ DGet H a y o ∧ Q (.bl (!o.isSome)) H
def rInD : R2 := fun y x H Q => ∃ a o, x = .ref a ∧ DGet H a y o ∧ Q (.bl o.isSome) H
section
variable {X : Cx}
end
section
variable {K : PySem.W.Frag} {h : Heap} {mg : Str → Option Value} {P : Program} {w : World} {base : Heap} {f B : Addr} {x qual m : Str} {st : Stmt} {ps N : List Str} {oc kV dc pm cd ct : Value} {od an : Option Addr} {sl : Array (Option Value)} {g : Gx} {k : Nat} {sp : Sp}
theorem Gx.RawC.cf (R : g.RawC x m qual st ps) (S : FnScope N ps (defScope st)) (len : ∀ vs H Q E, sp vs H Q E → vs.length = ps.length) (b : Body g k N qual st sp) : g.Cf (k + 1) x m ps sp := by
  obtain ⟨B, f, fd, F, bd, c, hm⟩ := R
  exact ⟨B, f, fd, F.ok S len fun cdv A outer s H vs Q E hr h => b f cdv A outer s H vs Q E hr h, bd, c, hm⟩
theorem rawC_mk (X : K.In h) (G : h.Ns mainGlobals mg) (ps : List Str) (aB : PySem.W.nsIn K mainGlobals x = some (some (.ref B))) (ga : PySem.W.specialIn K (.ref B) "__getattribute__" = some (some (.builtin "type.__getattribute__")))
    (rd : PySem.W.readsIn K B (.type "type") = true) (a : PySem.W.findCls K (.ref B) (.type "type") m = some (.val (.ref f)))
    (l : K.lookup f = some ⟨oc, od, .func (PySem.W.fnOf m qual (defArgs st) (defBody st) (defScope st) .none kV dc pm an cd ct), sl⟩) (c : PySem.W.codeIn K cd qual = true) (k : PySem.W.keepIn K (.ref f) = true)
    (b : ∀ (kV doc pm : Value) (an : Option Addr) (cdv ct : Value) (us : List Value), us.length = ps.length → bindArgs (PySem.W.fnOf m qual (defArgs st) (defBody st) (defScope st) .none kV doc pm an cdv ct) ⟨us, []⟩ = pure (ps.zip us)) :
    ∀ P w base, (Gx.mk P w K mg base).RawC x m qual st ps := fun P w base =>
  have F := fun_mk (st := st) l c k
  ⟨B, f, _, F, F.binds b, ⟨ga, rd, a, k⟩, PySem.W.mg_of X G aB⟩
end
end L2
namespace L2
/-- one reading or the other: an expression whose object is of one class or of another -/
def tEither (a b : TE) : TE := fun σ H Q => a σ H Q ∨ b σ H Q
end L2
namespace L2
open PySem PySem.Spec PyProof.Rows
section
variable {g : TG} {tb : TS} {D : Ends} {σ : St} {H : Hp}
/-- for i, x in enumerate(xs), a list -/
theorem tFor_enumL {K : PySem.W.Frag} {ta : TA} {a : Addr} {xs : List V} (Pv : Nat → St → Hp → Prop) (ha : ∀ R : List V → Hp → Prop, R [.ref a] H → ta σ H R) (h0 : Pv 0 σ H) (hl : ∀ i σ H, i ≤ xs.length → Pv i σ H → SqL K H a xs)
    (hs : ∀ i x σ H T, xs[i]? = some x → Pv i σ H → H T = none → g (.ref T) σ (upd H T (.tup [.int (i : Int), x])) fun σ2 H2 => tb { D with nx := Pv (i + 1), ct := Pv (i + 1), bk := D.nx } σ2 H2) (hd : ∀ σ H, Pv xs.length σ H → D.nx σ H) : tFor (iEnumL K ta) g tb D σ H := by
  refine ha _ ⟨a, xs, rfl, hl 0 σ H (Nat.zero_le _) h0, ?_⟩
  refine ⟨fun i m σ H => m = xs.length - i ∧ i ≤ xs.length ∧ Pv i σ H, ⟨xs.length, by simp, Nat.zero_le _, h0⟩, ?_⟩
  rintro i m σ H ⟨rfl, hi, p⟩
  have q := hl i σ H hi p
  by_cases hlt : i < xs.length
  · have hx : xs[i]? = some xs[i] := List.getElem?_eq_getElem hlt
    refine .inr ⟨⟨xs, _, q, hx⟩, Pv (i + 1), fun σ' H' p' => ⟨xs.length - (i + 1), by omega, rfl, hlt, p'⟩, ?_⟩
    rintro v H' ⟨T, rfl, hT, heq⟩
    have e := heq xs _ q hx
    subst e
    exact hs i _ σ H T hx p hT
  · have e : i = xs.length := by omega
    subst e
    exact .inl ⟨⟨xs, q, Nat.le_refl _⟩, hd σ H p⟩
end
/-! ### data without lists: it stays as long as tuples stay -/
def V0s (H : Hp) (us : List V) (ds : List PyData) : Prop := us.length = ds.length ∧ ∀ (i : Nat) u d, us[i]? = some u → ds[i]? = some d → VL H u d []
end L2
namespace L2
open PySem
end L2
namespace L2
open PySem
end L2
namespace L2
open PySem PySem.Spec PyProof.Rows
/-- zip of a list and a tuple -/
def iZipM (K : PySem.W.Frag) (ta : TA) : TI := fun σ H R => ta σ H fun vs H1 => ∃ a b xs ys, vs = [.ref a, .ref b] ∧ SqL K H1 a xs ∧ SqT K H1 b ys ∧ R (Itz (fun H xs => SqL K H a xs) (fun H ys => SqT K H b ys)) H1
section
variable {X : Cx} {elts : List Expr} {kk : Nat} {tpos : Pos}
end
section
variable {tb : TS} {D : Ends} {σ : St} {H : Hp}
end
end L2
namespace L2
open PySem
end L2
namespace L2
open PySem PySem.Spec PyProof.Rows
/-! closures: a function object of the heap, the code object it has, the cells it holds -/
abbrev FnO (f : Addr) (fd : FuncData) : HO := .ext fun h => h.get? f = some { cls := .type "function", data := .func fd }
abbrev CdO (c : Addr) (q : Str) : HO := .ext fun h => h.CodeRec (.ref c) q
abbrev CellO (c : Addr) (v : V) : HO := .ext fun h => ∃ u, RelV v u ∧ h.IsCell c (some u)
section
variable {P : Program} {w : World} {H H' : Hp} {h h' : Heap}
theorem fnO_mk {f : Addr} {fd : FuncData} (e : h.get? f = some { cls := .type "function", data := .func fd }) : ObjOk P w H h f (FnO f fd) := ⟨e, ⟨_, e⟩, fun _ _ p k => k _ p⟩
theorem cdO_mk {c : Addr} {q : Str} (e : h.CodeRec (.ref c) q) : ObjOk P w H h c (CdO c q) := by
  obtain ⟨c', o, vs, t, e1, e2, e3⟩ := id e
  cases e1
  refine ⟨e, ⟨_, e2⟩, fun h1 h2 p k => ?_⟩
  obtain ⟨c', o, vs, t, e1, e2, e3⟩ := p
  cases e1
  exact ⟨c, o, vs, t, rfl, k _ e2, e3⟩
theorem cellO_mk {c : Addr} {v : V} {u : Value} (r : RelV v u) (e : h.IsCell c (some u)) : ObjOk P w H h c (CellO c v) := by
  obtain ⟨o, e1, e2⟩ := id e
  refine ⟨⟨u, r, e⟩, ⟨_, e1⟩, fun h1 h2 p k => ?_⟩
  obtain ⟨u, r, o, e1, e2⟩ := p
  exact ⟨u, r, o, k _ e1, e2⟩
/-- what was there untracked is tracked -/
theorem HOk.track {c : Addr} {o : HO} (x : HOk P w H h) (hn : H c = none) (new : ObjOk P w (upd H c o) h c o) : HOk P w (upd H c o) h := fun b u e => by
  by_cases hb : b = c
  · subst hb; rw [upd_same] at e; cases e; exact new
  · rw [upd_ne hb] at e
    exact (x b u e).stay (fun _ _ _ q => q) (fun d q => by rw [upd_ne (ne_of_none q hn)]; exact q) fun d xs q => by rw [upd_ne (ne_of_none q hn)]; exact q
end
/-! cells out of sight, and back -/
def off (H : Hp) (cs : List Addr) : Hp := fun b => if b ∈ cs then none else H b
def on (H' H : Hp) (cs : List Addr) : Hp := fun b => if b ∈ cs then H b else H' b
section
variable {H H' : Hp} {cs : List Addr} {b : Addr} {o : HO}
theorem off_in (h : b ∈ cs) : off H cs b = none := if_pos h
theorem off_out (h : b ∉ cs) : off H cs b = H b := if_neg h
theorem on_in (h : b ∈ cs) : on H' H cs b = H b := if_pos h
theorem on_out (h : b ∉ cs) : on H' H cs b = H' b := if_neg h
theorem off_none (h : H b = none) : off H cs b = none := by unfold off; split <;> first | rfl | exact h
theorem of_off (h : off H cs b = some o) : H b = some o ∧ b ∉ cs := by
  by_cases hb : b ∈ cs
  · rw [off_in hb] at h; cases h
  · rw [off_out hb] at h; exact ⟨h, hb⟩
end
/-- the cells that are held: their names, addresses, values -/
abbrev Caps := List (Str × Addr × V)
def Caps.cl (l : Caps) : List (Str × Addr) := l.map fun p => (p.1, p.2.1)
def Caps.as (l : Caps) : List Addr := l.map fun p => p.2.1
def Caps.vs (l : Caps) : List V := l.map fun p => p.2.2
def Caps.In (l : Caps) (H : Hp) : Prop := ∀ p ∈ l, H p.2.1 = some (CellO p.2.1 p.2.2)
section
variable {l : Caps} {H : Hp}
theorem cap_mem {c : Addr} (h : c ∈ l.as) : ∃ p ∈ l, p.2.1 = c := by
  obtain ⟨p, hp, e⟩ := List.mem_map.mp h
  exact ⟨p, hp, e⟩
theorem cap_lookup : ∀ {l : Caps} {x : Str} {c : Addr}, l.cl.lookup x = some c → ∃ p ∈ l, p.1 = x ∧ p.2.1 = c
  | p :: l, x, c, h => by
    rw [Caps.cl, List.map_cons, List.lookup_cons] at h
    cases hb : x == p.1 with
    | true => rw [hb] at h; exact ⟨p, .head _, (eq_of_beq hb).symm, Option.some.inj h⟩
    | false =>
      rw [hb] at h
      obtain ⟨q, h1, h2⟩ := cap_lookup (l := l) h
      exact ⟨q, .tail _ h1, h2⟩
theorem cap_lk : ∀ {l : Caps}, (l.map (·.1)).Nodup → ∀ p ∈ l, l.cl.lookup p.1 = some p.2.1
  | a :: q, nd, p, hp => by
    rw [List.map_cons, List.nodup_cons] at nd
    rw [Caps.cl, List.map_cons, List.lookup_cons]
    rcases List.mem_cons.mp hp with rfl | hp
    · simp
    · have : (p.1 == a.1) = false := by
        rw [beq_eq_false_iff_ne]
        intro z
        exact nd.1 (z ▸ List.mem_map_of_mem hp)
      rw [this]
      exact cap_lk nd.2 p hp
theorem off_tup {b : Addr} {xs : List V} (hl : l.In H) (h : H b = some (.tup xs)) : off H l.as b = some (.tup xs) := by
  rw [off_out fun hb => ?_]
  · exact h
  · obtain ⟨p, hp, rfl⟩ := cap_mem hb
    rw [hl p hp] at h; cases h
theorem off_get {b : Addr} {o : HO} (hl : l.In H) (h : H b = some o) (ho : ∀ φ, o ≠ .ext φ) : off H l.as b = some o := by
  rw [off_out fun hb => ?_]
  · exact h
  · obtain ⟨p, hp, rfl⟩ := cap_mem hb
    rw [hl p hp] at h
    exact ho _ (Option.some.inj h).symm
theorem off_hok {P : Program} {w : World} {h : Heap} (hl : l.In H) (x : HOk P w H h) : HOk P w (off H l.as) h := fun b o e => by
  obtain ⟨e1, e2⟩ := of_off e
  refine (x b o e1).stay (fun _ _ _ q => q) (fun c q => off_get hl q fun φ z => by cases z) fun c xs q => off_tup hl q
end
/-- the context of a closure's body -/
def cxCl (P : Program) (w : World) (K : PySem.W.Frag) (mg : Str → Option Value) (base : Heap) (N : List Str) (qual : Str) (scope : Scope) (f : Addr) (cd : Value) (cl : List (Str × Addr)) (A : Around) (outer : List Env) (s : Shared) (H : Hp) : Cx where
  prog := P
  w := w
  K := K
  mg := mg
  base := base
  A := A.deeper (PySem.W.envX qual scope s.heap.objs.size f cd cl)
  N := N
  s₀ := s
  H₀ := H
  env := PySem.W.envX qual scope s.heap.objs.size f cd cl
  outer := outer
  stack := PySem.W.envX qual scope s.heap.objs.size f cd cl :: outer
  ex := []
  calm := true
  fn := fun _ => false
  pn := []
  xe := fun _ _ => False
/-- names: parameters, further ones, captured ones -/
structure ClScope (N ps : List Str) (l : List Str) (sc : Scope) : Prop where
  kind : sc.kind = .function
  co : sc.isCoroutine = false
  gen : sc.isGenerator = false
  nd : N.Nodup
  pre : N.take ps.length = ps
  suf : N.drop (N.length - l.length) = l
  len : ps.length + l.length ≤ N.length
  par : ∀ x ∈ ps, sc.names.lookup x = some .local
  fre : ∀ x ∈ l, sc.names.lookup x = some .free
  nocell : ∀ y ∈ sc.names, y.2 ≠ .cell
  all : ∀ y ∈ sc.names, y.2 = .free → y.1 ∈ l
def startC (N : List Str) (vs fv : List V) : St := vs.map some ++ List.replicate (N.length - vs.length - fv.length) none ++ fv.map some
section
variable {P : Program} {w : World} {K : PySem.W.Frag} {mg : Str → Option Value} {base : Heap} {N ps : List Str} {qual name : Str} {scope : Scope} {f c : Addr} {A : Around} {outer : List Env} {s : Shared} {H : Hp} {us : List Value} {vs : List V} {l : Caps} {cd : Value}
theorem zip_rev_lookup : ∀ {ps : List Str} {us : List Value} {i : Nat} {x : Str} {u : Value}, ps.Nodup → ps[i]? = some x → us[i]? = some u → (ps.zip us).reverse.lookup x = some u := by
  intro ps us i x u nd h1 h2
  have hm : (x, u) ∈ ps.zip us := List.mem_of_getElem? (show (ps.zip us)[i]? = some (x, u) from List.getElem?_zip_eq_some.mpr ⟨h1, h2⟩)
  have key : ∀ (q : List (Str × Value)), (q.map (·.1)).Nodup → (x, u) ∈ q → q.lookup x = some u := by
    intro q
    induction q with
    | nil => intro _ h; cases h
    | cons a q ih =>
      intro nd h
      rw [List.lookup_cons]
      rw [List.map_cons, List.nodup_cons] at nd
      rcases List.mem_cons.mp h with rfl | h
      · simp
      · have : (x == a.1) = false := by
          rw [beq_eq_false_iff_ne]
          intro z
          exact nd.1 (z ▸ List.mem_map_of_mem h)
        rw [this]
        exact ih nd.2 h
  refine key _ ?_ (List.mem_reverse.mpr hm)
  rw [List.map_reverse]
  have hz : ∀ (ps : List Str) (us : List Value), ps.Nodup → ((ps.zip us).map (·.1)).Nodup ∧ ∀ z ∈ (ps.zip us).map (·.1), z ∈ ps := by
    intro ps
    induction ps with
    | nil => intro us _; simp
    | cons a ps ih =>
      intro us nd
      cases us with
      | nil => simp
      | cons u us =>
        have nd' := List.nodup_cons.mp nd
        obtain ⟨i1, i2⟩ := ih us nd'.2
        rw [List.zip_cons_cons, List.map_cons]
        refine ⟨List.nodup_cons.mpr ⟨fun hm => nd'.1 (i2 _ hm), i1⟩, fun z hz => ?_⟩
        rcases List.mem_cons.mp hz with rfl | hz
        · exact .head _
        · exact .tail _ (i2 z hz)
  exact List.pairwise_reverse.mpr ((hz ps us nd).1.imp fun h => Ne.symm h)
theorem inv_startC {h1 : Heap} {tk : Nat} (S : ClScope N ps (l.map (·.1)) scope) (hnd : l.as.Nodup) (hd : A.handled = none) (e0 : Env0 P w K mg base A outer s H) (hl : vs.length = ps.length) (r : Vals vs us) (hin : l.In H)
    (hns : h1.Ns s.heap.objs.size (fun x => (ps.zip us).reverse.lookup x)) (hk : ∀ b o, s.heap.get? b = some o → h1.get? b = some o) :
    Inv (cxCl P w K mg base N qual scope f cd l.cl A outer s (off H l.as)) [] (startC N vs l.vs) (off H l.as) { s with heap := h1, toks := tk } := by
  have lfst : l.cl.map (·.1) = l.map (·.1) := by rw [Caps.cl, List.map_map]; rfl
  have cellAt : ∀ p ∈ l, ∃ u, RelV p.2.2 u ∧ s.heap.IsCell p.2.1 (some u) := fun p hp => (e0.hok _ _ (hin p hp)).1
  have ndN : (l.map (·.1)).Nodup := by rw [← S.suf]; exact S.nd.sublist (List.drop_sublist _ _)
  have noA : ∀ b : Addr, b ∉ (cxCl P w K mg base N qual scope f cd l.cl A outer s (off H l.as)).ex := fun b z => absurd (show b ∈ ([] : List Addr) from z) (by simp)
  have lk := cap_lk ndN
  have cinj : ∀ p ∈ l, ∀ q ∈ l, p.2.1 = q.2.1 → p = q := fun p hp q hq e => by
    obtain ⟨i, hi, e1⟩ := List.getElem_of_mem hp
    obtain ⟨j, hj, e2⟩ := List.getElem_of_mem hq
    have h1 : l.as[i]? = some p.2.1 := by rw [Caps.as, List.getElem?_map, List.getElem?_eq_getElem hi, e1]; rfl
    have h2 : l.as[j]? = some p.2.1 := by rw [Caps.as, List.getElem?_map, List.getElem?_eq_getElem hj, e2, e]; rfl
    have hij : i = j := by
      obtain ⟨g1, g2⟩ := List.getElem?_eq_some_iff.mp h1
      obtain ⟨g3, g4⟩ := List.getElem?_eq_some_iff.mp h2
      exact (List.getElem_inj hnd).mp (g2.trans g4.symm)
    subst hij
    rw [← e1, ← e2]
  refine ⟨⟨e0.mod, S.kind, rfl, rfl, Nat.le_refl _, fun y z c h1 h2 => ?_, fun y hy => ?_, fun y c h _ => absurd h (by show ¬ (false = true); decide), fun _ => hd, Around.frames_deeper e0.frames, .inr ⟨rfl, rfl⟩, fun b z => absurd z (noA b), fun b o e => ⟨(e0.bs b o e).1, off_none (e0.bs b o e).2⟩, e0.bsz, fun b _ _ => noA b, fun b z => absurd z (noA b), e0.funs, fun b hb => off_none (e0.frf b hb)⟩,
    rfl, e0.bare, Un.kept hk, ⟨_, hns, fun i y v h1 h2 h3 => ?_⟩, fun y c h => ?_, off_none (e0.hok.fresh (Nat.le_refl _)), fun y c h => ?_, fun p hp => absurd (show p ∈ ([] : List (Addr × Obj)) from hp) (by simp), (off_hok hin e0.hok).kept hk, ?_⟩
  · obtain ⟨p, hp, e1, e2⟩ := cap_lookup h1
    obtain ⟨q, hq, e3, e4⟩ := cap_lookup h2
    have := cinj p hp q hq (e2.trans e4.symm)
    rw [← e1, ← e3, this]
  · have hy : scope.names.lookup y = some .cell ∨ scope.names.lookup y = some .free := hy
    rcases hy with hy | hy
    · exact absurd rfl (S.nocell _ (PySem.mem_of_lookup hy))
    · obtain ⟨p, hp, e⟩ := List.mem_map.mp (S.all _ (PySem.mem_of_lookup hy) rfl)
      exact ⟨p.2.1, by show l.cl.lookup y = _; rw [← show p.1 = y from e]; exact lk p hp⟩
  · have hvl : l.vs.length = (l.map (·.1)).length := by rw [Caps.vs, List.length_map, List.length_map]
    have hsl := S.len
    unfold startC at h2
    by_cases hi : i < vs.length
    · have ha : vs[i]? = some v := by
        rw [List.append_assoc, List.getElem?_append_left (by simpa using hi), List.getElem?_map] at h2
        cases e : vs[i]? with
        | none => rw [e] at h2; cases h2
        | some a => rw [e] at h2; cases h2; rfl
      obtain ⟨u, hu, rv⟩ := r.get ha
      have hp : ps[i]? = some y := by
        rw [← S.pre, List.getElem?_take_of_lt (by omega)]; exact h1
      have ndP : ps.Nodup := by rw [← S.pre]; exact S.nd.sublist (List.take_sublist _ _)
      exact ⟨u, rv, .inl ⟨S.par y (List.mem_of_getElem? hp), zip_rev_lookup ndP hp hu⟩⟩
    · by_cases hi2 : i < vs.length + (N.length - vs.length - l.vs.length)
      · rw [List.getElem?_append_left (by rw [List.length_append, List.length_map, List.length_replicate]; exact hi2), List.getElem?_append_right (by rw [List.length_map]; omega), List.getElem?_replicate] at h2
        split at h2 <;> cases h2
      · rw [List.getElem?_append_right (by rw [List.length_append, List.length_map, List.length_replicate]; omega), List.length_append, List.length_map, List.length_replicate, List.getElem?_map] at h2
        obtain ⟨v', hv', e⟩ := Option.map_eq_some_iff.mp h2
        cases e
        have hv2 : (l.map fun p => p.2.2)[i - (vs.length + (N.length - vs.length - l.vs.length))]? = some _ := hv'
        rw [List.getElem?_map] at hv2
        obtain ⟨p, hp, rfl⟩ := Option.map_eq_some_iff.mp hv2
        have hpm := List.mem_of_getElem? hp
        have hy : (l.map (·.1))[i - (vs.length + (N.length - vs.length - l.vs.length))]? = some y := by
          rw [← S.suf, List.getElem?_drop]
          rw [show N.length - (l.map (·.1)).length + (i - (vs.length + (N.length - vs.length - l.vs.length))) = i by omega]
          exact h1
        rw [List.getElem?_map, hp] at hy
        have ey : p.1 = y := Option.some.inj hy
        obtain ⟨u, ru, hc⟩ := cellAt p hpm
        obtain ⟨o, ho, hd'⟩ := hc
        refine ⟨u, ru, .inr ⟨.inr ?_, p.2.1, by show l.cl.lookup y = _; rw [← ey]; exact lk p hpm, o, hk _ _ ho, hd'⟩⟩
        exact S.fre y (by rw [← ey]; exact List.mem_map_of_mem hpm)
  · obtain ⟨p, hp, e1, e2⟩ := cap_lookup (show l.cl.lookup y = some c from h)
    obtain ⟨u, ru, o, ho, hd'⟩ := cellAt p hp
    exact ⟨some u, o, by rw [← e2]; exact hk _ _ ho, hd'⟩
  · obtain ⟨p, hp, e1, e2⟩ := cap_lookup (show l.cl.lookup y = some c from h)
    exact off_in (by rw [← e2]; exact List.mem_map_of_mem hp)
  · unfold startC
    show _ = N.length
    have hvl : l.vs.length = (l.map (·.1)).length := by rw [Caps.vs, List.length_map, List.length_map]
    have hsl := S.len
    rw [List.length_append, List.length_append, List.length_map, List.length_map, List.length_replicate]
    omega
/-- behind a closure's body -/
theorem ce_of {Q : VK} {v : V} {u : Value} {σ' : St} {H' : Hp} {s' : Shared} (e0 : Env0 P w K mg base A outer s H) (hin : l.In H) (J : Inv (cxCl P w K mg base N qual scope f cd l.cl A outer s (off H l.as)) [] σ' H' s') (hlk : ∀ p ∈ l, l.cl.lookup p.1 = some p.2.1) (rv : RelV v u) (q : (∀ c ∈ l.as, H' c = none) → Q v (on H' H l.as)) :
    CE outer P w H s Q u s' := by
  have un := J.base
  have nin : ∀ {b : Addr}, H b = none → b ∉ l.as := fun hb hm => by
    obtain ⟨p, hp, rfl⟩ := cap_mem hm
    rw [hin p hp] at hb; cases hb
  have freeC : ∀ c ∈ l.as, H' c = none := fun c hc => by
    obtain ⟨p, hp, rfl⟩ := cap_mem hc
    exact J.freeC p.1 p.2.1 (hlk p hp)
  refine ⟨v, on H' H l.as, J.os, J.bare, ⟨fun b o e n hb hx => un.keep b o e (off_none n) hb hx, fun b o e n hb hx => un.slot b o e (off_none n) hb hx, fun b o e n hx => ?_, fun b o e hx => un.there b o e hx, fun b xs e => ?_, fun b o u e => ?_, fun b ps e => ?_⟩, fun b o e => ?_, rv, q freeC⟩
  · rw [on_out (nin n)]
    exact un.free b o e (off_none n) hx
  · have h1 := off_tup hin e
    rw [on_out (of_off h1).2]
    exact un.tups b xs h1
  · have h1 := off_get hin e fun φ z => by cases z
    rw [on_out (of_off h1).2]
    exact un.frzs b o u h1
  · have h1 := off_get hin e fun φ z => by cases z
    rw [on_out (of_off h1).2]
    exact un.tbls b ps h1
  · by_cases hb : b ∈ l.as
    · rw [on_in hb] at e
      obtain ⟨p, hp, rfl⟩ := cap_mem hb
      rw [hin p hp] at e
      cases e
      obtain ⟨⟨u, r, oc, ho, hd'⟩, _⟩ := e0.hok _ _ (hin p hp)
      refine cellO_mk r ⟨oc, un.keep _ _ ho (off_in hb) (fun hf => ?_) (by intro z; exact absurd (show p.2.1 ∈ ([] : List Addr) from z) (by simp)), hd'⟩
      have := e0.frf _ hf
      rw [hin p hp] at this; cases this
    · rw [on_out hb] at e
      refine (J.hok b o e).stay (fun _ _ _ q => q) (fun c q => ?_) fun c xs q => ?_
      · rw [on_out fun hc => ?_]
        · exact q
        · rw [freeC c hc] at q; cases q
      · rw [on_out fun hc => ?_]
        · exact q
        · rw [freeC c hc] at q; cases q
end
/-- a closure in the heap: its object, its code, its cells -/
def ClIn (H : Hp) (f c : Addr) (fd : FuncData) (qual : Str) (l : Caps) : Prop := H f = some (FnO f fd) ∧ H c = some (CdO c qual) ∧ l.In H
/-- THE RULE for a closure: its body -/
theorem clos_of {P : Program} {w : World} {K : PySem.W.Frag} {mg : Str → Option Value} {base : Heap} {k : Nat} {f c : Addr} {name qual : Str} {params : Arguments} {body : List Stmt} {scope : Scope} {doc pm ctv : Value} {N ps : List Str} {l : Caps} {sp : List V → Hp → VK → Prop}
    (S : ClScope N ps (l.map (·.1)) scope) (hnd : l.as.Nodup) (len : ∀ vs H Q, sp vs H Q → vs.length = ps.length)
    (hbody : ∀ (A : Around) (outer : List Env) (s : Shared) (H : Hp) (vs : List V) (Q : VK), Room k (A.deeper (PySem.W.envX qual scope s.heap.objs.size f (.ref c) l.cl)) → sp vs H Q →
      ∃ t, PSs (cxCl P w K mg base N qual scope f (.ref c) l.cl A outer s H) body t ∧ t { nx := fun _ H' => Q .non H', rt := Q } (startC N vs l.vs) H) :
    FnOk P w K mg base CX0 (k + 1) f (PySem.W.fnX name qual params body scope l.cl .none .none doc pm none (.ref c) ctv) ps
      (fun vs H Q _ => ClIn H f c (PySem.W.fnX name qual params body scope l.cl .none .none doc pm none (.ref c) ctv) qual l ∧ sp vs (off H l.as) fun v H' => (∀ c ∈ l.as, H' c = none) → Q v (on H' H l.as)) := by
  refine ⟨fun vs H Q E h => len _ _ _ h.2, fun A outer s H args us vs Q E hr e0 hb r hsp => ?_⟩
  obtain ⟨⟨hf, hc, hin⟩, hsp⟩ := hsp
  have hl := len _ _ _ hsp
  have lim : s.heap.NoLimit := e0.mod.nolimit.keeps fun b o e => (e0.bs b o e).1
  have hfo := (e0.hok _ _ hf).1
  have hco : s.heap.CodeRec (.ref c) qual := (e0.hok _ _ hc).1
  have hlu : ps.length = us.length := by rw [← hl]; exact r.length
  refine codeAny_call_function hr.depth hfo rfl S.co S.gen rfl hco (hb _ _ _ _ ?_)
  refine wpAny_newFunctionEnv S.nocell (fun y hy => S.par y.1 (List.of_mem_zip hy).1) (fun h₁ hns hsb => ?_) S.kind
  have hk₁ : ∀ b o, s.heap.get? b = some o → h₁.get? b = some o := fun b o e => hsb.extBut b o (Nat.ne_of_lt (Heap.lt_size e)) (Heap.get?_push_of_some _ e)
  refine ⟨lim.keeps hk₁, codeAny_func ?_⟩
  obtain ⟨t, ht, hq⟩ := hbody A outer s (off H l.as) vs _ (hr.deeper _) hsp
  have I := inv_startC (cd := .ref c) (qual := qual) (f := f) (tk := s.toks + (ps.zip us).length) S hnd hr.hd e0 hl r hin hns hk₁
  have lk := cap_lk (l := l) (by rw [← S.suf]; exact S.nd.sublist (List.drop_sublist _ _))
  refine wpAny_mono (ht [] _ _ _ _ I hq) (fun fl s' hs => ?_) fun e s' hs => hs.elim
  cases fl with
  | ret u =>
    obtain ⟨v, σ', H', J, rv, q⟩ := hs
    exact ce_of e0 hin J lk rv q
  | next =>
    obtain ⟨σ', H', J, q⟩ := hs
    exact ce_of (v := V.non) (u := Value.none) e0 hin J lk rfl q
  | brk =>
    obtain ⟨_, _, _, q⟩ := hs
    exact False.elim q
  | cont =>
    obtain ⟨_, _, _, q⟩ := hs
    exact False.elim q
end L2
namespace L2
open PySem PySem.Spec PyProof.Rows
/-! making closures -/
def Bm (mg : Str → Option Value) (base : Heap) : Prop := ∃ bm ob, mg "__builtins__" = some (.ref bm) ∧ bm ≠ builtinsNs ∧ bm ≠ mainGlobals ∧ base.get? bm = some ob ∧ ob.cls = .type "module" ∧ ob.dict = some builtinsNs ∧ ob.data = .plain
section
variable {X : Cx} {pins : List (Addr × Obj)} {σ : St} {H : Hp} {s : Shared}
theorem Inv.madeF {P c' : Addr} {ps more : Array Value} {h' : Heap} {tk : Nat} {fd : FuncData} {qual : Str} (I : Inv X pins σ H s) (hP : H P = some (.tbl ps)) (hx : Heap.ExtBut P s.heap h') (hge : s.heap.objs.size ≤ c') (hlt : c' < h'.objs.size) (hrec : h'.CodeRec (.ref c') qual) (htb : h'.get? P = some (PySem.W.tabObj (ps ++ more))) :
    Inv X pins σ (upd (upd (upd H P (.tbl (ps ++ more))) c' (CdO c' qual)) h'.objs.size (FnO h'.objs.size fd)) { s with heap := h'.push { cls := .type "function", data := .func fd }, toks := tk } := by
  have hPl : P < s.heap.objs.size := I.hok.lt hP
  have hcf : s.heap.objs.size ≤ h'.objs.size := Nat.le_trans hge (Nat.le_of_lt hlt)
  have hlc : ∀ {b : Addr}, b < s.heap.objs.size → b ≠ c' ∧ b ≠ h'.objs.size := fun e => ⟨Nat.ne_of_lt (Nat.lt_of_lt_of_le e hge), Nat.ne_of_lt (Nat.lt_of_lt_of_le e hcf)⟩
  have hHc : ∀ {b : Addr} {o : HO}, H b = some o → b ≠ c' ∧ b ≠ h'.objs.size := fun e => hlc (I.hok.lt e)
  have push : ∀ b o, h'.get? b = some o → (h'.push { cls := .type "function", data := .func fd }).get? b = some o := fun b o e => Heap.get?_push_of_some _ e
  have hget : ∀ {b : Addr}, b ≠ P → b ≠ c' → b ≠ h'.objs.size → (upd (upd (upd H P (.tbl (ps ++ more))) c' (CdO c' qual)) h'.objs.size (FnO h'.objs.size fd)) b = H b := fun h1 h2 h3 => by rw [upd_ne h3, upd_ne h2, upd_ne h1]
  have atP : (upd (upd (upd H P (.tbl (ps ++ more))) c' (CdO c' qual)) h'.objs.size (FnO h'.objs.size fd)) P = some (.tbl (ps ++ more)) := by rw [upd_ne (hlc hPl).2, upd_ne (hlc hPl).1, upd_same]
  refine I.un ⟨fun b o e n _ _ => push b o (hx b o (fun z => by rw [z, hP] at n; cases n) e), fun b o e n _ _ => ⟨o.slots, push b o (hx b o (fun z => by rw [z, hP] at n; cases n) e)⟩, fun b o e n _ => ?_, fun b o e _ => ?_, fun b xs e => ?_, fun b o u e => ?_, fun b qs e => ?_⟩ fun b o e => ?_
  · have := Heap.lt_size e
    rw [hget (fun z => by rw [z, hP] at n; cases n) (hlc this).1 (hlc this).2]; exact n
  · by_cases hb : b = P
    · subst hb; exact ⟨_, push _ _ htb⟩
    · exact ⟨o, push b o (hx b o hb e)⟩
  · rw [hget (ne_of e hP (by intro z; cases z)) (hHc e).1 (hHc e).2]; exact e
  · rw [hget (ne_of e hP (by intro z; cases z)) (hHc e).1 (hHc e).2]; exact e
  · by_cases hb : b = P
    · subst hb
      rw [hP] at e; cases e
      exact ⟨more, atP⟩
    · exact ⟨#[], by rw [hget hb (hHc e).1 (hHc e).2, e]; simp⟩
  · by_cases h3 : b = h'.objs.size
    · subst h3
      rw [upd_same] at e; cases e
      exact fnO_mk (Heap.get?_push_size _ rfl)
    · by_cases h2 : b = c'
      · subst h2
        rw [upd_ne h3, upd_same] at e; cases e
        exact cdO_mk (hrec.push _)
      · by_cases h1 : b = P
        · subst h1
          rw [atP] at e; cases e
          exact push _ _ htb
        · rw [hget h1 h2 h3] at e
          refine (I.hok b o e).stay (fun c u hc q => push c u (hx c u ?_ q)) (fun c q => ?_) fun c xs q => ?_
          · rcases hc with rfl | hc
            · exact h1
            · exact ne_of hc hP (by intro z; cases z)
          · rw [hget (ne_of q hP (by intro z; cases z)) (hHc q).1 (hHc q).2]; exact q
          · rw [hget (ne_of q hP (by intro z; cases z)) (hHc q).1 (hHc q).2]; exact q
end
/-- a function is made: its code for the first time, or again -/
def Made (P : Addr) (pos : Pos) (q : Str) (mk : Addr → FuncData → Prop) (H : Hp) (Q : VK) : Prop := ∃ ps, H P = some (.tbl ps) ∧ TriplesOk ps.toList ∧
  ((codeAmong pos ps.toList = none ∧ ∀ f c fd, H f = none → H c = none → f ≠ c → mk c fd → Q (.ref f) (upd (upd (upd H P (.tbl (ps ++ #[rawInt pos.line, rawInt pos.col, .ref c]))) c (CdO c q)) f (FnO f fd))) ∨
   ∃ c, codeAmong pos ps.toList = some (.ref c) ∧ ∀ f fd, H f = none → mk c fd → Q (.ref f) (upd H f (FnO f fd)))
section
variable {X : Cx} {c P : Addr} {name qual : Str} {params : Arguments} {body : List Stmt} {eb : Expr} {scope : Scope} {clos : List (Str × Addr)} {pos : Pos} {ln : Nat}
abbrev FnMk (name qual : Str) (params : Arguments) (body : List Stmt) (scope : Scope) (clos : List (Str × Addr)) (c : Addr) (fd : FuncData) : Prop := ∃ doc pm ctv, fd = PySem.W.fnX name qual params body scope clos .none .none doc pm none (.ref c) ctv
abbrev LamMk (qual : Str) (params : Arguments) (body : Expr) (scope : Scope) (clos : List (Str × Addr)) (c : Addr) (fd : FuncData) : Prop := ∃ pm ctv, fd = PySem.W.kla_fn "<lambda>" qual params body scope clos pm (.ref c) ctv
theorem tab_facts {pins : List (Addr × Obj)} {σ : St} {H : Hp} {s : Shared} {ps : Array Value} (I : Inv X pins σ H s) (bm : Bm X.mg X.base) (hP : H P = some (.tbl ps)) : mainGlobals ≠ P ∧ s.heap.BuiltinsAt X.mg P := by
  refine ⟨fun z => ?_, ?_⟩
  · obtain ⟨o, es, ep, e, _⟩ := I.mod.glob
    have := (I.bs _ _ e).2
    rw [z, hP] at this; cases this
  · obtain ⟨b, ob, h1, h2, h3, h4, h5⟩ := bm
    refine ⟨b, ob, h1, h2, h3, fun z => ?_, (I.bs _ _ h4).1, h5⟩
    have := (I.bs _ _ h4).2
    rw [z, hP] at this; cases this
theorem mk_fn {pins : List (Addr × Obj)} {σ : St} {H : Hp} {s : Shared} {Q : VK} (bm : Bm X.mg X.base) (C : PySem.W.CodeHd X.base c P) (hcode : X.env.code = .ref c) (hcl : closureFor scope X.env = pure clos) (I : Inv X pins σ H s) (h : Made P pos qual (FnMk name qual params body scope clos) H Q) :
    wpAny (model X.prog X.w) X.A (makeFunction name qual params (.stmts body) scope X.env [] [] [] pos ln) (EP X pins σ Q) X.xe s := by
  obtain ⟨ps, hP, ht, h⟩ := h
  obtain ⟨hgP, hb⟩ := tab_facts I bm hP
  have hPo : s.heap.get? P = some (PySem.W.tabObj ps) := I.hok P _ hP
  rcases h with ⟨hnf, h⟩ | ⟨c', hf, h⟩
  · refine PySem.W.makeFunction_K (mg := X.mg) hcl I.ok.glob (I.mod.glob.keeps I.bk) hcode (C.keeps I.bk) hPo ht hnf hgP hb fun c' ctv doc h' tk hx hge hlt hrec htb => ?_
    refine ⟨.ref h'.objs.size, _, I.madeF hP hx hge hlt hrec htb, rfl, h _ _ _ (I.hok.fresh (Nat.le_trans hge (Nat.le_of_lt hlt))) (I.hok.fresh hge) (Nat.ne_of_gt hlt) ⟨_, _, _, rfl⟩⟩
  · refine PySem.W.makeFunction_hit (mg := X.mg) hcl I.ok.glob (I.mod.glob.keeps I.bk) hcode (C.keeps I.bk) hPo ht hf hb fun ctv doc h' tk hk hsz => ?_
    exact ⟨.ref h'.objs.size, _, I.laid (fun b o e => Heap.get?_push_of_some _ (hk b o e)) hsz (fnO_mk (Heap.get?_push_size _ rfl)), rfl, h _ _ (I.hok.fresh hsz) ⟨_, _, _, rfl⟩⟩
theorem mk_lam {pins : List (Addr × Obj)} {σ : St} {H : Hp} {s : Shared} {Q : VK} (bm : Bm X.mg X.base) (C : PySem.W.CodeHd X.base c P) (hcode : X.env.code = .ref c) (hcl : closureFor scope X.env = pure clos) (I : Inv X pins σ H s) (h : Made P pos qual (LamMk qual params eb scope clos) H Q) :
    wpAny (model X.prog X.w) X.A (makeFunction "<lambda>" qual params (.expr eb) scope X.env [] [] [] pos ln) (EP X pins σ Q) X.xe s := by
  obtain ⟨ps, hP, ht, h⟩ := h
  obtain ⟨hgP, hb⟩ := tab_facts I bm hP
  have hPo : s.heap.get? P = some (PySem.W.tabObj ps) := I.hok P _ hP
  rcases h with ⟨hnf, h⟩ | ⟨c', hf, h⟩
  · refine PySem.W.kla_makeFunction (mg := X.mg) hcl I.ok.glob (I.mod.glob.keeps I.bk) hcode (C.keeps I.bk) hPo ht hnf hgP hb fun c' ctv h' tk hx hge hlt hrec htb => ?_
    refine ⟨.ref h'.objs.size, _, I.madeF hP hx hge hlt hrec htb, rfl, h _ _ _ (I.hok.fresh (Nat.le_trans hge (Nat.le_of_lt hlt))) (I.hok.fresh hge) (Nat.ne_of_gt hlt) ⟨_, _, rfl⟩⟩
  · refine PySem.W.kla_makeFunctionHit (mg := X.mg) hcl I.ok.glob (I.mod.glob.keeps I.bk) hcode (C.keeps I.bk) hPo ht hf hb fun ctv h' tk hk hsz => ?_
    exact ⟨.ref h'.objs.size, _, I.laid (fun b o e => Heap.get?_push_of_some _ (hk b o e)) hsz (fnO_mk (Heap.get?_push_size _ rfl)), rfl, h _ _ (I.hok.fresh hsz) ⟨_, _, rfl⟩⟩
/-- def name(..): within a body -/
def tDef (i : Nat) (P : Addr) (pos : Pos) (q : Str) (mk : Addr → FuncData → Prop) : TS := fun D σ H => Made P pos q mk H fun v H' => D.nx (σ.set i (some v)) H'
theorem ps_def (i : Nat) (bm : Bm X.mg X.base) (C : PySem.W.CodeHd X.base c P) (hcode : X.env.code = .ref c) (hcl : closureFor scope X.env = pure clos) (hN : X.N.Nodup) (hi : X.N[i]? = some name) (hx : Loc X.env.scope name) (hq : qualnameIn X.env name name = qual)
    (hd0 : params.defaults = []) (hk0 : params.kw_defaults = []) (ha : annTrees params none X.env = []) (hf : X.fn name = true ∨ X.env.scope.names.lookup name = some .local) :
    PS X (.FunctionDef name params body [] none [] scope none name pos) (tDef i P pos qual (FnMk name qual params body scope clos)) := by
  intro pins s σ H D I h
  refine PySem.W.nestDef_K hd0 hk0 ha ?_
  rw [hq]
  refine thn (mk_fn bm C hcode hcl I h) fun v s1 ⟨x, H1, I1, r, q⟩ => ?_
  exact store_ok I1 hN hi hx r (fun s2 I2 => ⟨_, H1, I2, q⟩) hf
/-- lambda ..: -/
def tLam (P : Addr) (pos : Pos) (q : Str) (mk : Addr → FuncData → Prop) : TE := fun _ H Q => Made P pos q mk H Q
theorem pe_lam (bm : Bm X.mg X.base) (C : PySem.W.CodeHd X.base c P) (hcode : X.env.code = .ref c) (hcl : closureFor scope X.env = pure clos) (hq : X.env.qual ++ "<lambda>" = qual) (hdef : defaultsOf params X.env = ([], [])) :
    PE X (.Lambda params eb scope pos) (tLam P pos qual (LamMk qual params eb scope clos)) := by
  intro pins s σ H Q I h
  refine PySem.W.kla_eval hdef ?_
  rw [hq]
  exact mk_lam bm C hcode hcl I h
end
/-! leaving a body: its cells stay, and are seen -/
def lay (H : Hp) : Caps → Hp
  | [] => H
  | p :: l => upd (lay H l) p.2.1 (CellO p.2.1 p.2.2)
theorem lay_out {H : Hp} {b : Addr} : ∀ {l : Caps}, b ∉ l.as → lay H l b = H b
  | [], _ => rfl
  | p :: l, h => by
    have h1 : b ≠ p.2.1 := fun z => h (by rw [z]; exact .head _)
    rw [lay, upd_ne h1]
    exact lay_out fun z => h (.tail _ z)
theorem lay_in {H : Hp} : ∀ {l : Caps}, l.as.Nodup → l.In (lay H l)
  | [], _ => fun p hp => by cases hp
  | q :: l, nd => fun p hp => by
    have nd' := List.nodup_cons.mp nd
    rcases List.mem_cons.mp hp with rfl | hp
    · exact upd_same
    · have hne : p.2.1 ≠ q.2.1 := fun z => nd'.1 (by
        have : p.2.1 ∈ Caps.as l := List.mem_map_of_mem (f := fun p : Str × Addr × V => p.2.1) hp
        rw [z] at this
        exact this)
      rw [lay, upd_ne hne]
      exact lay_in nd'.2 p hp
/-- the state's cells -/
def CellsOf (X : Cx) (σ : St) (l : Caps) : Prop := l.as.Nodup ∧ ∀ p ∈ l, ∃ i : Nat, X.N[i]? = some p.1 ∧ σ[i]? = some (some p.2.2) ∧ X.env.kindOf p.1 = some .cell ∧ X.env.cells.lookup p.1 = some p.2.1
theorem cells_hok {X : Cx} {pins : List (Addr × Obj)} {σ : St} {H : Hp} {s : Shared} (I : Inv X pins σ H s) : ∀ {l : Caps}, CellsOf X σ l → HOk X.prog X.w (lay H l) s.heap
  | [], _ => I.hok
  | p :: l, h => by
    have nd' := List.nodup_cons.mp h.1
    have ih := cells_hok I (l := l) ⟨nd'.2, fun q hq => h.2 q (.tail _ hq)⟩
    obtain ⟨i, h1, h2, h3, h4⟩ := h.2 p (.head _)
    obtain ⟨m, hn, hl⟩ := I.loc
    obtain ⟨u, r, lk⟩ := hl i p.1 p.2.2 h1 h2 (.inr (.inl h3))
    rcases lk with ⟨k, _⟩ | ⟨_, c, hc, hcell⟩
    · rw [h3] at k; cases k
    · rw [h4] at hc
      cases hc
      refine ih.track ?_ (cellO_mk r hcell)
      rw [lay_out nd'.1]
      exact I.freeC p.1 p.2.1 h4
/-- a body that returns, with the state at the end -/
def PR (X : Cx) (b : List Stmt) (t : (St → V → Hp → Prop) → St → Hp → Prop) : Prop := ∀ (pins : List (Addr × Obj)) (s : Shared) (σ : St) (H : Hp) (R : St → V → Hp → Prop), Inv X pins σ H s → t R σ H →
  wpAny (model X.prog X.w) X.A (execs b X.env) (fun fl s' => ∃ u, fl = .ret u ∧ ∃ v σ' H', Inv X pins σ' H' s' ∧ RelV v u ∧ R σ' v H') X.xe s
section
variable {X : Cx} {st : Stmt} {rest : List Stmt} {t : TS} {u : (St → V → Hp → Prop) → St → Hp → Prop} {e : Expr} {te : TE} {pos : Pos}
def rRet (te : TE) : (St → V → Hp → Prop) → St → Hp → Prop := fun R σ H => te σ H fun v H' => R σ v H'
theorem pr_ret (he : PE X e te) : PR X [.Return (some e) pos] (rRet te) := by
  intro pins s σ H R I h
  refine wpAny_execs_cons (wpAny_Return_some (thn (he pins s σ H _ I h) fun v s1 ⟨x, H1, I1, r1, q1⟩ => ⟨v, rfl, x, σ, H1, I1, r1, q1⟩))
def rSeq (t : TS) (u : (St → V → Hp → Prop) → St → Hp → Prop) : (St → V → Hp → Prop) → St → Hp → Prop := fun R σ H => t { nx := u R, rt := fun _ _ => False } σ H
theorem pr_cons (h1 : PS X st t) (h2 : PR X rest u) : PR X (st :: rest) (rSeq t u) := by
  intro pins s σ H R I h
  refine wpAny_execs_cons (thn (h1 pins s σ H _ I h) fun f s1 q => ?_)
  cases f with
  | next =>
    obtain ⟨σ', H', I', q⟩ := q
    exact h2 pins s1 σ' H' R I' q
  | ret v => obtain ⟨_, _, _, _, _, q⟩ := q; exact q.elim
  | brk => obtain ⟨_, _, _, q⟩ := q; exact q.elim
  | cont => obtain ⟨_, _, _, q⟩ := q; exact q.elim
end
/-- a def whose cells are seen behind it -/
theorem Fun.okC {P : Program} {w : World} {K : PySem.W.Frag} {mg : Str → Option Value} {base : Heap} {x qual : Str} {st : Stmt} {f : Addr} {fd : FuncData} {N ps : List Str} {k : Nat} {sp : Sp} (F : Fun K x qual st f fd) (S : FnScope N ps (defScope st)) (len : ∀ vs H Q E, sp vs H Q E → vs.length = ps.length)
    (hbody : ∀ (cdv : Value) (A : Around) (outer : List Env) (s : Shared) (H : Hp) (vs : List V) (Q : VK) (E : XK), fd.code = cdv → Room k (A.deeper (envOfC qual (defScope st) s.heap.objs.size f cdv)) → sp vs H Q E →
      ∃ t, PR (cxOf CX0 P w K mg base N qual (defScope st) f cdv A outer s H E).nox (defBody st) t ∧
        t (fun σ v H' => ∃ l, CellsOf (cxOf CX0 P w K mg base N qual (defScope st) f cdv A outer s H E).nox σ l ∧ ((∀ c ∈ l.as, H' c = none) → Q v (lay H' l))) (start N vs) H) : FnOk P w K mg base CX0 (k + 1) f fd ps sp := by
  obtain ⟨oc, od, kV, doc, pm, an, cdv, ct, osl, rfl, lk, hcd⟩ := F.ex
  refine ⟨len, fun A outer s H args us vs Q E hr e0 hb r hsp => ?_⟩
  have hl := len _ _ _ _ hsp
  have KX : K.In s.heap := e0.mod.kin.keeps fun b o e => (e0.bs b o e).1
  have lim : s.heap.NoLimit := e0.mod.nolimit.keeps fun b o e => (e0.bs b o e).1
  have hkind : ∀ y ∈ ps.zip us, (defScope st).names.lookup y.1 = some .local ∨ ((defScope st).names.lookup y.1 = some .cell ∧ ((cellsFrom (s.heap.objs.size + 1) (defScope st).names []).lookup y.1).isSome = true) := fun ⟨n, v⟩ hy => by
    rcases S.par n (List.of_mem_zip hy).1 with q | q
    · exact .inl q
    · exact .inr ⟨q, PySem.W.cellsFrom_some _ _ _ (.inl q)⟩
  refine codeAny_call_function hr.depth (KX _ _ lk) rfl S.co S.gen rfl (PySem.W.codeRec_of KX hcd) (hb _ _ _ _ ?_)
  refine wpAny_newFunctionEnv_cells S.kind hkind fun env he s1 xx => ?_
  subst he
  refine ⟨lim.keeps xx.toInCall.keep, codeAny_func ?_⟩
  obtain ⟨t, ht, hq⟩ := hbody cdv A outer s H vs Q E rfl (hr.deeper _) hsp
  have I : Inv (cxOf CX0 P w K mg base N qual (defScope st) f cdv A outer s H E).nox [] (start N vs) H s1 := (inv_start (CX := CX0) (E := E) S hr.hd e0 hl r xx).wish _
  refine wpAny_mono (ht [] s1 (start N vs) H _ I hq) (fun fl s' hs => ?_) fun e s' hs => hs.elim
  obtain ⟨u, rfl, v, σ', H', J, rv, l, hc, q⟩ := hs
  have un := J.base
  have hab : ∀ b ∈ l.as, s.heap.objs.size ≤ b := fun b hb => by
    obtain ⟨p, hp, rfl⟩ := cap_mem hb
    obtain ⟨i, h1, h2, h3, h4⟩ := hc.2 p hp
    exact J.ok.cab p.1 p.2.1 rfl h4
  have hno : ∀ b ∈ l.as, H' b = none := fun b hb => by
    obtain ⟨p, hp, rfl⟩ := cap_mem hb
    obtain ⟨i, h1, h2, h3, h4⟩ := hc.2 p hp
    exact J.freeC p.1 p.2.1 h4
  have keep : ∀ {b : Addr} {o : HO}, H' b = some o → lay H' l b = some o := fun {b o} e => by
    rw [lay_out fun hb => ?_]
    · exact e
    · rw [hno b hb] at e; cases e
  refine ⟨v, lay H' l, J.os, J.bare, ⟨un.keep, un.slot, fun b o e n hx => ?_, un.there, fun b xs e => keep (un.tups b xs e), fun b o u e => keep (un.frzs b o u e), fun b qs e => ?_⟩, cells_hok J hc, rv, q hno⟩
  · rw [lay_out fun hb => ?_]
    · exact un.free b o e n hx
    · have h1 := hab b hb
      have h2 := Heap.lt_size (show s.heap.get? b = some o from e)
      exact absurd (Nat.lt_of_lt_of_le h2 h1) (Nat.lt_irrefl _)
  · obtain ⟨more, e'⟩ := un.tbls b qs e
    exact ⟨more, keep e'⟩
end L2
namespace L2
open PySem PySem.Spec PyProof.Rows
/-! a call of a closure that a name holds -/
def tCallC (g : Gx) (k i : Nat) (t : TA) : TE := fun σ H Q => ∃ f fd ps sp, σ[i]? = some (some (.ref f)) ∧ FnOk g.P g.w g.K g.mg g.base CX0 k f fd ps sp ∧ (∀ us : List Value, us.length = ps.length → bindArgs fd ⟨us, []⟩ = pure (ps.zip us)) ∧ H f = some (FnO f fd) ∧ t σ H fun vs H1 => H1 f = some (FnO f fd) ∧ sp vs H1 Q E0
section
variable {X : Cx} {g : Gx} {k j i : Nat} {x : Str} {p pos : Pos} {e : Expr} {es : List Expr} {t : TA}
theorem fnAt_of {pins : List (Addr × Obj)} {σ : St} {H : Hp} {s : Shared} {f : Addr} {fd : FuncData} (I : Inv X pins σ H s) (h : H f = some (FnO f fd)) : PySem.W.FnAt f s.heap := ⟨_, _, _, _, (I.hok _ _ h).1⟩
theorem pe_callC (i : Nat) (hr : Room k X.A) (ha : PA X (e :: es) t) (hj : j ≤ k := by omega) (hX : X.gx = g := by rfl) (hN : X.N[i]? = some x := by rfl) (hv : Vis X.env.scope x := by first | exact Or.inl rfl | exact Or.inr (Or.inl rfl) | exact Or.inr (Or.inr rfl)) (hdb : (x == ("__debug__" : Str)) = false := by decide)
    (hcd : (x == ("__classdict__" : Str)) = false := by decide) (he : starEach (e :: es) X.env = (false, eval e X.env) :: starEach es X.env := by rfl) (hpl : (backTo pos (starEach es X.env)).any (·.1) = false := by rfl) : PE X (.Call (.Name x p) (e :: es) [] pos) (tCallC g j i t) := by
  subst hX
  intro pins s σ H Q I h
  obtain ⟨f, fd, ps, sp, hσ, F, b, hf, ht⟩ := h
  refine wpAny_Call_Name_kw (thn (pe_var hN hv hdb hcd pins s σ H (fun v H1 => v = .ref f ∧ H1 f = some (FnO f fd) ∧ t σ H1 fun vs H1 => H1 f = some (FnO f fd) ∧ sp vs H1 Q E0) I ⟨.ref f, hσ, rfl, hf, ht⟩) fun u s1 ⟨v, H1, I1, r, e, hf1, ht⟩ => ?_)
  subst e
  obtain rfl : u = Value.ref f := r
  refine PySem.W.callWith_F (fnAt_of I1 hf1) (thn (ha pos pins s1 σ H1 _ I1 ht) fun us s2 ⟨vs, H2, I2, r2, hf2, q⟩ => ⟨fnAt_of I2 hf2, ?_⟩) he hpl
  exact run_fn F (hr.mono hj) (.all b) .nil pass0 I2 r2 (by rw [List.append_nil]; exact q)
theorem pe_callC0 (i : Nat) (hr : Room k X.A) (hj : j ≤ k := by omega) (hX : X.gx = g := by rfl) (hN : X.N[i]? = some x := by rfl) (hv : Vis X.env.scope x := by first | exact Or.inl rfl | exact Or.inr (Or.inl rfl) | exact Or.inr (Or.inr rfl)) (hdb : (x == ("__debug__" : Str)) = false := by decide)
    (hcd : (x == ("__classdict__" : Str)) = false := by decide) : PE X (.Call (.Name x p) [] [] pos) (tCallC g j i tNil) := by
  subst hX
  intro pins s σ H Q I h
  obtain ⟨f, fd, ps, sp, hσ, F, b, hf, ht⟩ := h
  have ht : H f = some (FnO f fd) ∧ sp [] H Q E0 := ht
  refine wpAny_Call_Name_kw (thn (pe_var hN hv hdb hcd pins s σ H (fun v H1 => v = .ref f ∧ H1 f = some (FnO f fd) ∧ sp [] H1 Q E0) I ⟨.ref f, hσ, rfl, hf, ht.2⟩) fun u s1 ⟨v, H1, I1, r, e, hf1, ht⟩ => ?_)
  subst e
  obtain rfl : u = Value.ref f := r
  refine PySem.W.callWith_F0 (fnAt_of I1 hf1) ?_
  exact run_fn F (hr.mono hj) (.all b) .nil pass0 I1 .nil (by rw [List.append_nil]; exact ht)
end
/-! the law's entry, with the tables of the defs that make functions -/
abbrev Tbs := List (Str × Addr × Addr)
theorem law_callT {P : Program} {w : World} {K : PySem.W.Frag} {mg mb : Str → Option Value} {CX : CXT} {k : Nat} {fa a : Addr} {fd : FuncData} {x : Str} {sp : Sp} {s₁ : Shared} {vs : List Value} {ns : List Int} (tabs : Tbs)
    (KX : K.In s₁.heap) (hns : s₁.heap.Ns mainGlobals mg) (hb : s₁.heap.Ns builtinsNs mb) (hbb : ∀ x : Str, x ≠ "__name__" → mb x = bootBuiltins x) (hlim : s₁.heap.NoLimit) (hg : s₁.gens = #[])
    (ha : s₁.heap.get? a = some { cls := .type "list", data := .seq vs.toArray }) (hi : IntsAre vs ns) (hl : ns.length ≤ sizeLine) (hr : Room k callerA)
    (hT : ∀ q ∈ tabs, PySem.W.CodeHd s₁.heap q.2.1 q.2.2 ∧ s₁.heap.get? q.2.2 = some (PySem.W.tabObj #[])) (hK : ∀ q ∈ tabs, K.lookup q.2.2 = none)
    (bmn : ∃ bm ob, mg "__builtins__" = some (.ref bm) ∧ bm ≠ builtinsNs ∧ s₁.heap.get? bm = some ob ∧ ob.cls = .type "module" ∧ ob.dict = some builtinsNs ∧ ob.data = .plain)
    (F : ∀ base : Heap, K.In base → base.Ns mainGlobals mg → Bm mg base → (∀ q ∈ tabs, PySem.W.CodeHd base q.2.1 q.2.2) → FnOk P w K mg base CX k fa fd [x] sp) (hbind : ∀ (s : Shared) (u : Value), BindsTo s fd ⟨[u], []⟩ [(x, u)])
    (hsp : ∀ H : Hp, (∀ q ∈ tabs, H q.2.2 = some (.tbl #[])) → SqL K H a (ns.map V.int) → sp [.ref a] H (fun v _ => v = .bl true) fun _ _ _ => False)
    (hCX : ∀ H e s', CX [] H s₁ (fun _ _ _ => False) e s' → False) :
    codeAny (model P w) callerA (.call (.ref fa) ⟨[.ref a], []⟩) (fun r s' => r = .ok (.ret (.bool true)) ∧ OldK s₁.heap s'.heap ∧ s'.os = s₁.os ∧ AllBare s'.gens) s₁ := by
  have rv := vals_ints hi
  have lenV := hi.length
  have tobj : ∀ b ∈ tabs.map (·.2.2), s₁.heap.get? b = some (PySem.W.tabObj #[]) := fun b hb => by
    obtain ⟨q, hq, rfl⟩ := List.mem_map.mp hb
    exact (hT q hq).2
  have aT : a ∉ tabs.map (·.2.2) := fun hb => by
    have := tobj a hb
    rw [ha] at this
    cases this
  have core : ∀ H : Hp, (∀ b, H b = none ∨ (∃ o xs, H b = some (.frz o (.lst xs))) ∨ (b ∈ tabs.map (·.2.2) ∧ H b = some (.tbl #[]))) → SqL K H a (ns.map V.int) → HOk P w H s₁.heap → (∀ b, H b ≠ none → b = a ∨ b ∈ tabs.map (·.2.2)) → (H a ≠ none → K.lookup a = none) → (∀ q ∈ tabs, H q.2.2 = some (.tbl #[])) →
      codeAny (model P w) callerA (.call (.ref fa) ⟨[.ref a], []⟩) (fun r s' => r = .ok (.ret (.bool true)) ∧ OldK s₁.heap s'.heap ∧ s'.os = s₁.os ∧ AllBare s'.gens) s₁ := by
    intro H hO hS hok hA hKa hTb
    have base_of : ∀ {b : Addr} {o : Obj}, s₁.heap.get? b = some o → H b = none → (hidT s₁.heap H).get? b = some o := fun e n => hidT_get e n
    have noC : ∀ {b : Addr} {o : Obj}, s₁.heap.get? b = some o → o.cls ≠ .type "list" → o ≠ PySem.W.tabObj #[] → H b = none := fun {b o} e d1 d2 => by
      cases q : H b with
      | none => rfl
      | some u =>
        rcases hA b (by rw [q]; simp) with e' | e'
        · subst e'
          rw [ha] at e; cases e
          exact absurd rfl d1
        · rw [tobj b e'] at e
          exact absurd (Option.some.inj e).symm d2
    have noA : ∀ {b : Addr} {o : Obj} {es : Array DictEntry} {ep : Nat}, s₁.heap.get? b = some o → o.data = .dict es ep → H b = none := fun {b o es ep} e d => by
      cases q : H b with
      | none => rfl
      | some u =>
        rcases hA b (by rw [q]; simp) with e' | e'
        · subst e'
          rw [ha] at e; cases e
          have d' : Data.seq vs.toArray _ = Data.dict es ep := d
          cases d'
        · rw [tobj b e'] at e
          cases e
          have d' : Data.fields #[] = Data.dict es ep := d
          cases d'
    have nsK : ∀ {b : Addr} {m : Str → Option Value}, s₁.heap.Ns b m → (hidT s₁.heap H).Ns b m := fun {b m} ⟨o, es, ep, e, d, r⟩ => ⟨o, es, ep, base_of e (noA e d), d, r⟩
    have hKb : K.In (hidT s₁.heap H) := fun b o e => base_of (KX b o e) (by
      cases q : H b with
      | none => rfl
      | some u =>
        rcases hA b (by rw [q]; simp) with e' | e'
        · subst e'
          rw [hKa (by rw [q]; simp)] at e; cases e
        · obtain ⟨z, hz, rfl⟩ := List.mem_map.mp e'
          rw [hK z hz] at e; cases e)
    have hM : Mod K mg (hidT s₁.heap H) := ⟨hKb, nsK hns, ⟨mb, nsK hb, hbb⟩, let ⟨mc, h1, h2⟩ := hlim; ⟨mc, nsK h1, h2⟩⟩
    have e0 : Env0 P w K mg (hidT s₁.heap H) callerA [] s₁ H := ⟨rfl, hM, fun b o e => of_hidT e, Nat.le_of_eq (hidT_size _ _), trivial, fun b hb => absurd (show b ∈ ([] : List Addr) from hb) (by simp), hok, .of_eq hg⟩
    have hBm : Bm mg (hidT s₁.heap H) := by
      obtain ⟨bm, ob, b1, b2, b3, b4, b5, b6⟩ := bmn
      refine ⟨bm, ob, b1, b2, fun z => ?_, base_of b3 (noC b3 (by rw [b4]; decide) fun z => by rw [z] at b4; cases b4), b4, b5, b6⟩
      obtain ⟨o, es, ep, e, d, _⟩ := hns
      rw [z, e] at b3; cases b3
      rw [d] at b6; cases b6
    have hCd : ∀ q ∈ tabs, PySem.W.CodeHd (hidT s₁.heap H) q.2.1 q.2.2 := fun q hq => by
      obtain ⟨o, vs', file, tf, flags, tg, inF, text, tt, e1, e2, r⟩ := (hT q hq).1
      exact ⟨o, vs', file, tf, flags, tg, inF, text, tt, base_of e1 (noC e1 (by rw [e2]; decide) fun z => by rw [z] at e2; cases e2), e2, r⟩
    refine codeAny_mono ((F _ hKb (nsK hns) hBm hCd).run callerA [] s₁ H ⟨[.ref a], []⟩ [.ref a] [.ref a] _ _ hr e0 (hbind s₁ (.ref a)) (.cons rfl .nil) (hsp H hTb hS)) fun r s' h => ?_
    cases r with
    | error e => exact (hCX H e s' h).elim
    | ok fl =>
      cases fl with
      | next => exact False.elim h
      | brk => exact False.elim h
      | cont => exact False.elim h
      | ret u =>
        obtain ⟨v, H', os, bare, un, hok', r', q⟩ := h
        have q' : v = .bl true := q
        subst q'
        obtain rfl : u = Value.bool true := r'
        have each : ∀ b o, s₁.heap.get? b = some o → s'.heap.get? b = some o ∨ ((∃ z ∈ tabs, z.2.2 = b) ∧ o = PySem.W.tabObj #[] ∧ ∃ ps, s'.heap.get? b = some (PySem.W.tabObj ps)) := fun b o e => by
          rcases hO b with q | ⟨ob, xs, z⟩ | ⟨z1, z2⟩
          · exact .inl (un.keep b o e q (by intro z; exact absurd (show b ∈ ([] : List Addr) from z) (by simp)) (by simp))
          · have z2 := un.frzs b ob _ z
            obtain ⟨e1, _⟩ := hok b _ z
            obtain ⟨e2, _⟩ := hok' b _ z2
            rw [e] at e1; cases e1
            exact .inl e2
          · obtain ⟨q, hq, e3⟩ := List.mem_map.mp z1
            obtain ⟨more, e4⟩ := un.tbls b _ z2
            have e5 : s'.heap.get? b = some (PySem.W.tabObj (#[] ++ more)) := hok' b _ e4
            rw [tobj b z1] at e
            exact .inr ⟨⟨q, hq, e3⟩, (Option.some.inj e).symm, _, e5⟩
        refine ⟨rfl, ⟨fun b o e => ?_, fun b o e => ?_⟩, os, bare⟩
        · rcases each b o e with h | ⟨⟨z, hz, rfl⟩, rfl, ps, h⟩
          · exact .inl h
          · exact .inr (.inl ⟨((hT z hz).1.tab (hT z hz).2).isCodeTable, rfl, #[], ps, rfl, by rw [Array.empty_append]; exact h⟩)
        · rcases each b o e with h | ⟨_, _, ps, h⟩
          · exact ⟨o, h⟩
          · exact ⟨_, h⟩
  have tbIn : ∀ q ∈ tabs, q.2.2 ∈ tabs.map (·.2.2) := fun q hq => List.mem_map_of_mem hq
  have tbOk : ∀ {H : Hp} {b : Addr}, b ∈ tabs.map (·.2.2) → ObjOk P w H s₁.heap b (.tbl #[]) := fun hb => tobj _ hb
  cases hk : K.lookup a with
  | some o =>
    have e := KX a o hk
    rw [ha] at e
    cases e
    refine core (fun b => if b ∈ tabs.map (·.2.2) then some (.tbl #[]) else none) (fun b => ?_) (.inr ⟨_, vs.toArray, _, hk, rfl, rfl, rfl, by rw [List.size_toArray, lenV]; exact hl, by simpa using rv⟩) (fun b u z => ?_) (fun b z => ?_) (fun z => absurd (if_neg aT) z) fun q hq => if_pos (tbIn q hq)
    · by_cases hb : b ∈ tabs.map (·.2.2)
      · exact .inr (.inr ⟨hb, if_pos hb⟩)
      · exact .inl (if_neg hb)
    · by_cases hb : b ∈ tabs.map (·.2.2)
      · have z' := (if_pos hb).symm.trans z
        cases z'
        exact tbOk hb
      · have z' := (if_neg hb).symm.trans z
        cases z'
    · by_cases hb : b ∈ tabs.map (·.2.2)
      · exact .inr hb
      · exact absurd (if_neg hb) z
  | none =>
    refine core (fun b => if b ∈ tabs.map (·.2.2) then some (.tbl #[]) else if b = a then some (.frz { cls := .type "list", data := .seq vs.toArray } (.lst (ns.map V.int))) else none) (fun b => ?_) (.inl (.inr ⟨{ cls := .type "list", data := .seq vs.toArray }, (if_neg aT).trans (if_pos rfl)⟩)) (fun b u z => ?_) (fun b z => ?_) (fun _ => hk) fun q hq => if_pos (tbIn q hq)
    · by_cases hb : b ∈ tabs.map (·.2.2)
      · exact .inr (.inr ⟨hb, if_pos hb⟩)
      · by_cases hb2 : b = a
        · exact .inr (.inl ⟨_, _, (if_neg hb).trans (if_pos hb2)⟩)
        · exact .inl ((if_neg hb).trans (if_neg hb2))
    · by_cases hb : b ∈ tabs.map (·.2.2)
      · have z' := (if_pos hb).symm.trans z
        cases z'
        exact tbOk hb
      · have z1 := (if_neg hb).symm.trans z
        by_cases hb2 : b = a
        · have z' := (if_pos hb2).symm.trans z1
          cases z'
          subst hb2
          exact ⟨ha, by rw [List.length_map]; exact hl, vs, _, rv, ha⟩
        · have z' := (if_neg hb2).symm.trans z1
          cases z'
    · by_cases hb : b ∈ tabs.map (·.2.2)
      · exact .inr hb
      · by_cases hb2 : b = a
        · exact .inl hb2
        · exact absurd ((if_neg hb).trans (if_neg hb2)) z
/-- what the law is asked for, the tables at hand -/
def spTrueT (K : PySem.W.Frag) (tabs : Tbs) : Sp := fun vs H Q _ => ∃ (a : Addr) (ns : List Int), vs = [.ref a] ∧ SqL K H a (ns.map V.int) ∧ ns.length ≤ 63 ∧ (∀ q ∈ tabs, H q.2.2 = some (.tbl #[])) ∧ ∀ H', Q (.bl true) H'
theorem walk_gxT {l : PySem.W.OpenLaw} {q : Program} {loose : List Str} {XP : (Str → Option Value) → Heap → Prop} {YP : World → Heap → Prop} {d : DefRec} {K : Params → PySem.W.Frag} (tabs : Tbs) (k : Nat) (x : Str) (st : Stmt) (N : List Str) (hn : l.most = some 63) (hdf : d.params.defaults = []) (hk : Room (k + 1) callerA) (S : FnScope N [x] (defScope st))
    (hY : ∀ (w : World) (h : Heap), YP w h → (K w.params).In h)
    (hrec : ∀ p ∈ tabs, ∃ d', (recsOf q).find? (fun e => e.name == p.1) = some d')
    (htab : ∀ (w : World), ∀ p ∈ tabs, PySem.W.tabIn (K w.params) p.1 = some p.2)
    (hno : ∀ (w : World), ∀ p ∈ tabs, (K w.params).lookup p.2.2 = none)
    (F : ∀ (w : World) (mg : Str → Option Value) (h : Heap), (K w.params).In h → h.Ns mainGlobals mg → LawRaw (K w.params) mg st x d.name ∧ ∀ base, Bm mg base → (∀ p ∈ tabs, PySem.W.CodeHd base p.2.1 p.2.2) → Body (Gx.mk l.prog w (K w.params) mg base) k N d.name st (spTrueT (K w.params) tabs)) :
    PySem.W.WalkO q loose XP YP l.row.toRowW d [] (fun f vs => PySem.call f vs) := by
  refine Att.attach_call hn hdf fun w s₀ s₁ mg mb fa o pm cd doc a vs ns G Y ho hd hcd hmg hobj hints hlen hg => ?_
  have KX := hY w _ Y
  obtain ⟨⟨f, fd, Fu, hb, hm⟩, B⟩ := F w mg _ KX G.T.g
  have e := hmg.symm.trans hm
  cases e
  refine law_callT (CX := CX0) (sp := spTrueT (K w.params) tabs) tabs KX G.T.g G.T.b G.T.builtins G.T.nolimit hg hobj hints (Nat.le_trans hlen (by decide)) hk (fun p hp => ?_) (hno w) G.T.bmain
    (fun base _ _ hB hC => Fu.ok S (fun vs H Q E h => by obtain ⟨a, ns, rfl, _⟩ := h; rfl) fun cdv A outer s H vs Q E hr h => B base hB hC fa cdv A outer s H vs Q E hr h) hb (fun H hT hS => ⟨a, ns, rfl, hS, hlen, hT, fun _ => rfl⟩) fun H e s' z => z
  obtain ⟨d', hd'⟩ := hrec p hp
  exact PySem.W.tab_of G.T KX hd' (htab w p hp)
/-! defs that make functions -/
def inDef (s : Stmt) (j : Nat) : Stmt := (defBody s).getD j (.Pass ⟨0, 0, 0, 0⟩)
def Gx.RawT (g : Gx) (x qual : Str) (st : Stmt) (ps : List Str) (c : Addr) : Prop := ∃ f fd, Fun g.K x qual st f fd ∧ Binds g.K fd ps [] ∧ g.mg x = some (.ref f) ∧ fd.code = .ref c
theorem Gx.RawT.fnC {g : Gx} {k : Nat} {x qual : Str} {st : Stmt} {N ps : List Str} {c : Addr} {sp : Sp} (R : g.RawT x qual st ps c) (S : FnScope N ps (defScope st)) (len : ∀ vs H Q E, sp vs H Q E → vs.length = ps.length)
    (b : ∀ (f : Addr) (A : Around) (outer : List Env) (s : Shared) (H : Hp) (vs : List V) (Q : VK) (E : XK), Room k (g.cx N qual st f (.ref c) A outer s H E).A → sp vs H Q E →
      ∃ t, PR (g.cx N qual st f (.ref c) A outer s H E) (defBody st) t ∧ t (fun σ v H' => ∃ l, CellsOf (g.cx N qual st f (.ref c) A outer s H E) σ l ∧ ((∀ c ∈ l.as, H' c = none) → Q v (lay H' l))) (start N vs) H) : g.Fn (k + 1) x ps sp := by
  obtain ⟨f, fd, F, bd, hm, hc⟩ := R
  refine ⟨f, fd, F.okC S len fun cdv A outer s H vs Q E e hr h => ?_, bd, F.kp, hm⟩
  have e' : cdv = .ref c := e.symm.trans hc
  subst e'
  exact b f A outer s H vs Q E hr h
theorem rawT_mk {K : PySem.W.Frag} {h : Heap} {mg : Str → Option Value} {f : Addr} {x : Str} {st : Stmt} {c : Addr} {oc kV dc pm cd ct : Value} {od an : Option Addr} {sl : Array (Option Value)} (X : K.In h) (G : h.Ns mainGlobals mg) (ps : List Str)
    (a : PySem.W.nsIn K mainGlobals x = some (some (.ref f))) (l : K.lookup f = some ⟨oc, od, .func (PySem.W.fnOf x x (defArgs st) (defBody st) (defScope st) .none kV dc pm an cd ct), sl⟩) (cc : PySem.W.codeIn K cd x = true) (k : PySem.W.keepIn K (.ref f) = true) (e : cd = .ref c)
    (b : ∀ (kV doc pm : Value) (an : Option Addr) (cdv ct : Value) (us : List Value), us.length = ps.length → bindArgs (PySem.W.fnOf x x (defArgs st) (defBody st) (defScope st) .none kV doc pm an cdv ct) ⟨us, []⟩ = pure (ps.zip us)) :
    ∀ P w base, (Gx.mk P w K mg base).RawT x x st ps c := fun P w base =>
  have F := fun_mk (st := st) l cc k
  ⟨f, _, F, F.binds b, PySem.W.mg_of X G a, e⟩
end L2
namespace HT
open PySem PySem.Spec PyProof.Rows
variable {prog : Program} {w : World} {A : Around} {E : Value → Shared → Prop} {s : Shared}
end HT
namespace L2
open PySem PySem.Spec PyProof.Rows
/-- t[lo:hi] that is the whole of t: t itself -/
def rSlTA (K : PySem.W.Frag) : V → Option Int → Option Int → Hp → VK → Prop := fun x lo hi H Q => ∃ a xs, x = .ref a ∧ SqT K H a xs ∧ (HT.sIx xs.length 0 lo = 0 ∧ HT.sIx xs.length xs.length hi = xs.length) ∧ Q (.ref a) H
/-- either way -/
def rSlT2 (K : PySem.W.Frag) : V → Option Int → Option Int → Hp → VK → Prop := fun x lo hi H Q => ∃ a xs, x = .ref a ∧ SqT K H a xs ∧ (∀ p, H p = none → Q (.ref p) (upd H p (.tup (cutV xs lo hi)))) ∧ (cutV xs lo hi = xs → Q (.ref a) H)
end L2
namespace L2
open PySem PySem.Spec PyProof.Rows
section
variable {tb : TS} {D : Ends} {σ : St} {H : Hp}
end
section
variable {src : List (Option Nat)} {te : TE} {tt : TT} {σ : St} {H : Hp} {Q : VK}
end
end L2
namespace L2
open PySem PySem.Spec PyProof.Rows
/-! the text of a lambda that a def returns -/
def retE (s : Stmt) : Expr := match s with
  | .Return (some e) _ => e
  | _ => .Constant .none 0 ⟨0, 0, 0, 0⟩
def lamArgs (e : Expr) : Arguments := match e with
  | .Lambda a _ _ _ => a
  | _ => { posonlyargs := [], args := [], vararg := none, kwonlyargs := [], kw_defaults := [], kwarg := none, defaults := [] }
def lamBody (e : Expr) : Expr := match e with
  | .Lambda _ b _ _ => b
  | e => e
def lamScope (e : Expr) : Scope := match e with
  | .Lambda _ _ sc _ => sc
  | _ => { kind := .function, names := [], isGenerator := false, isCoroutine := false }
/-- THE RULE for a lambda: its body -/
theorem lam_of {P : Program} {w : World} {K : PySem.W.Frag} {mg : Str → Option Value} {base : Heap} {k : Nat} {f c : Addr} {qual : Str} {params : Arguments} {body : Expr} {scope : Scope} {pm ctv : Value} {N ps : List Str} {l : Caps} {sp : List V → Hp → VK → Prop}
    (S : ClScope N ps (l.map (·.1)) scope) (hnd : l.as.Nodup) (len : ∀ vs H Q, sp vs H Q → vs.length = ps.length)
    (hbody : ∀ (A : Around) (outer : List Env) (s : Shared) (H : Hp) (vs : List V) (Q : VK), Room k (A.deeper (PySem.W.envX qual scope s.heap.objs.size f (.ref c) l.cl)) → sp vs H Q →
      ∃ t, PE (cxCl P w K mg base N qual scope f (.ref c) l.cl A outer s H) body t ∧ t (startC N vs l.vs) H Q) :
    FnOk P w K mg base CX0 (k + 1) f (PySem.W.kla_fn "<lambda>" qual params body scope l.cl pm (.ref c) ctv) ps
      (fun vs H Q _ => ClIn H f c (PySem.W.kla_fn "<lambda>" qual params body scope l.cl pm (.ref c) ctv) qual l ∧ sp vs (off H l.as) fun v H' => (∀ c ∈ l.as, H' c = none) → Q v (on H' H l.as)) := by
  refine ⟨fun vs H Q E h => len _ _ _ h.2, fun A outer s H args us vs Q E hr e0 hb r hsp => ?_⟩
  obtain ⟨⟨hf, hc, hin⟩, hsp⟩ := hsp
  have hl := len _ _ _ hsp
  have lim : s.heap.NoLimit := e0.mod.nolimit.keeps fun b o e => (e0.bs b o e).1
  have hfo := (e0.hok _ _ hf).1
  have hco : s.heap.CodeRec (.ref c) qual := (e0.hok _ _ hc).1
  refine PySem.W.kla_callFunE hr.depth hfo rfl S.co S.gen rfl hco (hb _ _ _ _ ?_)
  refine wpAny_newFunctionEnv S.nocell (fun y hy => S.par y.1 (List.of_mem_zip hy).1) (fun h₁ hns hsb => ?_) S.kind
  have hk₁ : ∀ b o, s.heap.get? b = some o → h₁.get? b = some o := fun b o e => hsb.extBut b o (Nat.ne_of_lt (Heap.lt_size e)) (Heap.get?_push_of_some _ e)
  refine ⟨lim.keeps hk₁, PySem.W.kla_codeExpr ?_⟩
  obtain ⟨t, ht, hq⟩ := hbody A outer s (off H l.as) vs _ (hr.deeper _) hsp
  have I := inv_startC (cd := .ref c) (qual := qual) (f := f) (tk := s.toks + (ps.zip us).length) S hnd hr.hd e0 hl r hin hns hk₁
  have lk := cap_lk (l := l) (by rw [← S.suf]; exact S.nd.sublist (List.drop_sublist _ _))
  refine wpAny_mono (ht [] _ _ _ _ I hq) (fun u s' hs => ?_) fun e s' hs => hs.elim
  obtain ⟨v, H', J, rv, q⟩ := hs
  exact ce_of e0 hin J lk rv q
end L2
namespace L2
open PySem PySem.Spec PyProof.Rows
/-! a def with defaults, called without them -/
structure FunD (K : PySem.W.Frag) (x qual : Str) (st : Stmt) (f : Addr) (fd : FuncData) (T : Addr) : Prop where
  ex : ∃ (oc : Value) (od : Option Addr) (kV doc pm : Value) (an : Option Addr) (cdv ct : Value) (osl : Array (Option Value)),
    fd = PySem.W.fnOf x qual (defArgs st) (defBody st) (defScope st) (.ref T) kV doc pm an cdv ct ∧ K.lookup f = some ⟨oc, od, .func fd, osl⟩ ∧ PySem.W.codeIn K cdv qual = true
  kp : PySem.W.keepIn K (.ref f) = true
def Gx.RawD (g : Gx) (x qual : Str) (st : Stmt) (ps : List Str) (dvs : List V) : Prop := ∃ f fd T ds, FunD g.K x qual st f fd T ∧ Vals dvs ds ∧ Binds g.K fd ps ds ∧ g.mg x = some (.ref f)
def Gx.FnD (g : Gx) (k : Nat) (x : Str) (ps : List Str) (dvs : List V) (sp : Sp) : Prop := ∃ f fd ds, FnOk g.P g.w g.K g.mg g.base CX0 k f fd ps sp ∧ Vals dvs ds ∧ Binds g.K fd ps ds ∧ PySem.W.keepIn g.K (.ref f) = true ∧ g.mg x = some (.ref f)
section
variable {g : Gx} {x qual : Str} {st : Stmt} {N ps : List Str} {dvs : List V} {sp : Sp} {j k : Nat}
theorem Gx.RawD.fnD (R : g.RawD x qual st ps dvs) (S : FnScope N ps (defScope st)) (len : ∀ vs H Q E, sp vs H Q E → vs.length = ps.length) (b : Body g k N qual st sp) : g.FnD (k + 1) x ps dvs sp := by
  obtain ⟨f, fd, T, ds, F, hv, bd, hm⟩ := R
  refine ⟨f, fd, ds, ?_, hv, bd, F.kp, hm⟩
  obtain ⟨oc, od, kV, doc, pm, an, cdv, ct, osl, rfl, lk, hcd⟩ := F.ex
  refine fn_of lk hcd S len fun A outer s H vs Q E hr hsp => ?_
  obtain ⟨t, h, q⟩ := b f cdv A outer s H vs Q E hr hsp
  exact ⟨t, h.nox, q⟩
theorem Gx.FnD.mono (F : g.FnD j x ps dvs sp) (h : j ≤ k) : g.FnD k x ps dvs sp := by
  obtain ⟨f, fd, ds, F, r⟩ := F
  exact ⟨f, fd, ds, F.mono h, r⟩
variable {X : Cx} {p pos : Pos} {e : Expr} {es : List Expr} {t : TA}
theorem pe_fnD (F : g.FnD j x ps dvs sp) (hr : Room k X.A) (ha : PA X (e :: es) t) (hj : j ≤ k := by omega) (hX : X.gx = g := by rfl) (hg : Gl X x := by rfl) (hdb : (x == ("__debug__" : Str)) = false := by decide)
    (he : starEach (e :: es) X.env = (false, eval e X.env) :: starEach es X.env := by rfl) (hpl : (backTo pos (starEach es X.env)).any (·.1) = false := by rfl) : PE X (.Call (.Name x p) (e :: es) [] pos) (tCall sp dvs E0 t) := by
  subst hX
  obtain ⟨f, fd, ds, F, hv, b, kp, hm⟩ := F
  exact pe_call F (hr.mono hj) hg hm kp b hv pass0 ha hdb he hpl
end
/-! list(range(n)) -/
section
variable {X : Cx}
def tLR (ta : TA) : TE := fun σ H Q => ta σ H fun vs H1 => ∃ n : Nat, vs = [.int n] ∧ n ≤ 10000 ∧ ∀ l, H1 l = none → Q (.ref l) (upd H1 l (.lst ((List.range n).map fun (i : Nat) => V.int (i : Int))))
theorem vals_mk : ∀ (n k : Nat) (us : List Value), us.length = n → (∀ (j : Nat) u, us[j]? = some u → ∃ t, u = .int ((k + j : Nat) : Int) t) → Vals ((List.range' k n).map fun (i : Nat) => V.int (i : Int)) us
  | 0, k, us, hl, _ => by
    have : us = [] := List.length_eq_zero_iff.mp hl
    subst this
    exact .nil
  | n + 1, k, u :: us, hl, h => by
    rw [List.range'_succ, List.map_cons]
    refine .cons ?_ (vals_mk n (k + 1) us (by simpa using hl) fun j v hv => ?_)
    · obtain ⟨t, e⟩ := h 0 u rfl
      exact ⟨t, by simpa using e⟩
    · obtain ⟨t, e⟩ := h (j + 1) v (by simpa using hv)
      exact ⟨t, by rw [e]; congr 2; omega⟩
theorem items_vals {n : Nat} {acc : Array Value} (h : ItemsOf (fun i v => ∃ t, v = .int (0 + (i : Int) * 1) t) acc n) : Vals ((List.range n).map fun (i : Nat) => V.int (i : Int)) acc.toList := by
  rw [List.range_eq_range']
  refine vals_mk n 0 acc.toList (by rw [Array.length_toList]; exact h.1) fun j u hu => ?_
  obtain ⟨t, e⟩ := h.2 j u (by rw [← Array.getElem?_toList]; exact hu)
  exact ⟨t, by rw [e]; congr 1; omega⟩
theorem pe_list_range {a : Expr} {ta : TA} {p q pos pos' : Pos} (hgl : Gl X "list") (hml : X.mg "list" = none) (hg : Gl X "range") (hm : X.mg "range" = none) (ha : PA X [a] ta) (hc : X.calm = true := by rfl)
    (hs : starEach [a] X.env = [(false, eval a X.env)] := by rfl) :
    PE X (.Call (.Name "list" p) [.Call (.Name "range" q) [a] [] pos'] [] pos) (tLR ta) := by
  intro pins s σ H Q I h
  refine wpAny_Call_Name_kw (ld_blt I hgl hml boot_list ?_)
  refine PyProof.Rows.callWith_type1 ?_
  show wpAny _ _ (spliced ((false, eval (.Call (.Name "range" q) [a] [] pos') X.env) :: [])) _ _ s
  refine Calls.spliced_cons ?_
  refine wpAny_Call_Name_kw (ld_blt I hg hm boot_range (PyProof.Rows.callWith_type1 (thn (ha pos' pins s σ H _ I h) fun us s1 ⟨vs, H1, I1, r1, q1⟩ => ?_) hs rfl))
  obtain ⟨n, e, hn, q⟩ := q1
  subst e
  obtain ⟨u, rfl, t, rfl⟩ := vals1 r1
  refine call_range_1 ?_
  refine Calls.spliced_nil ?_
  have I2 : Inv X pins σ H1 { s1 with heap := s1.heap.push { cls := .type "range", data := .fields #[.int 0 s1.toks, .int (n : Int) t, .int 1 (s1.toks + 1)] }, toks := s1.toks + 1 + 1 } := I1.kept (t' := s1.toks + 1 + 1) (fun b o e => Heap.get?_push_of_some _ e)
  have hsz : Builtin.Range.rangeSize 0 (n : Int) 1 = n := by rw [rangeSize_one]; split <;> omega
  have hz : ((List.range n).map fun (i : Nat) => V.int (i : Int)).length ≤ sizeLine := by rw [List.length_map, List.length_range]; exact Nat.le_trans hn (by decide)
  refine call_list_range (I2.ok.hd hc) (IsRange.new _ _ _ _ _ _ _) ?sm hsz (by omega) fun h' tk acc c' kp hS hI => ?_
  case sm =>
    simp [Builtin.Range.small, hsz, Builtin.Range.rangeFitsLong]
    omega
  exact ⟨.ref _, _, I2.laid (t' := tk) kp (Nat.le_refl _) (show ObjOk X.prog X.w _ h' _ (.lst ((List.range n).map fun (i : Nat) => V.int (i : Int))) from ⟨hz, acc.toList, c', items_vals hI, by simpa using hS⟩), rfl, q _ (I2.hok.fresh (Nat.le_refl _))⟩
end
section
variable {src : List (Option Nat)} {te : TE} {σ : St} {H : Hp} {Q : VK}
/-- a comprehension over a list with a promise of its own, that need not keep the heap -/
theorem tLC_listI {K : PySem.W.Frag} {tl : TE} {xs : List V} {b : Addr} (I : Addr → Nat → List V → Hp → Prop) (ha : ∀ R : V → Hp → Prop, R (.ref b) H → tl σ H R) (hS : SqL K H b xs) (hlen : xs.length ≤ 100000)
    (i0 : ∀ D, H D = none → I D 0 [] (upd H D (.lst []))) (dl : ∀ D i zs H', H D = none → I D i zs H' → zs.length = i ∧ H' D = some (.lst zs) ∧ SqL K H' b xs)
    (step : ∀ D (i : Nat) x zs H', H D = none → xs[i]? = some x → I D i zs H' → ∀ R : VK, (∀ y H'', H'' D = some (.lst zs) → I D (i + 1) (zs ++ [y]) (upd H'' D (.lst (zs ++ [y]))) → R y H'') → te (some x :: capSt src σ) H' R)
    (fin : ∀ D zs H', H D = none → I D xs.length zs H' → Q (.ref D) H') : tLC (none :: src) (iList K tl) (gName 0) tYes te σ H Q := by
  refine ha _ ⟨b, rfl, ⟨xs, hS⟩, fun D hD => ?_⟩
  have h6 : 100000 < sizeLine := by decide
  refine lc_on itseq_list (fun i zs σ' H' => (∃ o, σ' = o :: capSt src σ) ∧ i ≤ xs.length ∧ I D i zs H') ⟨⟨none, rfl⟩, Nat.zero_le _, i0 D hD⟩ (fun i zs σ' H' q => ⟨(dl _ _ _ _ hD q.2.2).2.2, (dl _ _ _ _ hD q.2.2).2.1⟩) (gName_mono 0) ?_ ?_
  · rintro i zs σ' H' x hx ⟨⟨o, rfl⟩, _, hI⟩
    have hi : i < xs.length := (List.getElem?_eq_some_iff.mp hx).1
    have hl := (dl _ _ _ _ hD hI).1
    show te (some x :: capSt src σ) H' _
    exact step D i x zs H' hD hx hI _ fun y H'' hd hI' => ⟨hd, by omega, ⟨_, rfl⟩, hi, hI'⟩
  · rintro zs σ' H' ⟨_, _, hI⟩
    exact fin D zs H' hD hI
end
end L2
namespace L2
open PySem PySem.Spec PyProof.Rows
/-! keys that are tuples in tuples -/
mutual
/-- a key in the heap: whole numbers, texts, tuples of them, of any depth -/
inductive RK (h : Heap) : Value → PyData → Prop
  | int (i : Int) (t : Tok) : RK h (.int i t) (.int i)
  | str (x : Str) (t : Tok) (hx : PyData.strOk x = true) : RK h (.str x t) (.str x)
  | tup {a : Addr} {o : Obj} {vs : Array Value} {n : Nat} {ds : List PyData} : h.get? a = some o → o.cls = .type "tuple" → o.data = .seq vs n → RKs h vs.toList ds → RK h (.ref a) (.tuple ds)
inductive RKs (h : Heap) : List Value → List PyData → Prop
  | nil : RKs h [] []
  | cons {v : Value} {d : PyData} {vs : List Value} {ds : List PyData} : RK h v d → RKs h vs ds → RKs h (v :: vs) (d :: ds)
end
mutual
inductive KO : PyData → Prop
  | int (i : Int) : KO (.int i)
  | str (x : Str) : KO (.str x)
  | tup {ds : List PyData} : KOs ds → KO (.tuple ds)
inductive KOs : List PyData → Prop
  | nil : KOs []
  | cons {d : PyData} {ds : List PyData} : KO d → KOs ds → KOs (d :: ds)
end
mutual
theorem RK.ko {h : Heap} : ∀ {v : Value} {d : PyData}, RK h v d → KO d
  | _, _, .int i t => .int i
  | _, _, .str x t _ => .str x
  | _, _, .tup _ _ _ hs => .tup hs.ko
theorem RKs.ko {h : Heap} : ∀ {vs : List Value} {ds : List PyData}, RKs h vs ds → KOs ds
  | _, _, .nil => .nil
  | _, _, .cons a b => .cons a.ko b.ko
end
mutual
theorem RK.reads {h : Heap} : ∀ {v : Value} {d : PyData}, RK h v d → (∃ as, Reads h v d as) ∧ d.canLay0 = true
  | _, _, .int i t => ⟨⟨_, .int i t⟩, rfl⟩
  | _, _, .str x t hx => ⟨⟨_, .str x t⟩, by simpa [PyData.canLay0] using hx⟩
  | _, _, .tup h1 h2 h3 hs => by
    obtain ⟨⟨as, r⟩, l⟩ := hs.reads
    exact ⟨⟨_, .tuple h1 h2 h3 r⟩, by rw [PyData.canLay0]; exact l⟩
theorem RKs.reads {h : Heap} : ∀ {vs : List Value} {ds : List PyData}, RKs h vs ds → (∃ as, ReadsAll h vs ds as) ∧ PyData.canLayAll0 ds = true
  | _, _, .nil => ⟨⟨_, .nil⟩, rfl⟩
  | _, _, .cons a b => by
    obtain ⟨⟨as, r⟩, l⟩ := a.reads
    obtain ⟨⟨bs, r'⟩, l'⟩ := b.reads
    exact ⟨⟨_, .cons r r'⟩, by rw [PyData.canLayAll0, l, l']; rfl⟩
end
mutual
theorem RK.of {h : Heap} : ∀ {d : PyData} {v : Value} {as : List Addr}, KO d → Reads h v d as → d.canLay0 = true → RK h v d
  | .int _, _, _, _, .int i t, _ => .int i t
  | .str _, _, _, _, .str x t, l => .str x t (by simpa [PyData.canLay0] using l)
  | .tuple _, _, _, .tup k, .tuple h1 h2 h3 hs, l => .tup h1 h2 h3 (RKs.of k hs (by rw [PyData.canLay0] at l; exact l))
theorem RKs.of {h : Heap} : ∀ {ds : List PyData} {vs : List Value} {as : List Addr}, KOs ds → ReadsAll h vs ds as → PyData.canLayAll0 ds = true → RKs h vs ds
  | [], _, _, _, .nil, _ => .nil
  | _ :: _, _, _, .cons k ks, .cons r rs, l => by
    rw [PyData.canLayAll0, Bool.and_eq_true] at l
    exact .cons (RK.of k r l.1) (RKs.of ks rs l.2)
end
mutual
theorem RK.inj {h : Heap} : ∀ {d : PyData} {v : Value} {e : PyData}, RK h v d → RK h v e → d = e
  | .int _, _, _, .int i t, .int _ _ => rfl
  | .str _, _, _, .str x t _, .str _ _ _ => rfl
  | .tuple _, _, _, .tup h1 _ h3 hs, .tup k1 _ k3 ks => by
    rw [h1] at k1
    cases k1
    rw [h3] at k3
    cases k3
    rw [RKs.inj hs ks]
theorem RKs.inj {h : Heap} : ∀ {ds : List PyData} {vs : List Value} {es : List PyData}, RKs h vs ds → RKs h vs es → ds = es
  | [], _, _, .nil, .nil => rfl
  | _ :: _, _, _, .cons a b, .cons c d => by rw [RK.inj a c, RKs.inj b d]
end
mutual
theorem RK.keeps {h h' : Heap} {x : Addr} {o : Obj} {es : Array DictEntry} {ep : Nat} (ho : h.get? x = some o) (hd : o.data = .dict es ep) (hs : Heap.SameBut x h h') : ∀ {v : Value} {d : PyData}, RK h v d → RK h' v d
  | _, _, .int i t => .int i t
  | _, _, .str y t hy => .str y t hy
  | _, _, .tup (a := a) h1 h2 h3 ks => by
    have hne : a ≠ x := by
      rintro rfl
      rw [ho] at h1
      cases h1
      rw [hd] at h3
      exact nomatch h3
    exact .tup ((hs.2 a hne).trans h1) h2 h3 (RKs.keeps ho hd hs ks)
theorem RKs.keeps {h h' : Heap} {x : Addr} {o : Obj} {es : Array DictEntry} {ep : Nat} (ho : h.get? x = some o) (hd : o.data = .dict es ep) (hs : Heap.SameBut x h h') : ∀ {vs : List Value} {ds : List PyData}, RKs h vs ds → RKs h' vs ds
  | _, _, .nil => .nil
  | _, _, .cons a b => .cons (RK.keeps ho hd hs a) (RKs.keeps ho hd hs b)
end
noncomputable instance decPy : DecidableEq PyData := fun a b => Classical.propDecidable (a = b)
mutual
theorem KO.eqv : ∀ {d e : PyData}, KO d → KO e → d.eqv e = decide (d = e)
  | .int a, .int b, _, _ => by
    by_cases h : a = b
    · subst h; simp [PyData.eqv]
    · simp [PyData.eqv, h]
  | .str a, .str b, _, _ => by
    by_cases h : a = b
    · subst h; simp [PyData.eqv]
    · simp [PyData.eqv, h]
  | .int a, .str b, _, _ => by simp [PyData.eqv]
  | .str a, .int b, _, _ => by simp [PyData.eqv]
  | .int a, .tuple b, _, _ => by simp [PyData.eqv]
  | .str a, .tuple b, _, _ => by simp [PyData.eqv]
  | .tuple a, .int b, _, _ => by simp [PyData.eqv]
  | .tuple a, .str b, _, _ => by simp [PyData.eqv]
  | .tuple a, .tuple b, .tup x, .tup y => by
    rw [PyData.eqv, KOs.eqv x y]
    by_cases h : a = b
    · subst h; simp
    · simp [h]
theorem KOs.eqv : ∀ {ds es : List PyData}, KOs ds → KOs es → PyData.eqvAll ds es = decide (ds = es)
  | [], [], _, _ => by simp [PyData.eqvAll]
  | [], _ :: _, _, _ => by simp [PyData.eqvAll]
  | _ :: _, [], _, _ => by simp [PyData.eqvAll]
  | d :: ds, e :: es, .cons x xs, .cons y ys => by
    rw [PyData.eqvAll, KO.eqv x y, KOs.eqv xs ys]
    by_cases h : d = e
    · subst h
      by_cases h2 : ds = es
      · subst h2; simp
      · simp [h2]
    · simp [h]
end
section
variable {P : Program} {w : World}
mutual
def kh (P : Program) (w : World) : PyData → Int
  | .int i => (mixKind P w).hash (.inl i)
  | .str x => (mixKind P w).hash (.inr x)
  | .tuple ds => reduceHash (Builtin.Tuple.tupleHashOf (khs P w ds))
  | _ => 0
def khs (P : Program) (w : World) : List PyData → List Int
  | [] => []
  | d :: ds => kh P w d :: khs P w ds
end
mutual
def kdr : PyData → Nat
  | .int _ => 1
  | .str _ => 1
  | .tuple ds => kdrs ds + 1
  | _ => 0
def kdrs : List PyData → Nat
  | [] => 0
  | d :: ds => kdr d + kdrs ds
end
theorem khs_app (a b : List PyData) : khs P w (a ++ b) = khs P w a ++ khs P w b := by
  induction a with
  | nil => simp [khs]
  | cons x a ih => simp [khs, ih]
theorem kdrs_app (a b : List PyData) : kdrs (a ++ b) = kdrs a + kdrs b := by
  induction a with
  | nil => simp [kdrs]
  | cons x a ih => simp [kdrs, ih, Nat.add_assoc]
theorem dall_app (a b : List PyData) : PyData.depthAll (a ++ b) = max (PyData.depthAll a) (PyData.depthAll b) := by
  induction a with
  | nil => simp [PyData.depthAll]
  | cons x a ih => simp [PyData.depthAll, ih, Nat.max_assoc]
theorem typeIs_tup {s : Shared} {a : Addr} {o : Obj} (h1 : s.heap.get? a = some o) (h2 : o.cls = .type "tuple") : s.TypeIs (.ref a) "tuple" := ⟨o, h1, h2⟩
/-- a key's hash, by its data -/
theorem hash_ok : ∀ (n : Nat) {A : Around} {E : Value → Shared → Prop} {s : Shared} {v : Value} {d : PyData} {Q : Int → Shared → Prop}, RK s.heap v d → d.depth ≤ n → A.units + n < cLine → Q (kh P w d) { s with toks := s.toks + kdr d } → wpAny (model P w) A (pyHash v) Q E s
  | n, A, E, s, _, _, Q, .int i t, _, _, h => (mixKind P w).pyHash (kV_is (k := .inl i) (show RelV (.int i) (.int i t) from ⟨t, rfl⟩)) (by simpa [kh, kdr] using h)
  | n, A, E, s, _, _, Q, .str x t _, _, _, h => (mixKind P w).pyHash (kV_is (k := .inr x) (show RelV (.str x) (.str x t) from ⟨t, rfl⟩)) (by simpa [kh, kdr] using h)
  | 0, A, E, s, _, _, Q, .tup _ _ _ _, hd, _, h => by simp [PyData.depth] at hd
  | n + 1, A, E, s, _, _, Q, .tup (a := a) (ds := ds) h1 h2 h3 ks, hd, hu, h => by
    have hT := typeIs_tup h1 h2
    unfold pyHash
    first | unfold pyHashByItsType | skip
    first | refine wpAny_bind (wpAny_cRoomFor_or (.inr (by omega)) ?_) | skip
    refine wpAny_bind (wpAny_specialOf hT F.slot_tuple_hash.lookup ?_)
    show wpAny _ _ (if (some (Value.builtin "tuple.__hash__") == some Value.none) = true then _ else _) Q E s
    rw [if_neg (by rw [beq_builtin_none]; exact Bool.false_ne_true)]
    refine wpAny_bind (wpAny_specialOf hT F.slot_tuple_hash.lookup ?_)
    refine wpAny_bind (wpAny_callSpecialIfBoundUnlessNone?_slot hT F.slot_tuple_hash (wpAny_call_entry F.slot_tuple_hash hT F.entry_tuple_hash ?_ (F.args_tuple_hash_1 _)))
    show wpAny _ _ (Builtin.Tuple.tupleItemsOf (.ref a) >>= _) _ _ s
    refine wpAny_bind (wpAny_tupleItemsOf h1 h3 ?_)
    refine wpAny_bind ?_
    rw [← Array.forIn_toList]
    have hdd : PyData.depthAll ds ≤ n := by simp only [PyData.depth] at hd; omega
    refine wpAny_forIn_list _ (fun rest (b : Array Int) s' => ∃ done left, ds = done ++ left ∧ RKs s.heap rest left ∧ b.toList = khs P w done ∧ s' = { s with toks := s.toks + kdrs done }) _ ?_ ?_ _ _ ⟨[], ds, rfl, ks, by simp [khs], by simp [kdrs]⟩
    · rintro x rest b s' ⟨done, left, e, hl, hb, rfl⟩
      cases hl with
      | @cons _ d _ ds' hk hl' =>
        have hdk : d.depth ≤ n := by
          rw [e, dall_app] at hdd
          simp only [PyData.depthAll] at hdd
          omega
        have hin : A.in1.units + n < cLine := by
          have : A.in1.units = A.units + 1 := rfl
          omega
        refine wpAny_bind (hash_ok n (s := { s with toks := s.toks + kdrs done }) hk hdk hin ?_)
        have fin : ∃ done' left', ds = done' ++ left' ∧ RKs s.heap rest left' ∧ (b.push (kh P w d)).toList = khs P w done' ∧ ({ s with toks := s.toks + kdrs done + kdr d } : Shared) = { s with toks := s.toks + kdrs done' } :=
          ⟨done ++ [d], ds', by rw [e]; simp, hl', by rw [khs_app, Array.toList_push, hb]; simp [khs], by rw [kdrs_app]; simp [kdrs, Nat.add_assoc]⟩
        first
          | exact wpAny_pure fin
          | exact wpAny_bind (wpAny_pure (wpAny_pure fin))
    · rintro b s' ⟨done, left, e, hl, hb, rfl⟩
      cases hl
      rw [List.append_nil] at e
      subst e
      show wpAny _ _ (retInt (Builtin.Tuple.tupleHashOf b.toList)) _ _ _
      rw [hb]
      refine wpAny_ret_mkInt ?_
      simp only [kh, kdr] at h
      unfold reduceHash at h
      show wpAny _ _ (if (decide (-(2 : Int) ^ 63 ≤ Builtin.Tuple.tupleHashOf (khs P w ds)) && decide (Builtin.Tuple.tupleHashOf (khs P w ds) < 2 ^ 63)) = true then _ else _) Q E _
      by_cases hr : (decide (-(2 : Int) ^ 63 ≤ Builtin.Tuple.tupleHashOf (khs P w ds)) && decide (Builtin.Tuple.tupleHashOf (khs P w ds) < 2 ^ 63)) = true
      · rw [if_pos hr]
        rw [if_pos hr] at h
        exact wpAny_pure (by simpa [Nat.add_assoc] using h)
      · rw [if_neg hr]
        rw [if_neg hr] at h
        exact wpAny_bind (wpAny_rule (wpAny_pure (by simpa [Nat.add_assoc] using h)))
/-- nothing of one's own is asked when keys are held against one another -/
theorem quiet_ok : ∀ (n : Nat) {A : Around} {E : Value → Shared → Prop} {s : Shared} {v : Value} {d : PyData} {Q : Bool → Shared → Prop}, RK s.heap v d → d.depth ≤ n → Q true s → wpAny (model P w) A (eqIsQuiet n v) Q E s
  | n, A, E, s, _, _, Q, .int i t, _, h => by rw [eqIsQuiet_byValue _ (by rfl)]; exact wpAny_pure h
  | n, A, E, s, _, _, Q, .str x t _, _, h => by rw [eqIsQuiet_byValue _ (by rfl)]; exact wpAny_pure h
  | 0, A, E, s, _, _, Q, .tup _ _ _ _, hd, h => by simp [PyData.depth] at hd
  | n + 1, A, E, s, _, _, Q, .tup (a := a) (ds := ds) h1 h2 h3 ks, hd, h => by
    have hT := typeIs_tup h1 h2
    have hdd : PyData.depthAll ds ≤ n := by simp only [PyData.depth] at hd; omega
    unfold eqIsQuiet
    refine wpAny_bind (wpAny_specialOf hT F.slot_tuple_eq.lookup ?_)
    refine wpAny_bind (wpAny_isInstance hT isSubtype_tuple_tuple ?_)
    simp only [Bool.not_true, Bool.false_eq_true, if_false]
    refine wpAny_bind (wpAny_seqItems h1 h3 ?_)
    refine wpAny_bind ?_
    rw [Option.getD_some, ← Array.forIn_toList]
    refine wpAny_forIn_list _ (fun rest r s' => r.1 = none ∧ s' = s ∧ ∃ left, RKs s.heap rest left ∧ PyData.depthAll left ≤ n) _ ?_ ?_ _ _ ⟨rfl, rfl, ds, ks, hdd⟩
    · rintro v rest r s' ⟨hr, rfl, left, hl, hdl⟩
      cases hl with
      | @cons _ d _ ds' hk hl' =>
        simp only [PyData.depthAll] at hdl
        refine wpAny_bind (quiet_ok n hk (by omega) ?_)
        simp only [Bool.not_true, Bool.false_eq_true, if_false]
        exact wpAny_pure ⟨rfl, rfl, ds', hl', by omega⟩
    · rintro ⟨r1, r2⟩ s' ⟨hr, rfl, _⟩
      simp only at hr
      subst hr
      exact wpAny_pure h
noncomputable def deepKind (P : Program) (w : World) : HeapKind P w PyData where
  is := fun h d a => RK h (.ref a) d ∧ d.depth ≤ 8
  hash := kh P w
  draws := kdr
  room := fun A => A.units + 8 < cLine
  inj := fun hx hy => hx.1.inj hy.1
  keeps := fun x ho hd hs => ⟨x.1.keeps ho hd hs, x.2⟩
  pyHash := fun hu hk h => hash_ok 8 hk.1 hk.2 hu h
  eqBool := fun {A E s x y a b Q} hu hx hy h => by
    obtain ⟨⟨as, r1⟩, l1⟩ := hx.1.reads
    obtain ⟨⟨bs, r2⟩, l2⟩ := hy.1.reads
    have hm : min x.depth y.depth ≤ 8 := Nat.le_trans (Nat.min_le_left _ _) hx.2
    exact SeqAt.eqAt_reads x y A s _ _ _ _ r1 r2 l1 l2 (by omega) P w E Q (by rw [KO.eqv hx.1.ko hy.1.ko]; exact h)
  quiet := fun hk h => quiet_ok 8 hk.1 hk.2 h
end
/-! dicts of such keys; what they hold are things of the heap -/
abbrev Dx := List (PyData × Addr × Addr)
def dconv (x : PyData × Addr × Addr) : PyData × Addr × Value := (x.1, x.2.1, .ref x.2.2)
noncomputable def DDi (P : Program) (w : World) (a : Addr) (xs : Dx) : HO := .ext fun h => (a == sysModules) = false ∧ ∃ o es ep, h.get? a = some o ∧ o.ExactDict ∧ o.data = .dict es ep ∧ es.toList = (xs.map dconv).map (entryOfKey (deepKind P w))
theorem ddi_mk {P : Program} {w : World} {H : Hp} {h : Heap} {a : Addr} {xs : Dx} (hd : (a == sysModules) = false) (e : ∃ o es ep, h.get? a = some o ∧ o.ExactDict ∧ o.data = .dict es ep ∧ es.toList = (xs.map dconv).map (entryOfKey (deepKind P w))) : ObjOk P w H h a (DDi P w a xs) := by
  refine ⟨⟨hd, e⟩, ?_, fun h1 h2 p k => ?_⟩
  · obtain ⟨o, es, ep, h1, _⟩ := e
    exact ⟨o, h1⟩
  · obtain ⟨q, o, es, ep, g1, g2⟩ := p
    exact ⟨q, o, es, ep, k _ g1, g2⟩
/-- a key -/
structure DK (K : PySem.W.Frag) (H : Hp) (b : Addr) (d : PyData) : Prop where
  den : Den K H (.ref b) d
  ko : KO d
  dp : d.depth ≤ 8
noncomputable def lookD (xs : Dx) (d : PyData) : Option Addr := (xs.find? fun x => decide (x.1 = d)).map (·.2.2)
structure DictD (P : Program) (w : World) (K : PySem.W.Frag) (H : Hp) (a : Addr) (xs : Dx) : Prop where
  at_ : H a = some (DDi P w a xs)
  nd : (xs.map (·.1)).Nodup
  len : xs.length ≤ 1000
  keys : ∀ x ∈ xs, DK K H x.2.1 x.1
section
variable {X : Cx} {pins : List (Addr × Obj)} {σ : St} {H : Hp} {s : Shared} {a b : Addr} {d : PyData} {xs : Dx} {u r : Value} {A : Around} {E : Value → Shared → Prop}
theorem dk_is (I : Inv X pins σ H s) (h : DK X.K H b d) : (deepKind X.prog X.w).is s.heap d b := by
  obtain ⟨as, r⟩ := h.den.reads I (show RelV (.ref b) (.ref b) from rfl)
  exact ⟨RK.of h.ko r h.den.lay, h.dp⟩
theorem dd_of (I : Inv X pins σ H s) (h : DictD X.prog X.w X.K H a xs) : (a == sysModules) = false ∧ s.heap.DictOfH (deepKind X.prog X.w) a (xs.map dconv) := by
  obtain ⟨⟨hd, o, es, ep, h1, h2, h3, h4⟩, _⟩ := (show ObjOk X.prog X.w H s.heap a (DDi X.prog X.w a xs) from I.hok a _ h.at_)
  refine ⟨hd, o, es, ep, h1, h2, h3, h4, fun x hx => ?_, ?_⟩
  · obtain ⟨y, hy, rfl⟩ := List.mem_map.mp hx
    exact dk_is I (h.keys y hy)
  · have : (xs.map dconv).map (·.1) = xs.map (·.1) := by rw [List.map_map]; rfl
    rw [this]; exact h.nd
theorem atKey_dconv (xs : Dx) (d : PyData) : (atKey (xs.map dconv) d).map (·.2) = (lookD xs d).map Value.ref := by
  induction xs with
  | nil => rfl
  | cons x xs ih =>
    by_cases h : x.1 = d
    · simp [atKey, lookD, List.find?_cons, dconv, h]
    · simp only [atKey, lookD, List.map_cons, List.find?_cons, dconv, h] at ih ⊢
      simpa using ih
/-- d[y], there -/
theorem dd_getItem {p : Addr} {Q : Value → Shared → Prop} (hu : A.units + 9 < cLine) (I : Inv X pins σ H s) (g : DictD X.prog X.w X.K H a xs) (k : DK X.K H b d) (l : lookD xs d = some p) (h : ∀ s', Inv X pins σ H s' → Q (.ref p) s') :
    wpAny (model X.prog X.w) A (getItem (.ref a) (.ref b)) Q E s := by
  obtain ⟨hd, dd⟩ := dd_of I g
  have e := atKey_dconv xs d
  rw [l] at e
  obtain ⟨q, hq, hq2⟩ := Option.map_eq_some_iff.mp e
  refine wpAny_getItem_heap (show A.in1.units + 8 < cLine from by have : A.in1.units = A.units + 1 := rfl; omega) (dk_is I k) dd hq ?_
  rw [hq2]
  exact h _ (I.tok _)
theorem dd_notIn {Q : Value → Shared → Prop} (hu : A.units + 9 < cLine) (I : Inv X pins σ H s) (g : DictD X.prog X.w X.K H a xs) (k : DK X.K H b d) (h : ∀ s', Inv X pins σ H s' → Q (.bool (!(lookD xs d).isSome)) s') :
    wpAny (model X.prog X.w) A (compareOp .NotIn (.ref b) (.ref a)) Q E s := by
  obtain ⟨hd, dd⟩ := dd_of I g
  refine wpAny_notIn_heap (show A.in1.units + 8 < cLine from by have : A.in1.units = A.units + 1 := rfl; omega) (dk_is I k) hd dd ?_
  have e := congrArg Option.isSome (atKey_dconv xs d)
  rw [Option.isSome_map, Option.isSome_map] at e
  rw [e]
  exact h _ (I.tok _)
/-- d[y] = v, y new -/
theorem dd_setItem {p : Addr} {Q : Unit → Shared → Prop} (hu : A.units + 9 < cLine) (I : Inv X pins σ H s) (g : DictD X.prog X.w X.K H a xs) (k : DK X.K H b d) (l : lookD xs d = none) (hl : xs.length < 1000) (h : ∀ s', Inv X pins σ (upd H a (DDi X.prog X.w a (xs ++ [(d, b, p)]))) s' → Q () s') :
    wpAny (model X.prog X.w) A (setItem (.ref a) (.ref b) (.ref p)) Q E s := by
  obtain ⟨hd, dd⟩ := dd_of I g
  have hz : (xs.map dconv).length ≤ sizeLine := by rw [List.length_map]; exact Nat.le_trans (Nat.le_of_lt hl) (by decide)
  refine wpAny_setItem_heap (hsz := hz) (show A.in1.units + 8 < cLine from by have : A.in1.units = A.units + 1 := rfl; omega) (dk_is I k) dd fun h' dd' hs => h _ ?_
  have e : atKey (xs.map dconv) d = none := by
    have e := atKey_dconv xs d
    rw [l] at e
    cases q : atKey (xs.map dconv) d with
    | none => rfl
    | some z => rw [q] at e; cases e
  rw [storedH_new e] at dd'
  obtain ⟨q, es, ep, hq, h2, h3, h4, _, h5⟩ := dd'
  refine d_write I (by rw [g.at_]; exact True.intro) hs ⟨q, hq⟩ (ddi_mk hd ⟨q, es, ep, hq, h2, h3, ?_⟩)
  rw [h4, List.map_append (f := dconv)]
  rfl
end
/-- d[y]; y not in d; d[y] = v of a new key; {} -/
def tDGetD (P : Program) (w : World) (K : PySem.W.Frag) (td ty : TE) : TE := fun σ H Q => td σ H fun x H1 => ty σ H1 fun y H2 => ∃ a b xs d p, x = .ref a ∧ y = .ref b ∧ DictD P w K H2 a xs ∧ DK K H2 b d ∧ lookD xs d = some p ∧ Q (.ref p) H2
def tDNotInD (P : Program) (w : World) (K : PySem.W.Frag) (ty td : TE) : TE := fun σ H Q => ty σ H fun y H1 => td σ H1 fun x H2 => ∃ a b xs d, x = .ref a ∧ y = .ref b ∧ DictD P w K H2 a xs ∧ DK K H2 b d ∧ Q (.bl (!(lookD xs d).isSome)) H2
def sDPutD (P : Program) (w : World) (K : PySem.W.Frag) (td ty tv : TE) : TS := fun D σ H => tv σ H fun v H1 => td σ H1 fun x H2 => ty σ H2 fun y H3 => ∃ a b xs d p, v = .ref p ∧ x = .ref a ∧ y = .ref b ∧ DictD P w K H3 a xs ∧ DK K H3 b d ∧ lookD xs d = none ∧ xs.length < 1000 ∧ D.nx σ (upd H3 a (DDi P w a (xs ++ [(d, b, p)])))
def tDNewD (P : Program) (w : World) : TE := fun _ H Q => ∀ p, H p = none → Q (.ref p) (upd H p (DDi P w p []))
section
variable {X : Cx} {o i e value : Expr} {pos pos' tpos : Pos} {td ty tv : TE} {k : Nat}
theorem hu9_of {A : Around} {k : Nat} (hr : Room k A) : A.units + 9 < cLine := Nat.lt_of_le_of_lt (Nat.add_le_add_left (by decide : 9 ≤ 64) _) hr.units
theorem pe_dgetD (hr : Room k X.A) (ho : PE X o td) (hi : PE X i ty) (hs : NoSl i) : PE X (.Subscript o i pos) (tDGetD X.prog X.w X.K td ty) := by
  intro pins s σ H Q I h
  refine subD_of PySem.F.slot_dict_getitem.lookup hs (thn (ho pins s σ H _ I h) fun u s1 ⟨x, H1, I1, rx, q1⟩ => thn (hi pins s1 σ H1 _ I1 q1) fun iv s2 ⟨y, H2, I2, ry, a, b, xs, d, p, ex, ey, g, kk, l, q2⟩ => ?_)
  subst ex ey
  obtain rfl : u = Value.ref a := rx
  obtain rfl : iv = Value.ref b := ry
  exact ⟨(dd_of I2 g).2.typeIs, dd_getItem (hu9_of hr) I2 g kk l fun s3 I3 => ⟨.ref p, H2, I3, rfl, q2⟩⟩
theorem ps_dputD (hr : Room k X.A) (ho : PE X o td) (hi : PE X i ty) (hv : PE X value tv) (hs : swapsWith value (some (.Subscript o i pos')) pos.line X.env = pure false) :
    PS X (.Assign [.Subscript o i pos'] value pos) (sDPutD X.prog X.w X.K td ty tv) := by
  intro pins s σ H D I h
  refine wpAny_Assign_Subscript (thn (hv pins s σ H _ I h) fun r s1 ⟨v, H1, I1, rv, q1⟩ => thn (ho pins s1 σ H1 _ I1 q1) fun u s2 ⟨x, H2, I2, rx, q2⟩ => thn (hi pins s2 σ H2 _ I2 q2) fun iv s3 ⟨y, H3, I3, ry, a, b, xs, d, p, ev, ex, ey, g, kk, l, hl, q3⟩ => ?_) hs
  subst ex ey ev
  obtain rfl : u = Value.ref a := rx
  obtain rfl : iv = Value.ref b := ry
  obtain rfl : r = Value.ref p := rv
  exact dd_setItem (hu9_of hr) I3 g kk l hl fun s4 I4 => ⟨σ, _, I4, q3⟩
theorem pe_dnewD : PE X (.Dict [] [] pos) (tDNewD X.prog X.w) := fun pins s σ H Q I h =>
  wpAny_Dict_empty ⟨.ref s.heap.objs.size, _, I.laid (a := s.heap.objs.size) (o := DDi X.prog X.w s.heap.objs.size []) (t' := s.toks) (fun _ _ q => Heap.get?_push_of_some _ q) (Nat.le_refl _) (ddi_mk (beq_eq_false_iff_ne.mpr (Ne.symm (Nat.ne_of_lt I.big))) ⟨_, #[], 0, Heap.get?_push_size _ rfl, ⟨rfl, rfl, rfl⟩, rfl, rfl⟩), rfl, h _ (I.hok.fresh (Nat.le_refl _))⟩
end
/-! a key stays where tuples stay -/
def TupK (H H' : Hp) : Prop := ∀ b xs, Rd H b (.tup xs) → Rd H' b (.tup xs)
theorem TupK.sq {K : PySem.W.Frag} {H H' : Hp} (t : TupK H H') {b : Addr} {xs : List V} (h : SqT K H b xs) : SqT K H' b xs := by
  rcases h with h | h
  · exact .inl (t _ _ h)
  · exact .inr h
theorem TupK.trans {H H1 H2 : Hp} (a : TupK H H1) (b : TupK H1 H2) : TupK H H2 := fun c xs e => b c xs (a c xs e)
theorem tupK_of {H H' : Hp} (s : Same H H') : TupK H H' := fun b xs h => by
  rcases h with h | ⟨o, h⟩
  · exact .inl (s _ _ h)
  · exact .inr ⟨o, s _ _ h⟩
theorem tupK_but {H H' : Hp} {P : Addr} {u : HO} (hk : ∀ b o, b ≠ P → H b = some o → H' b = some o) (hP : H P = some u) (h1 : ∀ xs, u ≠ .tup xs) (h2 : ∀ o v, u ≠ .frz o v) : TupK H H' := fun b xs h => by
  rcases h with h | ⟨o, h⟩
  · exact .inl (hk _ _ (ne_of h hP (fun z => h1 _ z.symm)) h)
  · exact .inr ⟨o, hk _ _ (ne_of h hP (fun z => h2 _ _ z.symm)) h⟩
mutual
theorem den_tupk {K : PySem.W.Frag} {H H' : Hp} (t : TupK H H') : ∀ {d : PyData} {v : V}, KO d → Den K H v d → Den K H' v d
  | .int _, _, _, .int i => .int i
  | .str _, _, _, .str x h => .str x h
  | .tuple _, _, .tup k, .tup h hs => .tup (t.sq h) (dens_tupk t k hs)
theorem dens_tupk {K : PySem.W.Frag} {H H' : Hp} (t : TupK H H') : ∀ {ds : List PyData} {vs : List V}, KOs ds → Dens K H vs ds → Dens K H' vs ds
  | [], _, _, .nil => .nil
  | _ :: _, _, .cons k ks, .cons a b => .cons (den_tupk t k a) (dens_tupk t ks b)
end
theorem DK.tupk {K : PySem.W.Frag} {H H' : Hp} {b : Addr} {d : PyData} (h : DK K H b d) (t : TupK H H') : DK K H' b d := ⟨den_tupk t h.ko h.den, h.ko, h.dp⟩
theorem DictD.keep {P : Program} {w : World} {K : PySem.W.Frag} {H H' : Hp} {a : Addr} {xs : Dx} (h : DictD P w K H a xs) (t : TupK H H') (e : H' a = some (DDi P w a xs)) : DictD P w K H' a xs := ⟨e, h.nd, h.len, fun x hx => (h.keys x hx).tupk t⟩
theorem lookD_none {xs : Dx} {d : PyData} (h : lookD xs d = none) : d ∉ xs.map (·.1) := by
  intro hm
  obtain ⟨x, hx, rfl⟩ := List.mem_map.mp hm
  unfold lookD at h
  rw [Option.map_eq_none_iff, List.find?_eq_none] at h
  exact h x hx (by simp)
theorem lookD_snoc (xs : Dx) (d e : PyData) (b p : Addr) (h : lookD xs d = none) : lookD (xs ++ [(d, b, p)]) e = if e = d then some p else lookD xs e := by
  unfold lookD
  rw [List.find?_append]
  by_cases c : e = d
  · subst c
    have h' : xs.find? (fun x => decide (x.1 = e)) = none := by
      unfold lookD at h
      rwa [Option.map_eq_none_iff] at h
    rw [h', if_pos rfl]
    simp
  · rw [if_neg c]
    have : ([(d, b, p)] : Dx).find? (fun x => decide (x.1 = e)) = none := by simp [Ne.symm c]
    rw [this]
    simp
theorem DictD.put {P : Program} {w : World} {K : PySem.W.Frag} {H : Hp} {a b p : Addr} {d : PyData} {xs : Dx} (h : DictD P w K H a xs) (k : DK K H b d) (l : lookD xs d = none) (hl : xs.length < 1000) : DictD P w K (upd H a (DDi P w a (xs ++ [(d, b, p)]))) a (xs ++ [(d, b, p)]) := by
  have t : TupK H (upd H a (DDi P w a (xs ++ [(d, b, p)]))) := tupK_but (fun b o hb e => by rw [upd_ne hb]; exact e) h.at_ (by intro xs z; cases z) (by intro o v z; cases z)
  refine ⟨upd_same, ?_, by rw [List.length_append, List.length_singleton]; omega, fun x hx => ?_⟩
  · rw [List.map_append]
    refine List.nodup_append.mpr ⟨h.nd, by simp, fun x hx y hy e => ?_⟩
    subst e
    have : x = d := by simpa using hy
    subst this
    exact lookD_none l hx
  · rcases List.mem_append.mp hx with hx | hx
    · exact (h.keys x hx).tupk t
    · have : x = (d, b, p) := by simpa using hx
      subst this
      exact k.tupk t
theorem dictD_new {P : Program} {w : World} {K : PySem.W.Frag} {H : Hp} {a : Addr} (h : H a = some (DDi P w a [])) : DictD P w K H a [] := ⟨h, by simp, by simp, fun x hx => by cases hx⟩
section
variable {X : Cx} {k : Nat}
theorem op_notInDD (hr : Room k X.A) : OpR X (compareOp .NotIn) (fun y x H Q => ∃ a b xs d, x = .ref a ∧ y = .ref b ∧ DictD X.prog X.w X.K H a xs ∧ DK X.K H b d ∧ Q (.bl (!(lookD xs d).isSome)) H) := by
  intro pins s σ H y x u v Q I ry rx h
  obtain ⟨a, b, xs, d, rfl, rfl, g, kk, q⟩ := h
  cases (show u = Value.ref b from ry)
  cases (show v = Value.ref a from rx)
  exact dd_notIn (hu9_of hr) I g kk fun s' I' => ⟨.bl (!(lookD xs d).isSome), H, I', rfl, q⟩
end
section
variable {X : Cx} {e : Expr} {f : Str} {pos : Pos} {ta : TE}
/-- o.f within a comprehension -/
theorem pe_fldK {K : PySem.W.Frag} (he : PE X e ta) (hb : attributeBase e f X.env (eval e X.env) = eval e X.env) (h : X.K = K := by rfl) : PE X (.Attribute e f pos) (tFld K ta f) := by subst h; exact pe_fld he hb
end
end L2
namespace L2
open PySem PySem.Spec PyProof.Rows
/-- a def with defaults, called with all its arguments -/
theorem rawD0_mk {K : PySem.W.Frag} {h : Heap} {mg : Str → Option Value} {f T : Addr} {x : Str} {st : Stmt} {oc kV dc pm cd ct : Value} {od an : Option Addr} {sl : Array (Option Value)} {o : Obj} {items : Array Value} {n : Nat} (X : K.In h) (G : h.Ns mainGlobals mg) (ps : List Str)
    (a : PySem.W.nsIn K mainGlobals x = some (some (.ref f))) (l : K.lookup f = some ⟨oc, od, .func (PySem.W.fnOf x x (defArgs st) (defBody st) (defScope st) (.ref T) kV dc pm an cd ct), sl⟩) (c : PySem.W.codeIn K cd x = true) (k : PySem.W.keepIn K (.ref f) = true)
    (t : K.lookup T = some o) (s : o.data = .seq items n)
    (b : ∀ (us : List Value), us.length = ps.length → ∃ kk, bindArgs (PySem.W.fnOf x x (defArgs st) (defBody st) (defScope st) (.ref T) kV dc pm an cd ct) ⟨us, []⟩ = seqItems? (.ref T) >>= kk ∧ kk (some items) = pure (ps.zip us)) :
    ∀ P w base, (Gx.mk P w K mg base).RawD x x st ps [] := fun P w base =>
  ⟨f, _, T, [], ⟨⟨oc, od, kV, dc, pm, an, cd, ct, sl, rfl, l, c⟩, k⟩, .nil, fun s' us hK hl => by
    rw [List.append_nil] at hl ⊢
    obtain ⟨kk, h1, h2⟩ := b us hl
    exact PySem.W.binds_K hK rfl t s h1 h2, PySem.W.mg_of X G a⟩
end L2
set_option maxHeartbeats 8000000
namespace KW
open PySem L2

def top (i : Nat) : Stmt := PySem.Challenge.pw_countgen_k82_a_deed_judge_tried.main.body.getD i (.Pass ⟨0, 0, 0, 0⟩)
abbrev s_wall : Stmt := top 0
abbrev s_copied : Stmt := top 2
theorem sc_copied : FnScope ["thing"] ["thing"] (defScope s_copied) := ⟨rfl, rfl, rfl, by decide +kernel, rfl, by decide +kernel, by decide +kernel⟩
abbrev s_parts_of : Stmt := top 9
theorem sc_parts_of : FnScope ["shape", "kind"] ["shape"] (defScope s_parts_of) := ⟨rfl, rfl, rfl, by decide +kernel, rfl, by decide +kernel, by decide +kernel⟩
abbrev s_shape_of : Stmt := top 11
abbrev s_is_whole_number : Stmt := top 13
theorem sc_is_whole_number : FnScope ["thing"] ["thing"] (defScope s_is_whole_number) := ⟨rfl, rfl, rfl, by decide +kernel, rfl, by decide +kernel, by decide +kernel⟩
abbrev s_same_each : Stmt := top 15
abbrev s_same : Stmt := top 16
theorem sc_same : FnScope ["one", "other"] ["one", "other"] (defScope s_same) := ⟨rfl, rfl, rfl, by decide +kernel, rfl, by decide +kernel, by decide +kernel⟩
abbrev s_is_truth : Stmt := top 17
theorem sc_is_truth : FnScope ["thing"] ["thing"] (defScope s_is_truth) := ⟨rfl, rfl, rfl, by decide +kernel, rfl, by decide +kernel, by decide +kernel⟩
abbrev s_is_text : Stmt := top 18
abbrev s_is_list : Stmt := top 19
abbrev s_apart : Stmt := top 21
theorem sc_apart : FnScope ["begin", "done", "model_begin", "model_done", "deeds", "state", "model_state", "place", "deed", "pair", "model_pair"] ["begin", "done", "model_begin", "model_done", "deeds"] (defScope s_apart) := ⟨rfl, rfl, rfl, by decide +kernel, rfl, by decide +kernel, by decide +kernel⟩
abbrev s_deed_judge : Stmt := top 22
theorem sc_deed_judge : FnScope ["begin", "done", "model_begin", "model_done"] ["begin", "done", "model_begin", "model_done"] (defScope s_deed_judge) := ⟨rfl, rfl, rfl, by decide +kernel, rfl, by decide +kernel, by decide +kernel⟩
abbrev s_sets_among : Stmt := top 24
abbrev s_bags_among : Stmt := top 25
abbrev s_greatest_number : Stmt := top 26
abbrev s_set_at : Stmt := top 27
abbrev s_bag_at : Stmt := top 28
abbrev s_ways_of : Stmt := top 31
theorem sc_ways_of : FnScope ["blocks"] ["blocks"] (defScope s_ways_of) := ⟨rfl, rfl, rfl, by decide +kernel, rfl, by decide +kernel, by decide +kernel⟩
abbrev s_found_in : Stmt := top 32
theorem sc_found_in : FnScope ["blocks", "number", "place", "left", "rest"] ["blocks", "number"] (defScope s_found_in) := ⟨rfl, rfl, rfl, by decide +kernel, rfl, by decide +kernel, by decide +kernel⟩
abbrev s_least_distance : Stmt := top 37
theorem sc_least_distance : FnScope ["size"] ["size"] (defScope s_least_distance) := ⟨rfl, rfl, rfl, by decide +kernel, rfl, by decide +kernel, by decide +kernel⟩
abbrev s_maker_for : Stmt := top 48
theorem sc_maker_for : FnScope ["book", "shape"] ["book", "shape"] (defScope s_maker_for) := ⟨rfl, rfl, rfl, by decide +kernel, rfl, by decide +kernel, by decide +kernel⟩
abbrev s_refuse_too_many : Stmt := top 50
theorem sc_refuse_too_many : FnScope ["count", "most"] ["count", "most"] (defScope s_refuse_too_many) := ⟨rfl, rfl, rfl, by decide +kernel, rfl, by decide +kernel, by decide +kernel⟩
abbrev s_all_made : Stmt := top 51
theorem sc_all_made : FnScope ["maker", "size"] ["maker", "size"] (defScope s_all_made) := ⟨rfl, rfl, rfl, by decide +kernel, rfl, by decide +kernel, by decide +kernel⟩
abbrev s_all_values : Stmt := top 52
theorem sc_all_values : FnScope ["book", "shape", "size", "most", "maker"] ["book", "shape", "size", "most"] (defScope s_all_values) := ⟨rfl, rfl, rfl, by decide +kernel, rfl, by decide +kernel, by decide +kernel⟩
abbrev s_holds : Stmt := top 53
theorem sc_holds : FnScope ["judge", "value"] ["judge", "value"] (defScope s_holds) := ⟨rfl, rfl, rfl, by decide +kernel, rfl, by decide +kernel, by decide +kernel⟩
abbrev s_tried_on : Stmt := top 55
theorem sc_tried_on : FnScope ["judge", "values", "tries", "value"] ["judge", "values"] (defScope s_tried_on) := ⟨rfl, rfl, rfl, by decide +kernel, rfl, by decide +kernel, by decide +kernel⟩
abbrev s_tried : Stmt := top 56
theorem sc_tried : FnScope ["book", "shape", "judge", "size", "most", "maker", "sizes", "values", "each"] ["book", "shape", "judge", "size", "most"] (defScope s_tried) := ⟨rfl, rfl, rfl, by decide +kernel, rfl, by decide +kernel, by decide +kernel⟩
abbrev s_law_cell_at : Stmt := top 58
theorem sc_law_cell_at : FnScope ["_law_script", "_law_k"] ["_law_script", "_law_k"] (defScope s_law_cell_at) := ⟨rfl, rfl, rfl, by decide +kernel, rfl, by decide +kernel, by decide +kernel⟩
abbrev s_law_whole : Stmt := top 59
theorem sc_law_whole : FnScope ["_law_found"] ["_law_found"] (defScope s_law_whole) := ⟨rfl, rfl, rfl, by decide +kernel, rfl, by decide +kernel, by decide +kernel⟩
abbrev s_law_thing : Stmt := top 60
theorem sc_law_thing : FnScope ["_law_low", "_law_more", "_law_many", "_law_bad", "_law_begin", "_law_done"] ["_law_low", "_law_more", "_law_many", "_law_bad"] (defScope s_law_thing) := ⟨rfl, rfl, rfl, by decide +kernel, rfl, by decide +kernel, by decide +kernel⟩
abbrev s_law_breach : Stmt := top 61
theorem sc_law_breach : FnScope ["_law_low", "_law_more", "_law_bad", "_law_deeds", "_law_state", "_law_deed"] ["_law_low", "_law_more", "_law_bad", "_law_deeds"] (defScope s_law_breach) := ⟨rfl, rfl, rfl, by decide +kernel, rfl, by decide +kernel, by decide +kernel⟩
abbrev s_law : Stmt := top 62
theorem sc_law : FnScope ["_law_script", "_law_low", "_law_part", "_law_size", "_law_more", "_law_bad", "_law_many", "_law_cell", "_law_one", "_law_other", "_law_judge", "_law_values", "_law_k", "_law_due", "_law_found"] ["_law_script"] (defScope s_law) := ⟨rfl, rfl, rfl, by decide +kernel, rfl, by decide +kernel, by decide +kernel⟩
abbrev s_Lister___init__ : Stmt := inClass (top 47) 0
theorem sc_Lister___init__ : FnScope ["self", "book"] ["self", "book"] (defScope s_Lister___init__) := ⟨rfl, rfl, rfl, by decide +kernel, rfl, by decide +kernel, by decide +kernel⟩
abbrev s_Lister_maker_of : Stmt := inClass (top 47) 1
theorem sc_Lister_maker_of : FnScope ["self", "shape"] ["self", "shape"] (defScope s_Lister_maker_of) := ⟨rfl, rfl, rfl, by decide +kernel, rfl, by decide +kernel, by decide +kernel⟩
abbrev s_Lister_new_maker : Stmt := inClass (top 47) 3
theorem sc_Lister_new_maker : FnScope ["self", "shape", "kind", "parts"] ["self", "shape"] (defScope s_Lister_new_maker) := ⟨rfl, rfl, rfl, by decide +kernel, rfl, by decide +kernel, by decide +kernel⟩
abbrev s_WholeMaker___init__ : Stmt := inClass (top 38) 0
theorem sc_WholeMaker___init__ : FnScope ["self", "low", "high"] ["self", "low", "high"] (defScope s_WholeMaker___init__) := ⟨rfl, rfl, rfl, by decide +kernel, rfl, by decide +kernel, by decide +kernel⟩
abbrev s_WholeMaker_reckoned : Stmt := inClass (top 38) 1
theorem sc_WholeMaker_reckoned : FnScope ["self", "size", "greatest"] ["self", "size"] (defScope s_WholeMaker_reckoned) := ⟨rfl, rfl, rfl, by decide +kernel, rfl, by decide +kernel, by decide +kernel⟩
abbrev s_WholeMaker_value_at : Stmt := inClass (top 38) 2
theorem sc_WholeMaker_value_at : FnScope ["self", "size", "number"] ["self", "size", "number"] (defScope s_WholeMaker_value_at) := ⟨rfl, rfl, rfl, by decide +kernel, rfl, by decide +kernel, by decide +kernel⟩
abbrev s_ManyMaker___init__ : Stmt := inClass (top 41) 0
theorem sc_ManyMaker___init__ : FnScope ["self", "part"] ["self", "part"] (defScope s_ManyMaker___init__) := ⟨rfl, rfl, rfl, by decide +kernel, rfl, by decide +kernel, by decide +kernel⟩
abbrev s_ManyMaker_blocks_at : Stmt := inClass (top 41) 1
theorem sc_ManyMaker_blocks_at : FnScope ["self", "left"] ["self", "left"] (defScope s_ManyMaker_blocks_at) := ⟨rfl, rfl, rfl, by decide +kernel, rfl, by decide +kernel, by decide +kernel⟩
abbrev s_ManyMaker_reckoned : Stmt := inClass (top 41) 2
theorem sc_ManyMaker_reckoned : FnScope ["self", "size"] ["self", "size"] (defScope s_ManyMaker_reckoned) := ⟨rfl, rfl, rfl, by decide +kernel, rfl, by decide +kernel, by decide +kernel⟩
abbrev s_ManyMaker_value_at : Stmt := inClass (top 41) 3
theorem sc_ManyMaker_value_at : FnScope ["self", "size", "number", "things", "left", "rest", "found"] ["self", "size", "number"] (defScope s_ManyMaker_value_at) := ⟨rfl, rfl, rfl, by decide +kernel, rfl, by decide +kernel, by decide +kernel⟩
abbrev s_Found___init__ : Stmt := inClass (top 30) 0
theorem sc_Found___init__ : FnScope ["self", "place", "choice", "rest"] ["self", "place", "choice", "rest"] (defScope s_Found___init__) := ⟨rfl, rfl, rfl, by decide +kernel, rfl, by decide +kernel, by decide +kernel⟩
abbrev s_Maker___init__ : Stmt := inClass (top 36) 0
theorem sc_Maker___init__ : FnScope ["self"] ["self"] (defScope s_Maker___init__) := ⟨rfl, rfl, rfl, by decide +kernel, rfl, by decide +kernel, by decide +kernel⟩
abbrev s_WholeMaker_count_at : Stmt := inClass (top 36) 1
theorem sc_WholeMaker_count_at : FnScope ["self", "size"] ["self", "size"] (defScope s_WholeMaker_count_at) := ⟨rfl, rfl, rfl, by decide +kernel, rfl, by decide +kernel, by decide +kernel⟩
abbrev s_ManyMaker_count_at : Stmt := inClass (top 36) 1
theorem sc_ManyMaker_count_at : FnScope ["self", "size"] ["self", "size"] (defScope s_ManyMaker_count_at) := ⟨rfl, rfl, rfl, by decide +kernel, rfl, by decide +kernel, by decide +kernel⟩
abbrev s_deed_judge_lam : Expr := retE (inDef s_deed_judge 0)
theorem sc_deed_judge_lam : ClScope ["deeds", "model_done", "model_begin", "done", "begin"] ["deeds"] ["model_done", "model_begin", "done", "begin"] (lamScope s_deed_judge_lam) := ⟨rfl, rfl, rfl, by decide +kernel, rfl, rfl, by decide, by decide +kernel, by decide +kernel, by decide +kernel, by decide +kernel⟩
abbrev q_deed_judge_lam : Str := "deed_judge.<locals>.<lambda>"
theorem qe_deed_judge_lam : ((("deed_judge" : Str) ++ (".<locals>." : Str)) ++ ("<lambda>" : Str)) = q_deed_judge_lam := by decide +kernel
abbrev fd_deed_judge_lam (cl : List (Str × Addr)) (c : Addr) (pm ctv : Value) : FuncData := PySem.W.kla_fn "<lambda>" q_deed_judge_lam (lamArgs s_deed_judge_lam) (lamBody s_deed_judge_lam) (lamScope s_deed_judge_lam) cl pm (.ref c) ctv
abbrev s_law_thing__law_begin : Stmt := inDef s_law_thing 0
theorem sc_law_thing__law_begin : ClScope [] [] [] (defScope s_law_thing__law_begin) := ⟨rfl, rfl, rfl, by decide +kernel, rfl, rfl, by decide, by decide +kernel, by decide +kernel, by decide +kernel, by decide +kernel⟩
abbrev q_law_thing__law_begin : Str := "_law_thing.<locals>._law_begin"
theorem qe_law_thing__law_begin : ((("_law_thing" : Str) ++ (".<locals>." : Str)) ++ ("_law_begin" : Str)) = q_law_thing__law_begin := by decide +kernel
abbrev fd_law_thing__law_begin (cl : List (Str × Addr)) (c : Addr) (doc pm ctv : Value) : FuncData := PySem.W.fnX "_law_begin" q_law_thing__law_begin (defArgs s_law_thing__law_begin) (defBody s_law_thing__law_begin) (defScope s_law_thing__law_begin) cl .none .none doc pm none (.ref c) ctv
abbrev s_law_thing__law_done : Stmt := inDef s_law_thing 1
theorem sc_law_thing__law_done : ClScope ["_law_state", "_law_deed", "_law_more", "_law_many", "_law_low", "_law_bad"] ["_law_state", "_law_deed"] ["_law_more", "_law_many", "_law_low", "_law_bad"] (defScope s_law_thing__law_done) := ⟨rfl, rfl, rfl, by decide +kernel, rfl, rfl, by decide, by decide +kernel, by decide +kernel, by decide +kernel, by decide +kernel⟩
abbrev q_law_thing__law_done : Str := "_law_thing.<locals>._law_done"
theorem qe_law_thing__law_done : ((("_law_thing" : Str) ++ (".<locals>." : Str)) ++ ("_law_done" : Str)) = q_law_thing__law_done := by decide +kernel
abbrev fd_law_thing__law_done (cl : List (Str × Addr)) (c : Addr) (doc pm ctv : Value) : FuncData := PySem.W.fnX "_law_done" q_law_thing__law_done (defArgs s_law_thing__law_done) (defBody s_law_thing__law_done) (defScope s_law_thing__law_done) cl .none .none doc pm none (.ref c) ctv
variable {g : Gx}
local macro_rules | `(tactic| walk_at "gn") => `(tactic| simp only [gName, List.set_cons_zero, List.set_cons_succ])
local macro_rules | `(tactic| walk_at "rd") => `(tactic| simp (config := { failIfUnchanged := false, maxSteps := 10000000 }) only [L2.start, cxOf_K, nox_K, List.map_cons, List.map_nil, List.length_cons, List.length_nil, List.cons_append, List.nil_append, List.replicate_succ, List.replicate_zero, Nat.zero_add, Nat.reduceAdd, Nat.reduceSub, Nat.sub_self, tSeq, tIfS, tTest, tOp, tC, tVar, rI0, rI, rU, tUn, tRet, tRetN, tDrop, tNext, tBreak, tCont, tAsg, gName, gNil, gCons, tCons, tNil, tCB, tCall, tTry, tTryAs, tRaise, sFld, tFld, tMake, tMeth, Ends.gone, caught_K, tB, tAnd, tOr, tNot, tAndV, tOrV, tNotV, tIf, tChain, tNoPart, tPart, tSl, tNever, tAug, rIxL, rIxT, rSlL, tLst, tTup, gTup, tRev, tLZ, tConT, tDict0, tDNewT, tDGet, sDPut, rNotInD, rInD, tEither, tSlStep, rBits, rFind, rIn, tBM, tBM0, rAppend, rReverse, rEq, rNe, scal_ii, scal_ss, rCat, rSetL, gSub, ipI, capSt, List.getD_cons_zero, List.getD_cons_succ, decide_true, not_true_eq_false, not_false_eq_true,
  exists_eq_left', exists_eq_left, exists_eq', exists_eq, exists_and_left, and_assoc, Option.some.injEq, V.int.injEq, V.bl.injEq, V.ref.injEq, V.str.injEq, List.getElem?_cons_zero, List.getElem?_cons_succ, List.set_cons_zero, List.set_cons_succ, List.cons.injEq, and_true, true_and, List.append_nil, decide_eq_true_eq, Bool.not_eq_true', decide_eq_false_iff_not, Bool.not_not, Bool.not_true, Bool.not_false, Bool.true_eq_false, Bool.false_eq_true, if_true, if_false, ite_true, ite_false])
theorem cm {i j : Int} {m n : Nat} (h1 : i.natAbs < 2 ^ m) (h2 : j.natAbs < 2 ^ n) (h : m + n ≤ 100000000 := by decide) : CMulB i j := ⟨m, n, h1, h2, h⟩
theorem cpow {i j : Int} (h : 0 ≤ j ∧ j ≤ 1000000 ∧ i.natAbs < 2 ^ 64 := by decide) : CPow i j := h
theorem few {n : Nat} (h : n ≤ 100000) : n ≤ sizeLine := Nat.le_trans h (by decide)
/-! what the law reads of its script -/
def sp_law_whole : Sp := fun vs H Q _ => ∃ i : Int, vs = [.int i] ∧ Q (.bl true) H
def sp_law_cell_at (K : PySem.W.Frag) : Sp := fun vs H Q _ => ∃ (a : Addr) (ns : List Int) (k : Nat), vs = [.ref a, .int k] ∧ SqL K H a (ns.map V.int) ∧ ns.length ≤ 63 ∧ Q (.int (ns.getD k 0)) H
theorem getD_at {ns : List Int} {k : Nat} (h : k < ns.length) : atI (ns.map V.int) (k : Int) = some (.int (ns.getD k 0)) := atI_nat (by rw [List.getElem?_map, List.getElem?_eq_getElem h]; simp [h])
theorem ok_law_whole {C_Found : Addr} {C_Lister : Addr} {C_ManyMaker : Addr} {C_WholeMaker : Addr} {c_deed_judge P_deed_judge : Addr} {c_law_thing P_law_thing : Addr} (R : g.Raw "_law_whole" "_law_whole" s_law_whole ["_law_found"]) (b_bool : g.mg "bool" = none) (b_int : g.mg "int" = none) (b_isinstance : g.mg "isinstance" = none) : g.Fn (1) "_law_whole" ["_law_found"] (sp_law_whole) := by
  refine R.fn sc_law_whole (fun vs H Q E h => by obtain ⟨i, rfl, q⟩ := h; rfl) fun f_ cdv A outer s H vs Q E hr h => ?_
  obtain ⟨i, rfl, q⟩ := h
  refine ⟨_, (@pss_one _ _ _ (@ps_ret _ _ _ _ (@pe_and _ _ _ _ _ _ _ (@pe_bf _ _ _ _ _ _ _ _ _ _ b_isinstance call_isinst (@pa_cons _ _ _ _ _ (@pv _ 0 _ _ (by rfl) (by first | exact Or.inl rfl | exact Or.inr (Or.inl rfl) | exact Or.inr (Or.inr rfl)) (by decide) (by decide)) (@pa_cons _ _ _ _ _ (@pe_bn _ _ _ _ ("int") b_int (by decide +kernel) (by rfl) (by rfl) (by decide) (by decide)) pa_nil (by rfl)) (by rfl)) (by decide +kernel) (by rfl) (by rfl) (by decide) (by decide) (by rfl) (by rfl)) (@pe_one _ _ _ _ _ (@pe_not _ _ _ _ (@pe_bf _ _ _ _ _ _ _ _ _ _ b_isinstance call_isinst (@pa_cons _ _ _ _ _ (@pv _ 0 _ _ (by rfl) (by first | exact Or.inl rfl | exact Or.inr (Or.inl rfl) | exact Or.inr (Or.inr rfl)) (by decide) (by decide)) (@pa_cons _ _ _ _ _ (@pe_bn _ _ _ _ ("bool") b_bool (by decide +kernel) (by rfl) (by rfl) (by decide) (by decide)) pa_nil (by rfl)) (by rfl)) (by decide +kernel) (by rfl) (by rfl) (by decide) (by decide) (by rfl) (by rfl))))))), ?_⟩
  walk_at "rd"
  exact ⟨_, rfl, _, .int _, true, rfl, iteT ⟨_, rfl, _, .int _, false, rfl, q⟩⟩
theorem ok_law_cell_at {C_Found : Addr} {C_Lister : Addr} {C_ManyMaker : Addr} {C_WholeMaker : Addr} {c_deed_judge P_deed_judge : Addr} {c_law_thing P_law_thing : Addr} (R : g.Raw "_law_cell_at" "_law_cell_at" s_law_cell_at ["_law_script", "_law_k"]) (b_len : g.mg "len" = none) : g.Fn (1) "_law_cell_at" ["_law_script", "_law_k"] (sp_law_cell_at g.K) := by
  refine R.fn sc_law_cell_at (fun vs H Q E h => by obtain ⟨a, ns, k, rfl, hS, hl, q⟩ := h; rfl) fun f_ cdv A outer s H vs Q E hr h => ?_
  obtain ⟨a, ns, k, rfl, hS, hl, q⟩ := h
  refine ⟨_, (@pss_cons _ _ _ _ _ (@ps_if _ _ _ _ _ _ _ _ (@pt_cmpR _ _ _ _ _ _ _ _ op_lt (@pv _ 1 _ _ (by rfl) (by first | exact Or.inl rfl | exact Or.inr (Or.inl rfl) | exact Or.inr (Or.inr rfl)) (by decide) (by decide)) (@pe_bf _ _ _ _ _ _ _ _ _ _ b_len call_len_seq (@pa_cons _ _ _ _ _ (@pv _ 0 _ _ (by rfl) (by first | exact Or.inl rfl | exact Or.inr (Or.inl rfl) | exact Or.inr (Or.inr rfl)) (by decide) (by decide)) pa_nil (by rfl)) (by decide +kernel) (by rfl) (by rfl) (by decide) (by decide) (by rfl) (by rfl)) (nomark _)) (@pss_one _ _ _ (@ps_ret _ _ _ _ (@pe_ix _ _ _ _ _ _ _ ix_list (@pv _ 0 _ _ (by rfl) (by first | exact Or.inl rfl | exact Or.inr (Or.inl rfl) | exact Or.inr (Or.inr rfl)) (by decide) (by decide)) (@pv _ 1 _ _ (by rfl) (by first | exact Or.inl rfl | exact Or.inr (Or.inl rfl) | exact Or.inr (Or.inr rfl)) (by decide) (by decide)) (fun _ _ => rfl)))) pss_nil) (@pss_one _ _ _ (@ps_ret _ _ _ _ pe_int))), ?_⟩
  walk_at "rd"
  refine ⟨_, .inl hS, ?_⟩
  refine ite2 (fun c => ?_) (fun c => ?_)
  · have c' := c
    rw [List.length_map] at c'
    exact ⟨_, hS, _, getD_at (by omega), q⟩
  · have c' := c
    rw [List.length_map] at c'
    rw [show ns.getD k 0 = 0 by simp [show ns.length ≤ k by omega]] at q
    exact q
/-- all but one thing stays -/
def SameBut (p : Addr) (H H' : Hp) : Prop := ∀ q o, q ≠ p → H q = some o → H' q = some o
theorem SameBut.refl (p : Addr) (H : Hp) : SameBut p H H := fun _ _ _ h => h
theorem SameBut.upd {p : Addr} {H H' : Hp} (a : SameBut p H H') (o : HO) : SameBut p H (upd H' p o) := fun q u n h => by rw [upd_ne n]; exact a q u n h
inductive Sh | w (lo : Int) (span : Nat) | t (sg : List Nat)
def wc (span : Int) (k : Nat) : Int := if (if (1 * 2 ^ k - 1 : Int) < span then (1 * 2 ^ k - 1 : Int) else span) - 1 * 2 ^ k / 2 ^ 1 + 1 > 0 then (if (1 * 2 ^ k - 1 : Int) < span then (1 * 2 ^ k - 1 : Int) else span) - 1 * 2 ^ k / 2 ^ 1 + 1 else 0
def cnt : Sh → Nat → Int
  | .w _ span, k => wc span k
  | .t sg, k => (sg.length : Int) ^ k
def Sh.ok : Sh → Prop
  | .w _ _ => True
  | .t sg => sg.length ≤ 62
def mf (cl : Addr) : Sh → List (Str × V)
  | .w lo span => [("counts", .ref cl), ("low", .int lo), ("span", .int span)]
  | .t sg => [("counts", .ref cl), ("signs", .str (S sg))]
def mC (CW CT : Addr) : Sh → Addr
  | .w _ _ => CW
  | .t _ => CT
def shV : Sh → List V
  | .w lo span => [.str "whole", .int lo, .int (lo + span)]
  | .t sg => [.str "text", .str (S sg)]
def AtSh (H : Hp) (a : Addr) (sh : Sh) : Prop := H a = some (.tup (shV sh))
def cnts (f : Nat → Int) (n : Nat) : List V := (List.range n).map fun k => V.int (f k)
theorem cnts_len (f : Nat → Int) (n : Nat) : (cnts f n).length = n := by simp [cnts]
theorem cnts_succ (f : Nat → Int) (n : Nat) : cnts f (n + 1) = cnts f n ++ [.int (f n)] := by simp [cnts, List.range_succ]
theorem cnts_at (f : Nat → Int) {n i : Nat} (h : i < n) : atI (cnts f n) (i : Int) = some (.int (f i)) := atI_nat (by simp [cnts, h])
/-- a maker with the counts of n sizes reckoned -/
def Maker (CW CT : Addr) (H : Hp) (p : Addr) (sh : Sh) (cl : Addr) (n : Nat) : Prop := ∃ dx, H p = some (.ins (mC CW CT sh) dx (mf cl sh)) ∧ H cl = some (.lst (cnts (cnt sh) n))
theorem ncl : ¬ (("counts" : Str) = "low") := by decide +kernel
theorem ncs : ¬ (("counts" : Str) = "span") := by decide +kernel
theorem nls : ¬ (("low" : Str) = "span") := by decide +kernel
theorem mfw (cl : Addr) (lo : Int) (span : V) : putF "span" span (putF "low" (.int lo) (putF "counts" (.ref cl) [])) = ([("counts", .ref cl), ("low", .int lo), ("span", span)] : List (Str × V)) := by
  simp only [putF, if_neg ncl, if_neg ncs, if_neg nls]
theorem mf_counts (cl : Addr) (sh : Sh) : (mf cl sh).lookup ("counts" : Str) = some (.ref cl) := by cases sh <;> rfl
theorem mf_no (cl : Addr) (sh : Sh) {m : Str} (h1 : (m == ("counts" : Str)) = false) (h2 : (m == ("low" : Str)) = false) (h3 : (m == ("span" : Str)) = false) (h4 : (m == ("signs" : Str)) = false) : (mf cl sh).lookup m = none := by
  cases sh
  · show List.lookup m [(("counts" : Str), V.ref cl), (("low" : Str), _), (("span" : Str), _)] = _
    rw [List.lookup_cons, h1, List.lookup_cons, h2, List.lookup_cons, h3]; rfl
  · show List.lookup m [(("counts" : Str), V.ref cl), (("signs" : Str), _)] = _
    rw [List.lookup_cons, h1, List.lookup_cons, h4]; rfl
theorem mf_reck (cl : Addr) (sh : Sh) : (mf cl sh).lookup ("reckoned" : Str) = none := mf_no cl sh (by decide +kernel) (by decide +kernel) (by decide +kernel) (by decide +kernel)
theorem mf_count (cl : Addr) (sh : Sh) : (mf cl sh).lookup ("count_at" : Str) = none := mf_no cl sh (by decide +kernel) (by decide +kernel) (by decide +kernel) (by decide +kernel)
theorem dle (x k : Nat) : decide ((x : Int) ≤ (k : Int)) = decide (x ≤ k) := decide_eq_decide.mpr (by omega)
theorem lt1000 {fs : List (Str × V)} (h : fs.length ≤ 3) : fs.length < 1000 := by omega
end KW
set_option maxHeartbeats 8000000
namespace KW
open PySem L2

variable {g : Gx}
variable {src : List (Option Nat)} {te : TE} {σ : St} {H : Hp} {Q : VK}
variable {m : Nat}
local macro_rules | `(tactic| walk_at "gn") => `(tactic| simp only [gName, List.set_cons_zero, List.set_cons_succ])

local macro_rules | `(tactic| walk_at "rd") => `(tactic| simp (config := { failIfUnchanged := false, maxSteps := 10000000 }) only [L2.start, cxOf_K, nox_K, List.map_cons, List.map_nil, List.length_cons, List.length_nil, List.cons_append, List.nil_append, List.replicate_succ, List.replicate_zero, Nat.zero_add, Nat.reduceAdd, Nat.reduceSub, Nat.sub_self, tSeq, tIfS, tTest, tOp, tC, tVar, rI0, rI, rU, tUn, tRet, tRetN, tDrop, tNext, tBreak, tCont, tAsg, gName, gNil, gCons, tCons, tNil, tCB, tCall, tTry, tTryAs, tRaise, sFld, tFld, tMake, tMeth, Ends.gone, caught_K, tB, tAnd, tOr, tNot, tAndV, tOrV, tNotV, tIf, tChain, tNoPart, tPart, tSl, tNever, tAug, rIxL, rIxT, rSlL, tLst, tTup, gTup, tRev, tLZ, tConT, tDict0, tDNewT, tDGet, sDPut, rNotInD, rInD, tEither, tSlStep, rBits, rFind, rIn, tBM, tBM0, rAppend, rReverse, rEq, rNe, scal_ii, scal_ss, rCat, rSetL, gSub, ipI, capSt, List.getD_cons_zero, List.getD_cons_succ, decide_true, not_true_eq_false, not_false_eq_true,
  exists_eq_left', exists_eq_left, exists_eq', exists_eq, exists_and_left, and_assoc, Option.some.injEq, V.int.injEq, V.bl.injEq, V.ref.injEq, V.str.injEq, List.getElem?_cons_zero, List.getElem?_cons_succ, List.set_cons_zero, List.set_cons_succ, List.cons.injEq, and_true, true_and, List.append_nil, decide_eq_true_eq, Bool.not_eq_true', decide_eq_false_iff_not, Bool.not_not, Bool.not_true, Bool.not_false, Bool.true_eq_false, Bool.false_eq_true, if_true, if_false, ite_true, ite_false])

def sp_Maker_init (K : PySem.W.Frag) (CW CT : Addr) : Sp := fun vs H Q _ => ∃ (p dx C : Addr), vs = [.ref p] ∧ (C = CW ∨ C = CT) ∧ H p = some (.ins C dx []) ∧ ∀ cl, H cl = none → Q .non (upd (upd H cl (.lst [])) p (.ins C dx [("counts", .ref cl)]))
theorem ok_Maker___init__ {C_Found : Addr} {C_Lister : Addr} {C_ManyMaker : Addr} {C_WholeMaker : Addr} {c_deed_judge P_deed_judge : Addr} {c_law_thing P_law_thing : Addr} (R : g.RawC "Maker" "__init__" "Maker.__init__" s_Maker___init__ ["self"]) (cl_ManyMaker : Cls g.K C_ManyMaker) (n_ManyMaker_counts : NoAttr g.K C_ManyMaker "counts") (n_ManyMaker_part : NoAttr g.K C_ManyMaker "part") (cl_WholeMaker : Cls g.K C_WholeMaker) (n_WholeMaker_counts : NoAttr g.K C_WholeMaker "counts") (n_WholeMaker_low : NoAttr g.K C_WholeMaker "low") (n_WholeMaker_span : NoAttr g.K C_WholeMaker "span") : g.Cf (1) "Maker" "__init__" ["self"] (sp_Maker_init g.K C_WholeMaker C_ManyMaker) := by
  refine R.cf sc_Maker___init__ (fun vs H Q E h => by obtain ⟨p, dx, C, rfl, hC, hp, q⟩ := h; rfl) fun f_ cdv A outer s H vs Q E hr h => ?_
  obtain ⟨p, dx, C, rfl, hC, hp, q⟩ := h
  refine ⟨_, (@pss_one _ _ _ (@ps_fld _ _ _ _ _ _ _ _ (@pv _ 0 _ _ (by rfl) (by first | exact Or.inl rfl | exact Or.inr (Or.inl rfl) | exact Or.inr (Or.inr rfl)) (by decide) (by decide)) (@pe_lst _ _ _ _ pa_nil) rfl)), ?_⟩
  walk_at "rd"
  refine ⟨few (by decide), fun cl hcl => ⟨C, dx, [], by rw [upd_ne (ne_of_none hp hcl)]; exact hp, ?_, ?_, by decide, q cl hcl⟩⟩
  · rcases hC with rfl | rfl <;> assumption
  · rcases hC with rfl | rfl <;> assumption
def sp_Wm_init (K : PySem.W.Frag) (CW CT : Addr) : Sp := fun vs H Q _ => ∃ (p dx : Addr) (lo : Int) (span : Nat), vs = [.ref p, .int lo, .int (lo + span)] ∧ H p = some (.ins CW dx []) ∧ ∀ cl H', H cl = none → SameBut p H H' → Maker CW CT H' p (.w lo span) cl 0 → Q .non H'
theorem ok_WholeMaker___init__ {k : Nat} {C_Found : Addr} {C_Lister : Addr} {C_ManyMaker : Addr} {C_WholeMaker : Addr} {c_deed_judge P_deed_judge : Addr} {c_law_thing P_law_thing : Addr} (R : g.RawI "WholeMaker" C_WholeMaker "WholeMaker.__init__" s_WholeMaker___init__ ["self", "low", "high"]) (F_Maker___init__ : g.Cf k "Maker" "__init__" ["self"] (sp_Maker_init g.K C_WholeMaker C_ManyMaker)) (cl_WholeMaker : Cls g.K C_WholeMaker) (n_WholeMaker_counts : NoAttr g.K C_WholeMaker "counts") (n_WholeMaker_low : NoAttr g.K C_WholeMaker "low") (n_WholeMaker_span : NoAttr g.K C_WholeMaker "span") : g.Ma (k + 1) "WholeMaker" C_WholeMaker ["self", "low", "high"] (sp_Wm_init g.K C_WholeMaker C_ManyMaker) := by
  refine R.ma sc_WholeMaker___init__ (fun vs H Q E h => by obtain ⟨p, dx, lo, span, rfl, hp, q⟩ := h; rfl) fun f_ cdv A outer s H vs Q E hr h => ?_
  obtain ⟨p, dx, lo, span, rfl, hp, q⟩ := h
  refine ⟨_, (@pss_cons _ _ _ _ _ (@ps_expr _ _ _ _ (@pe_cf _ _ _ _ _ _ _ _ _ _ _ _ _ _ _ F_Maker___init__ hr (@pa_cons _ _ _ _ _ (@pv _ 0 _ _ (by rfl) (by first | exact Or.inl rfl | exact Or.inr (Or.inl rfl) | exact Or.inr (Or.inr rfl)) (by decide) (by decide)) pa_nil (by rfl)) (by omega) (by rfl) (by rfl) (by decide) (by rfl) (by rfl) (by rfl)) (by rfl)) (@pss_cons _ _ _ _ _ (@ps_fld _ _ _ _ _ _ _ _ (@pv _ 0 _ _ (by rfl) (by first | exact Or.inl rfl | exact Or.inr (Or.inl rfl) | exact Or.inr (Or.inr rfl)) (by decide) (by decide)) (@pv _ 1 _ _ (by rfl) (by first | exact Or.inl rfl | exact Or.inr (Or.inl rfl) | exact Or.inr (Or.inr rfl)) (by decide) (by decide)) rfl) (@pss_one _ _ _ (@ps_fld _ _ _ _ _ _ _ _ (@pv _ 0 _ _ (by rfl) (by first | exact Or.inl rfl | exact Or.inr (Or.inl rfl) | exact Or.inr (Or.inr rfl)) (by decide) (by decide)) (@pe_op _ _ _ _ _ _ _ _ op_sub (@pv _ 2 _ _ (by rfl) (by first | exact Or.inl rfl | exact Or.inr (Or.inl rfl) | exact Or.inr (Or.inr rfl)) (by decide) (by decide)) (@pv _ 1 _ _ (by rfl) (by first | exact Or.inl rfl | exact Or.inr (Or.inl rfl) | exact Or.inr (Or.inr rfl)) (by decide) (by decide))) rfl)))), ?_⟩
  walk_at "rd"
  refine ⟨p, dx, _, rfl, .inl rfl, hp, fun cl hcl => ?_⟩
  have hne : p ≠ cl := ne_of_none hp hcl
  refine ⟨_, dx, _, upd_same, cl_WholeMaker, n_WholeMaker_low, lt1000 (show 1 ≤ 3 by decide), _, dx, _, upd_same, cl_WholeMaker, n_WholeMaker_span, lt1000 (Nat.le_trans (length_putF _ _ _) (show 2 ≤ 3 by decide)), ?_⟩
  refine q cl _ hcl (fun x o hx h => ?_) ⟨dx, ?_, ?_⟩
  · rw [upd_ne hx, upd_ne hx, upd_ne hx, upd_ne (ne_of_none h hcl)]; exact h
  · rw [upd_same, show lo + (span : Int) - lo = span by omega]
    exact congrArg some (congrArg (HO.ins _ _) (mfw cl lo _))
  · rw [upd_ne (Ne.symm hne), upd_ne (Ne.symm hne), upd_ne (Ne.symm hne), upd_same]; rfl
def sp_ld : Sp := fun vs H Q _ => ∃ (n : Nat), vs = [.int n] ∧ n ≤ 100 ∧ Q (.int (1 * 2 ^ n / 2 ^ 1)) H
theorem ok_least_distance {C_Found : Addr} {C_Lister : Addr} {C_ManyMaker : Addr} {C_WholeMaker : Addr} {c_deed_judge P_deed_judge : Addr} {c_law_thing P_law_thing : Addr} (R : g.Raw "least_distance" "least_distance" s_least_distance ["size"]) : g.Fn (1) "least_distance" ["size"] (sp_ld) := by
  refine R.fn sc_least_distance (fun vs H Q E h => by obtain ⟨n, rfl, hn, q⟩ := h; rfl) fun f_ cdv A outer s H vs Q E hr h => ?_
  obtain ⟨n, rfl, hn, q⟩ := h
  refine ⟨_, (@pss_one _ _ _ (@ps_ret _ _ _ _ (@pe_op _ _ _ _ _ _ _ _ op_shr (@pe_op _ _ _ _ _ _ _ _ op_shl pe_int (@pv _ 0 _ _ (by rfl) (by first | exact Or.inl rfl | exact Or.inr (Or.inl rfl) | exact Or.inr (Or.inr rfl)) (by decide) (by decide))) pe_int))), ?_⟩
  walk_at "rd"
  exact ⟨⟨by omega, by omega, by decide⟩, by decide, q⟩
def sp_Wm_reckoned (K : PySem.W.Frag) (CW CT : Addr) : Sp := fun vs H Q _ => ∃ (p dx cl : Addr) (lo : Int) (span n : Nat), vs = [.ref p, .int n] ∧ n ≤ 100 ∧ H p = some (.ins CW dx (mf cl (.w lo span))) ∧ Q (.int (wc span n)) H
theorem ok_WholeMaker_reckoned {k : Nat} {C_Found : Addr} {C_Lister : Addr} {C_ManyMaker : Addr} {C_WholeMaker : Addr} {c_deed_judge P_deed_judge : Addr} {c_law_thing P_law_thing : Addr} (R : g.RawM C_WholeMaker "reckoned" "WholeMaker.reckoned" s_WholeMaker_reckoned ["self", "size"]) (F_least_distance : g.Fn k "least_distance" ["size"] (sp_ld)) (b_max : g.mg "max" = none) (b_min : g.mg "min" = none) (cl_WholeMaker : Cls g.K C_WholeMaker) (n_WholeMaker_counts : NoAttr g.K C_WholeMaker "counts") (n_WholeMaker_low : NoAttr g.K C_WholeMaker "low") (n_WholeMaker_span : NoAttr g.K C_WholeMaker "span") : g.Me (k + 1) C_WholeMaker "reckoned" ["self", "size"] (sp_Wm_reckoned g.K C_WholeMaker C_ManyMaker) := by
  refine R.me sc_WholeMaker_reckoned (fun vs H Q E h => by obtain ⟨p, dx, cl, lo, span, n, rfl, hn, hp, q⟩ := h; rfl) fun f_ cdv A outer s H vs Q E hr h => ?_
  obtain ⟨p, dx, cl, lo, span, n, rfl, hn, hp, q⟩ := h
  refine ⟨_, (@pss_cons _ _ _ _ _ (@ps_set _ _ (2) _ _ _ _ sc_WholeMaker_reckoned.nd rfl (Or.inl rfl) (@pe_bf _ _ _ _ _ _ _ _ _ _ b_min (call_min2 rfl) (@pa_cons _ _ _ _ _ (@pe_fld _ _ _ _ _ (@pv _ 0 _ _ (by rfl) (by first | exact Or.inl rfl | exact Or.inr (Or.inl rfl) | exact Or.inr (Or.inr rfl)) (by decide) (by decide)) rfl) (@pa_cons _ _ _ _ _ (@pe_op _ _ _ _ _ _ _ _ op_sub (@pe_op _ _ _ _ _ _ _ _ op_shl pe_int (@pv _ 1 _ _ (by rfl) (by first | exact Or.inl rfl | exact Or.inr (Or.inl rfl) | exact Or.inr (Or.inr rfl)) (by decide) (by decide))) pe_int) pa_nil (by rfl)) (by rfl)) (by decide +kernel) (by rfl) (by rfl) (by decide) (by decide) (by rfl) (by rfl)) (by rfl) (by first | exact .inl rfl | exact .inr rfl | assumption)) (@pss_one _ _ _ (@ps_ret _ _ _ _ (@pe_bf _ _ _ _ _ _ _ _ _ _ b_max (call_max2 rfl) (@pa_cons _ _ _ _ _ pe_int (@pa_cons _ _ _ _ _ (@pe_op _ _ _ _ _ _ _ _ op_add (@pe_op _ _ _ _ _ _ _ _ op_sub (@pv _ 2 _ _ (by rfl) (by first | exact Or.inl rfl | exact Or.inr (Or.inl rfl) | exact Or.inr (Or.inr rfl)) (by decide) (by decide)) (@pe_fn _ _ _ _ _ _ _ _ _ _ _ _ F_least_distance hr (@pa_cons _ _ _ _ _ (@pv _ 1 _ _ (by rfl) (by first | exact Or.inl rfl | exact Or.inr (Or.inl rfl) | exact Or.inr (Or.inr rfl)) (by decide) (by decide)) pa_nil (by rfl)) (by omega) (by rfl) (by rfl) (by decide) (by rfl) (by rfl))) pe_int) pa_nil (by rfl)) (by rfl)) (by decide +kernel) (by rfl) (by rfl) (by decide) (by decide) (by rfl) (by rfl))))), ?_⟩
  walk_at "rd"
  exact ⟨_, _, _, hp, cl_WholeMaker, n_WholeMaker_span, _, rfl, ⟨by omega, by omega, by decide⟩, _, rfl, n, rfl, hn, _, rfl, q⟩
end KW
set_option maxHeartbeats 8000000
namespace KW
open PySem L2

variable {g : Gx}
variable {src : List (Option Nat)} {te : TE} {σ : St} {H : Hp} {Q : VK}
variable {m : Nat}
local macro_rules | `(tactic| walk_at "gn") => `(tactic| simp only [gName, List.set_cons_zero, List.set_cons_succ])

local macro_rules | `(tactic| walk_at "rd") => `(tactic| simp (config := { failIfUnchanged := false, maxSteps := 10000000 }) only [L2.start, cxOf_K, nox_K, List.map_cons, List.map_nil, List.length_cons, List.length_nil, List.cons_append, List.nil_append, List.replicate_succ, List.replicate_zero, Nat.zero_add, Nat.reduceAdd, Nat.reduceSub, Nat.sub_self, tSeq, tIfS, tTest, tOp, tC, tVar, rI0, rI, rU, tUn, tRet, tRetN, tDrop, tNext, tBreak, tCont, tAsg, gName, gNil, gCons, tCons, tNil, tCB, tCall, tTry, tTryAs, tRaise, sFld, tFld, tMake, tMeth, Ends.gone, caught_K, tB, tAnd, tOr, tNot, tAndV, tOrV, tNotV, tIf, tChain, tNoPart, tPart, tSl, tNever, tAug, rIxL, rIxT, rSlL, tLst, tTup, gTup, tRev, tLZ, tConT, tDict0, tDNewT, tDGet, sDPut, rNotInD, rInD, tEither, tSlStep, rBits, rFind, rIn, tBM, tBM0, rAppend, rReverse, rEq, rNe, scal_ii, scal_ss, rCat, rSetL, gSub, ipI, capSt, List.getD_cons_zero, List.getD_cons_succ, decide_true, not_true_eq_false, not_false_eq_true,
  exists_eq_left', exists_eq_left, exists_eq', exists_eq, exists_and_left, and_assoc, Option.some.injEq, V.int.injEq, V.bl.injEq, V.ref.injEq, V.str.injEq, List.getElem?_cons_zero, List.getElem?_cons_succ, List.set_cons_zero, List.set_cons_succ, List.cons.injEq, and_true, true_and, List.append_nil, decide_eq_true_eq, Bool.not_eq_true', decide_eq_false_iff_not, Bool.not_not, Bool.not_true, Bool.not_false, Bool.true_eq_false, Bool.false_eq_true, if_true, if_false, ite_true, ite_false])

def sp_Wm_count (K : PySem.W.Frag) (CW CT : Addr) : Sp := fun vs H Q _ => ∃ (p dx cl : Addr) (lo : Int) (span n k : Nat), vs = [.ref p, .int k] ∧ k ≤ 50 ∧ n ≤ 60 ∧ H p = some (.ins CW dx (mf cl (.w lo span))) ∧ H cl = some (.lst (cnts (wc span) n)) ∧
  ∀ H', SameBut cl H H' → H' cl = some (.lst (cnts (wc span) (max n (k + 1)))) → Q (.int (wc span k)) H'
theorem ok_WholeMaker_count_at {k : Nat} {C_Found : Addr} {C_Lister : Addr} {C_ManyMaker : Addr} {C_WholeMaker : Addr} {c_deed_judge P_deed_judge : Addr} {c_law_thing P_law_thing : Addr} (R : g.RawM C_WholeMaker "count_at" "Maker.count_at" s_WholeMaker_count_at ["self", "size"]) (F_WholeMaker_reckoned : g.Me k C_WholeMaker "reckoned" ["self", "size"] (sp_Wm_reckoned g.K C_WholeMaker C_ManyMaker)) (b_len : g.mg "len" = none) (cl_WholeMaker : Cls g.K C_WholeMaker) (n_WholeMaker_counts : NoAttr g.K C_WholeMaker "counts") (n_WholeMaker_low : NoAttr g.K C_WholeMaker "low") (n_WholeMaker_span : NoAttr g.K C_WholeMaker "span") : g.Me (k + 1) C_WholeMaker "count_at" ["self", "size"] (sp_Wm_count g.K C_WholeMaker C_ManyMaker) := by
  refine R.me sc_WholeMaker_count_at (fun vs H Q E h => by obtain ⟨p, dx, cl, lo, span, n, k, rfl, hk, hn, hp, hc, q⟩ := h; rfl) fun f_ cdv A outer s H vs Q E hr h => ?_
  obtain ⟨p, dx, cl, lo, span, n, k, rfl, hk, hn, hp, hc, q⟩ := h
  refine ⟨_, (@pss_cons _ _ _ _ _ (@ps_while _ _ _ _ _ _ PassesOwn.never (@pt_cmpR _ _ _ _ _ _ _ _ op_le (@pe_bf _ _ _ _ _ _ _ _ _ _ b_len call_len_seq (@pa_cons _ _ _ _ _ (@pe_fld _ _ _ _ _ (@pv _ 0 _ _ (by rfl) (by first | exact Or.inl rfl | exact Or.inr (Or.inl rfl) | exact Or.inr (Or.inr rfl)) (by decide) (by decide)) rfl) pa_nil (by rfl)) (by decide +kernel) (by rfl) (by rfl) (by decide) (by decide) (by rfl) (by rfl)) (@pv _ 1 _ _ (by rfl) (by first | exact Or.inl rfl | exact Or.inr (Or.inl rfl) | exact Or.inr (Or.inr rfl)) (by decide) (by decide)) (nomark _)) (@pss_one _ _ _ (@ps_expr _ _ _ _ (@pe_bm _ _ _ _ _ _ _ _ _ _ _ _ PySem.F.plainAttrs_list PySem.F.slot_list_append PySem.F.type_list_append mt_append (@pe_fld _ _ _ _ _ (@pv _ 0 _ _ (by rfl) (by first | exact Or.inl rfl | exact Or.inr (Or.inl rfl) | exact Or.inr (Or.inr rfl)) (by decide) (by decide)) rfl) (@pa_cons _ _ _ _ _ (@pe_me _ _ _ _ _ _ _ _ _ _ _ _ _ _ _ _ F_WholeMaker_reckoned cl_WholeMaker hr (@pv _ 0 _ _ (by rfl) (by first | exact Or.inl rfl | exact Or.inr (Or.inl rfl) | exact Or.inr (Or.inr rfl)) (by decide) (by decide)) (@pa_cons _ _ _ _ _ (@pe_bf _ _ _ _ _ _ _ _ _ _ b_len call_len_seq (@pa_cons _ _ _ _ _ (@pe_fld _ _ _ _ _ (@pv _ 0 _ _ (by rfl) (by first | exact Or.inl rfl | exact Or.inr (Or.inl rfl) | exact Or.inr (Or.inr rfl)) (by decide) (by decide)) rfl) pa_nil (by rfl)) (by decide +kernel) (by rfl) (by rfl) (by decide) (by decide) (by rfl) (by rfl)) pa_nil (by rfl)) (by omega) (by rfl) (by rfl) (by rfl) (by rfl)) pa_nil (by rfl)) (by rfl) (by rfl) (by rfl) (by rfl) (by rfl)) (by rfl)))) (@pss_one _ _ _ (@ps_ret _ _ _ _ (@pe_ix _ _ _ _ _ _ _ ix_list (@pe_fld _ _ _ _ _ (@pv _ 0 _ _ (by rfl) (by first | exact Or.inl rfl | exact Or.inr (Or.inl rfl) | exact Or.inr (Or.inr rfl)) (by decide) (by decide)) rfl) (@pv _ 1 _ _ (by rfl) (by first | exact Or.inl rfl | exact Or.inr (Or.inl rfl) | exact Or.inr (Or.inr rfl)) (by decide) (by decide)) (fun _ _ => rfl))))), ?_⟩
  walk_at "rd"
  have hne : p ≠ cl := ne_of hp hc (by simp)
  refine while_of (α := Nat) (fun x σ H' => σ = [some (.ref p), some (.int k)] ∧ SameBut cl H H' ∧ H' cl = some (.lst (cnts (wc span) x)) ∧ n ≤ x ∧ x ≤ max n (k + 1)) (fun x => decide (x ≤ k)) (fun x => k + 1 - x) n ⟨rfl, .refl _ _, hc, Nat.le_refl _, Nat.le_max_left _ _⟩ ?_ ?_ ?_
  · rintro x σ H' ⟨rfl, sb, hx, h1, h2⟩ R r
    walk_at "rd"
    refine ⟨_, _, _, sb _ _ hne hp, cl_WholeMaker, n_WholeMaker_counts, _, mf_counts _ _, _, rfl, _, .inl (SqL.of hx), ?_⟩
    rw [cnts_len, dle]
    exact r H' ⟨rfl, sb, hx, h1, h2⟩
  · rintro x σ H' ⟨rfl, sb, hx, h1, h2⟩ hd
    have hd : x ≤ k := of_decide_eq_true hd
    walk_at "rd"
    have hp' := sb _ _ hne hp
    refine ⟨_, _, _, hp', cl_WholeMaker, n_WholeMaker_counts, _, mf_counts _ _, .inl ⟨rfl, _, SqL.of hx⟩, _, _, hp', mf_reck _ _, _, _, _, hp', cl_WholeMaker, n_WholeMaker_counts, _, mf_counts _ _, _, rfl, _, .inl (SqL.of hx), ?_⟩
    rw [cnts_len]
    exact ⟨p, dx, cl, lo, span, x, rfl, by omega, hp', _, rfl, _, hx, by rw [cnts_len]; exact few (by omega), sb.upd _, x + 1, by rw [upd_same, cnts_succ], by omega, by omega, by omega⟩
  · rintro x σ H' ⟨rfl, sb, hx, h1, h2⟩ hd
    have hd : ¬ x ≤ k := of_decide_eq_false hd
    walk_at "rd"
    have e : x = max n (k + 1) := by omega
    subst e
    exact ⟨_, _, _, sb _ _ hne hp, cl_WholeMaker, n_WholeMaker_counts, _, mf_counts _ _, _, rfl, _, SqL.of hx, _, cnts_at _ (by omega), q H' sb hx⟩
end KW
set_option maxHeartbeats 8000000
namespace KW
open PySem L2

variable {g : Gx}
variable {src : List (Option Nat)} {te : TE} {σ : St} {H : Hp} {Q : VK}
variable {m : Nat}
local macro_rules | `(tactic| walk_at "gn") => `(tactic| simp only [gName, List.set_cons_zero, List.set_cons_succ])

local macro_rules | `(tactic| walk_at "rd") => `(tactic| simp (config := { failIfUnchanged := false, maxSteps := 10000000 }) only [L2.start, cxOf_K, nox_K, List.map_cons, List.map_nil, List.length_cons, List.length_nil, List.cons_append, List.nil_append, List.replicate_succ, List.replicate_zero, Nat.zero_add, Nat.reduceAdd, Nat.reduceSub, Nat.sub_self, tSeq, tIfS, tTest, tOp, tC, tVar, rI0, rI, rU, tUn, tRet, tRetN, tDrop, tNext, tBreak, tCont, tAsg, gName, gNil, gCons, tCons, tNil, tCB, tCall, tTry, tTryAs, tRaise, sFld, tFld, tMake, tMeth, Ends.gone, caught_K, tB, tAnd, tOr, tNot, tAndV, tOrV, tNotV, tIf, tChain, tNoPart, tPart, tSl, tNever, tAug, rIxL, rIxT, rSlL, tLst, tTup, gTup, tRev, tLZ, tConT, tDict0, tDNewT, tDGet, sDPut, rNotInD, rInD, tEither, tSlStep, rBits, rFind, rIn, tBM, tBM0, rAppend, rReverse, rEq, rNe, scal_ii, scal_ss, rCat, rSetL, gSub, ipI, capSt, List.getD_cons_zero, List.getD_cons_succ, decide_true, not_true_eq_false, not_false_eq_true,
  exists_eq_left', exists_eq_left, exists_eq', exists_eq, exists_and_left, and_assoc, Option.some.injEq, V.int.injEq, V.bl.injEq, V.ref.injEq, V.str.injEq, List.getElem?_cons_zero, List.getElem?_cons_succ, List.set_cons_zero, List.set_cons_succ, List.cons.injEq, and_true, true_and, List.append_nil, decide_eq_true_eq, Bool.not_eq_true', decide_eq_false_iff_not, Bool.not_not, Bool.not_true, Bool.not_false, Bool.true_eq_false, Bool.false_eq_true, if_true, if_false, ite_true, ite_false])

def mc (span : Nat) : Nat → Int
  | 0 => 1
  | k + 1 => ((List.range (k + 1)).attach.map fun ⟨j, _⟩ => wc span j * mc span (k - j)).sum
termination_by k => k
decreasing_by omega
theorem mc_zero (span : Nat) : mc span 0 = 1 := by rw [mc]
theorem mc_succ (span k : Nat) : mc span (k + 1) = ((List.range (k + 1)).map fun j => wc span j * mc span (k - j)).sum := by
  rw [mc]
  congr 1
  exact List.attach_map_val (f := fun j => wc span j * mc span (k - j))
section
variable {src : List (Option Nat)} {te : TE} {σ : St} {H : Hp} {Q : VK}
/-- a comprehension over a list of pairs, each taken apart -/
theorem tLC_pairs {K : PySem.W.Frag} {tl : TE} {b : Addr} {xs : List V} (ps : List (V × V)) (ys : List V) (ha : ∀ R : V → Hp → Prop, R (.ref b) H → tl σ H R) (hS : SqL K H b xs) (hp : ∀ (i : Nat) x p, xs[i]? = some x → ps[i]? = some p → ∃ T, x = .ref T ∧ H T = some (.tup [p.1, p.2])) (hl : ps.length = xs.length) (hl2 : ys.length = xs.length) (hlen : xs.length ≤ 100000)
    (step : ∀ (i : Nat) p y H', ps[i]? = some p → ys[i]? = some y → Same H H' → ∀ R : VK, (∀ H'', Same H' H'' → R y H'') → te (some p.1 :: some p.2 :: capSt src σ) H' R)
    (fin : ∀ D H', H D = none → Same H H' → H' D = some (.lst ys) → Q (.ref D) H') : tLC (none :: none :: src) (iList K tl) (gTup K 2 (gCons (gName 0) (gCons (gName 1) gNil))) tYes te σ H Q := by
  refine ha _ ⟨b, rfl, ⟨xs, hS⟩, fun D hD => ?_⟩
  have h6 : 100000 < sizeLine := by decide
  refine lc_on (itseq_list.imp fun H' (e : Same H H') => e.seq hS) (fun i zs σ' H' => zs = ys.take i ∧ (∃ o o', σ' = o :: o' :: capSt src σ) ∧ Same H H' ∧ H' D = some (.lst zs)) ⟨by simp, ⟨none, none, rfl⟩, .upd_new hD _, upd_same⟩ (fun i zs σ' H' p => ⟨p.2.2.1, p.2.2.2⟩) (gTup2_mono' K 0 1) ?_ ?_
  · rintro i zs σ' H' x hx ⟨rfl, ⟨o, o', rfl⟩, sm, hd⟩
    have hi := (List.getElem?_eq_some_iff.mp hx).1
    have hy : ys[i]? = some (ys[i]'(by omega)) := List.getElem?_eq_getElem _
    have hpi : ps[i]? = some (ps[i]'(by omega)) := List.getElem?_eq_getElem _
    obtain ⟨T, rfl, hT⟩ := hp i x _ hx hpi
    refine ⟨T, _, rfl, SqT.of (sm _ _ hT), rfl, _, _, rfl, _, _, rfl, rfl, ?_⟩
    refine step i _ _ H' hpi hy sm _ fun H'' s2 => ⟨s2 _ _ hd, ?_, (take_snoc hy).symm, ⟨_, _, rfl⟩, .upd_over hD (sm.trans s2) _, upd_same⟩
    rw [List.length_take]; omega
  · rintro zs σ' H' ⟨rfl, _, sm, hd⟩
    rw [← hl2, List.take_length] at hd
    exact fin D H' hD sm hd
end
/-- a list of blocks -/
def Blk (H : Hp) (D : Addr) (ps : List (Int × Int)) : Prop := ∃ xs : List V, H D = some (.lst xs) ∧ xs.length = ps.length ∧ ∀ (i : Nat) x p, xs[i]? = some x → ps[i]? = some p → ∃ T, x = .ref T ∧ H T = some (.tup [.int p.1, .int p.2])
structure big (a b : Int) : Prop where
  ex : ∃ n : Nat, n ≤ 1000 ∧ a.natAbs < 2 ^ n ∧ b.natAbs < 2 ^ n
def sp_ways_of (K : PySem.W.Frag) : Sp := fun vs H Q _ => ∃ (D : Addr) (ps : List (Int × Int)), vs = [.ref D] ∧ Blk H D ps ∧ ps.length ≤ 1000 ∧ (∀ p ∈ ps, big p.1 p.2) ∧ ∀ H', Same H H' → Q (.int (ps.map fun p => p.1 * p.2).sum) H'
theorem ok_ways_of {C_Found : Addr} {C_Lister : Addr} {C_ManyMaker : Addr} {C_WholeMaker : Addr} {c_deed_judge P_deed_judge : Addr} {c_law_thing P_law_thing : Addr} (R : g.Raw "ways_of" "ways_of" s_ways_of ["blocks"]) (b_sum : g.mg "sum" = none) : g.Fn (1) "ways_of" ["blocks"] (sp_ways_of g.K) := by
  refine R.fn sc_ways_of (fun vs H Q E h => by obtain ⟨D, ps, rfl, ⟨xs, hD, hxl, hxp⟩, hl, hb, q⟩ := h; rfl) fun f_ cdv A outer s H vs Q E hr h => ?_
  obtain ⟨D, ps, rfl, ⟨xs, hD, hxl, hxp⟩, hl, hb, q⟩ := h
  refine ⟨_, (@pss_one _ _ _ (@ps_ret _ _ _ _ (@pe_bf _ _ _ _ _ _ _ _ _ _ b_sum call_sum_ints (@pa_cons _ _ _ _ _ (@pe_lc _ _ _ _ _ _ _ ([none, none]) ((["choices", "rest"] : List Str)) _ (gTup g.K 2 (gCons (gName 0) (gCons (gName 1) gNil))) _ _ (.own (.own .nil)) rfl (@pi_list _ _ _ _ (@pv _ 0 _ _ (by rfl) (by first | exact Or.inl rfl | exact Or.inr (Or.inl rfl) | exact Or.inr (Or.inr rfl)) (by decide) (by decide))) (fun cl C s₀ H₀ fp pn => (@pg_tup _ _ _ _ _ (2) rfl (@pgs_cons _ _ _ _ _ (@pg_name _ _ (0) _ (show List.Nodup (["choices", "rest"] : List Str) by decide +kernel) rfl (Or.inl rfl) (Or.inr rfl)) (@pgs_cons _ _ _ _ _ (@pg_name _ _ (1) _ (show List.Nodup (["choices", "rest"] : List Str) by decide +kernel) rfl (Or.inl rfl) (Or.inr rfl)) pgs_nil (by rfl)) (by rfl)) (by rfl) (by rfl))) (fun cl C s₀ H₀ fp pn => pts_nil) (fun cl C s₀ H₀ fp pn => (@pe_op _ _ _ _ _ _ _ _ op_mulC (@pv _ 0 _ _ (by rfl) (by first | exact Or.inl rfl | exact Or.inr (Or.inl rfl) | exact Or.inr (Or.inr rfl)) (by decide) (by decide)) (@pv _ 1 _ _ (by rfl) (by first | exact Or.inl rfl | exact Or.inr (Or.inl rfl) | exact Or.inr (Or.inr rfl)) (by decide) (by decide)))) (by intro x hx; simp at hx) (by rfl) (by decide) (by decide +kernel) (by intro _; rfl)) pa_nil (by rfl)) (by decide +kernel) (by rfl) (by rfl) (by decide) (by decide) (by rfl) (by rfl)))), ?_⟩
  walk_at "rd"
  refine tLC_pairs (K := g.K) (b := D) (xs := xs) (ps.map fun p => (V.int p.1, V.int p.2)) (ps.map fun p => V.int (p.1 * p.2)) (fun R r => by walk_at "rd"; exact r) (SqL.of hD) ?_ (by rw [List.length_map]; omega) (by rw [List.length_map]; omega) (by omega) ?_ ?_
  · intro i x p hx hp
    rw [List.getElem?_map] at hp
    obtain ⟨p', hp', rfl⟩ := Option.map_eq_some_iff.mp hp
    exact hxp i x p' hx hp'
  · intro i p y H' hp hy sm R r
    rw [List.getElem?_map] at hp hy
    obtain ⟨p', hp', rfl⟩ := Option.map_eq_some_iff.mp hp
    rw [hp'] at hy
    have : V.int (p'.1 * p'.2) = y := Option.some.inj hy
    subst this
    obtain ⟨N, b0, b1, b2⟩ := (hb p' (List.mem_of_getElem? hp')).ex
    walk_at "rd"
    exact ⟨.inl (cm b1 b2 (by omega)), r H' (.refl _)⟩
  · intro D' H' hD' sm hd
    refine ⟨D', rfl, ps.map fun p => p.1 * p.2, SqL.of (by rw [hd, List.map_map]; rfl), q H' sm⟩
end KW
set_option maxHeartbeats 8000000
namespace KW
open PySem L2

variable {g : Gx}
variable {src : List (Option Nat)} {te : TE} {σ : St} {H : Hp} {Q : VK}
variable {m : Nat}
local macro_rules | `(tactic| walk_at "gn") => `(tactic| simp only [gName, List.set_cons_zero, List.set_cons_succ])

local macro_rules | `(tactic| walk_at "rd") => `(tactic| simp (config := { failIfUnchanged := false, maxSteps := 10000000 }) only [L2.start, cxOf_K, nox_K, List.map_cons, List.map_nil, List.length_cons, List.length_nil, List.cons_append, List.nil_append, List.replicate_succ, List.replicate_zero, Nat.zero_add, Nat.reduceAdd, Nat.reduceSub, Nat.sub_self, tSeq, tIfS, tTest, tOp, tC, tVar, rI0, rI, rU, tUn, tRet, tRetN, tDrop, tNext, tBreak, tCont, tAsg, gName, gNil, gCons, tCons, tNil, tCB, tCall, tTry, tTryAs, tRaise, sFld, tFld, tMake, tMeth, Ends.gone, caught_K, tB, tAnd, tOr, tNot, tAndV, tOrV, tNotV, tIf, tChain, tNoPart, tPart, tSl, tNever, tAug, rIxL, rIxT, rSlL, tLst, tTup, gTup, tRev, tLZ, tConT, tDict0, tDNewT, tDGet, sDPut, rNotInD, rInD, tEither, tSlStep, rBits, rFind, rIn, tBM, tBM0, rAppend, rReverse, rEq, rNe, scal_ii, scal_ss, rCat, rSetL, gSub, ipI, capSt, List.getD_cons_zero, List.getD_cons_succ, decide_true, not_true_eq_false, not_false_eq_true,
  exists_eq_left', exists_eq_left, exists_eq', exists_eq, exists_and_left, and_assoc, Option.some.injEq, V.int.injEq, V.bl.injEq, V.ref.injEq, V.str.injEq, List.getElem?_cons_zero, List.getElem?_cons_succ, List.set_cons_zero, List.set_cons_succ, List.cons.injEq, and_true, true_and, List.append_nil, decide_eq_true_eq, Bool.not_eq_true', decide_eq_false_iff_not, Bool.not_not, Bool.not_true, Bool.not_false, Bool.true_eq_false, Bool.false_eq_true, if_true, if_false, ite_true, ite_false])

def mmf (cm pw : Addr) : List (Str × V) := [("counts", .ref cm), ("part", .ref pw)]
theorem ncp : ¬ (("counts" : Str) = "part") := by decide +kernel
theorem mmf_put (cm pw : Addr) : putF "part" (.ref pw) (putF "counts" (.ref cm) []) = mmf cm pw := by simp only [putF, if_neg ncp]; rfl
theorem mmf_counts (cm pw : Addr) : (mmf cm pw).lookup ("counts" : Str) = some (.ref cm) := rfl
theorem mmf_part (cm pw : Addr) : (mmf cm pw).lookup ("part" : Str) = some (.ref pw) := by
  show List.lookup ("part" : Str) [(("counts" : Str), V.ref cm), (("part" : Str), V.ref pw)] = _
  rw [List.lookup_cons, show (("part" : Str) == ("counts" : Str)) = false by decide +kernel, List.lookup_cons, show (("part" : Str) == ("part" : Str)) = true by decide +kernel]
theorem mmf_no (cm pw : Addr) {m : Str} (h1 : (m == ("counts" : Str)) = false) (h2 : (m == ("part" : Str)) = false) : (mmf cm pw).lookup m = none := by
  show List.lookup m [(("counts" : Str), V.ref cm), (("part" : Str), V.ref pw)] = _
  rw [List.lookup_cons, h1, List.lookup_cons, h2]; rfl
/-- a maker of lists and the maker of their parts, with the counts of some sizes reckoned -/
structure MM (CW CM : Addr) (H : Hp) (pm pw cm cw dm dw : Addr) (lo : Int) (span m n : Nat) : Prop where
  hm : H pm = some (.ins CM dm (mmf cm pw))
  hc : H cm = some (.lst (cnts (mc span) m))
  hw : H pw = some (.ins CW dw (mf cw (.w lo span)))
  hv : H cw = some (.lst (cnts (wc span) n))
  ne : cm ≠ cw
def blk (span k : Nat) : List (Int × Int) := (List.range k).map fun j => (wc span j, mc span (k - 1 - j))
theorem blk_sum (span k : Nat) : ((blk span (k + 1)).map fun p => p.1 * p.2).sum = mc span (k + 1) := by
  rw [mc_succ, blk, List.map_map]
  rfl
def sp_Mblocks (K : PySem.W.Frag) (CW CM : Addr) (l : Nat) : Sp := fun vs H Q _ => ∃ (pm pw cm cw dm dw : Addr) (lo : Int) (span m n k : Nat), vs = [.ref pm, .int k] ∧ 2 ≤ l ∧ MM CW CM H pm pw cm cw dm dw lo span m n ∧ k ≤ m ∧ m ≤ 40 ∧ n ≤ 50 ∧
  ∀ D H', H D = none → Blk H' D (blk span k) → (∀ b o, b ≠ cw → H b = some o → H' b = some o) → H' cw = some (.lst (cnts (wc span) (max n k))) → Q (.ref D) H'
def sp_Mreck (K : PySem.W.Frag) (CW CM : Addr) (l : Nat) : Sp := fun vs H Q _ => ∃ (pm pw cm cw dm dw : Addr) (lo : Int) (span m n k : Nat), vs = [.ref pm, .int k] ∧ 1 ≤ l ∧ (k = 0 ∨ 3 ≤ l) ∧ MM CW CM H pm pw cm cw dm dw lo span m n ∧ k ≤ m ∧ m ≤ 40 ∧ n ≤ 50 ∧ (∀ i ≤ 40, ∀ j ≤ 40, big (wc span i) (mc span j)) ∧
  ∀ H', (∀ b o, b ≠ cw → H b = some o → H' b = some o) → H' cw = some (.lst (cnts (wc span) (max n k))) → Q (.int (mc span k)) H'
def sp_Mcount (K : PySem.W.Frag) (CW CM : Addr) (l : Nat) : Sp := fun vs H Q _ => ∃ (pm pw cm cw dm dw : Addr) (lo : Int) (span m n k : Nat), vs = [.ref pm, .int k] ∧ 1 ≤ l ∧ MM CW CM H pm pw cm cw dm dw lo span m n ∧ m ≤ 40 ∧ n ≤ 50 ∧ (k < m → Q (.int (mc span k)) H) ∧
  (m ≤ k → 4 ≤ l ∧ k < 40 ∧ (∀ i ≤ 40, ∀ j ≤ 40, big (wc span i) (mc span j)) ∧ ∀ H' n', (∀ b o, b ≠ cw → b ≠ cm → H b = some o → H' b = some o) → n' ≤ 50 → MM CW CM H' pm pw cm cw dm dw lo span (k + 1) n' → Q (.int (mc span k)) H')
theorem no_Mblocks {K : PySem.W.Frag} {CW CM : Addr} {vs : List V} {H : Hp} {Q : VK} {E : XK} (h : sp_Mblocks K CW CM 0 vs H Q E) : False := by
  obtain ⟨pm, pw, cm, cw, dm, dw, lo, span, m, n, k, _, h, _⟩ := h
  omega
theorem no_Mreck {K : PySem.W.Frag} {CW CM : Addr} {vs : List V} {H : Hp} {Q : VK} {E : XK} (h : sp_Mreck K CW CM 0 vs H Q E) : False := by
  obtain ⟨pm, pw, cm, cw, dm, dw, lo, span, m, n, k, _, h, _⟩ := h
  omega
theorem no_Mcount {K : PySem.W.Frag} {CW CM : Addr} {vs : List V} {H : Hp} {Q : VK} {E : XK} (h : sp_Mcount K CW CM 0 vs H Q E) : False := by
  obtain ⟨pm, pw, cm, cw, dm, dw, lo, span, m, n, k, _, h, _⟩ := h
  omega
variable {m : Nat}
theorem ok_ManyMaker_blocks_at {k : Nat} {C_Found : Addr} {C_Lister : Addr} {C_ManyMaker : Addr} {C_WholeMaker : Addr} {c_deed_judge P_deed_judge : Addr} {c_law_thing P_law_thing : Addr} (R : g.RawM C_ManyMaker "blocks_at" "ManyMaker.blocks_at" s_ManyMaker_blocks_at ["self", "left"]) (F_WholeMaker_count_at : g.Me k C_WholeMaker "count_at" ["self", "size"] (sp_Wm_count g.K C_WholeMaker C_ManyMaker)) (F_ManyMaker_count_at : g.Me k C_ManyMaker "count_at" ["self", "size"] (sp_Mcount g.K C_WholeMaker C_ManyMaker m)) (b_range : g.mg "range" = none) (cl_ManyMaker : Cls g.K C_ManyMaker) (n_ManyMaker_counts : NoAttr g.K C_ManyMaker "counts") (n_ManyMaker_part : NoAttr g.K C_ManyMaker "part") (cl_WholeMaker : Cls g.K C_WholeMaker) (n_WholeMaker_counts : NoAttr g.K C_WholeMaker "counts") (n_WholeMaker_low : NoAttr g.K C_WholeMaker "low") (n_WholeMaker_span : NoAttr g.K C_WholeMaker "span") : g.Me (k + 1) C_ManyMaker "blocks_at" ["self", "left"] (sp_Mblocks g.K C_WholeMaker C_ManyMaker (m + 1)) := by
  refine R.me sc_ManyMaker_blocks_at (fun vs H Q E h => by obtain ⟨pm, pw, cm, cw, dm, dw, lo, span, mm, n, k, rfl, hl2, M, hk, hmm, hn, q⟩ := h; rfl) fun f_ cdv A outer s H vs Q E hr h => ?_
  obtain ⟨pm, pw, cm, cw, dm, dw, lo, span, mm, n, k, rfl, hl2, M, hk, hmm, hn, q⟩ := h
  refine ⟨_, (@pss_one _ _ _ (@ps_ret _ _ _ _ (@pe_lc _ _ _ _ _ _ _ ([none, some 0, some 1]) ((["first", "self", "left"] : List Str)) _ (gName 0) _ _ (.own (.cap (i := 0) rfl rfl (by first | exact Or.inl rfl | exact Or.inr rfl) (.cap (i := 1) rfl rfl (by first | exact Or.inl rfl | exact Or.inr rfl) .nil))) rfl (@pi_range1 _ _ _ _ _ _ rfl b_range (@pa_cons _ _ _ _ _ (@pv _ 1 _ _ (by rfl) (by first | exact Or.inl rfl | exact Or.inr (Or.inl rfl) | exact Or.inr (Or.inr rfl)) (by decide) (by decide)) pa_nil (by rfl)) (by rfl)) (fun cl C s₀ H₀ fp pn => (@pg_name _ _ (0) _ (show List.Nodup (["first", "self", "left"] : List Str) by decide +kernel) rfl (Or.inl rfl) (Or.inr rfl))) (fun cl C s₀ H₀ fp pn => pts_nil) (fun cl C s₀ H₀ fp pn => (@pe_tup _ _ _ _ _ (@pa_cons _ _ _ _ _ (@pe_me _ _ _ _ _ _ _ _ _ _ _ _ _ _ _ _ F_WholeMaker_count_at cl_WholeMaker hr (@pe_fldK _ _ _ _ _ (g.K) (@pv _ 1 _ _ (by rfl) (by first | exact Or.inl rfl | exact Or.inr (Or.inl rfl) | exact Or.inr (Or.inr rfl)) (by decide) (by decide)) rfl (by rfl)) (@pa_cons _ _ _ _ _ (@pv _ 0 _ _ (by rfl) (by first | exact Or.inl rfl | exact Or.inr (Or.inl rfl) | exact Or.inr (Or.inr rfl)) (by decide) (by decide)) pa_nil (by rfl)) (by omega) (by rfl) (by rfl) (by rfl) (by rfl)) (@pa_cons _ _ _ _ _ (@pe_me _ _ _ _ _ _ _ _ _ _ _ _ _ _ _ _ F_ManyMaker_count_at cl_ManyMaker hr (@pv _ 1 _ _ (by rfl) (by first | exact Or.inl rfl | exact Or.inr (Or.inl rfl) | exact Or.inr (Or.inr rfl)) (by decide) (by decide)) (@pa_cons _ _ _ _ _ (@pe_op _ _ _ _ _ _ _ _ op_sub (@pe_op _ _ _ _ _ _ _ _ op_sub (@pv _ 2 _ _ (by rfl) (by first | exact Or.inl rfl | exact Or.inr (Or.inl rfl) | exact Or.inr (Or.inr rfl)) (by decide) (by decide)) pe_int) (@pv _ 0 _ _ (by rfl) (by first | exact Or.inl rfl | exact Or.inr (Or.inl rfl) | exact Or.inr (Or.inr rfl)) (by decide) (by decide))) pa_nil (by rfl)) (by omega) (by rfl) (by rfl) (by rfl) (by rfl)) pa_nil (by rfl)) (by rfl)))) (by intro x hx; simp at hx; first | (subst hx; exact Or.inl rfl) | (rcases hx with rfl | rfl <;> exact Or.inl rfl) | (rcases hx with rfl | rfl | rfl <;> exact Or.inl rfl)) (by rfl) (by decide) (by decide +kernel) (by intro _; rfl)))), ?_⟩
  walk_at "rd"
  have nwc : pw ≠ cw := ne_of M.hw M.hv (by simp)
  have nmc : pm ≠ cw := ne_of M.hm M.hv (by simp)
  refine tLC_rangeI (n := k) (fun D i zs H' => zs.length = i ∧ H' D = some (.lst zs) ∧ (∀ b o, b ≠ cw → b ≠ D → H b = some o → H' b = some o) ∧ H' cw = some (.lst (cnts (wc span) (max n i))) ∧ ∀ (j : Nat) x, zs[j]? = some x → ∃ T, x = .ref T ∧ T ≠ D ∧ T ≠ cw ∧ H' T = some (.tup [.int (wc span j), .int (mc span (k - 1 - j))])) (fun R r => by walk_at "rd"; exact r) (by omega) ?_ ?_ ?_ ?_
  · intro D hD
    refine ⟨rfl, upd_same, fun b o _ hb e => by rw [upd_ne hb]; exact e, ?_, fun j x hx => by simp at hx⟩
    rw [upd_ne (ne_of_none M.hv hD), Nat.max_zero]; exact M.hv
  · rintro D i zs H' ⟨h1, h2, _⟩
    exact ⟨h1, h2⟩
  · rintro D i zs H' hD hi ⟨hz, hd, fr, hv, hT⟩ R r
    have hm' := fr _ _ nmc (ne_of_none M.hm hD) M.hm
    have hw' := fr _ _ nwc (ne_of_none M.hw hD) M.hw
    have hc' := fr _ _ M.ne (ne_of_none M.hc hD) M.hc
    have nDc : D ≠ cw := Ne.symm (ne_of_none M.hv hD)
    walk_at "rd"
    refine ⟨_, _, _, hm', cl_ManyMaker, n_ManyMaker_part, _, mmf_part _ _, pw, rfl, _, _, hw', mf_count _ _, pw, dw, cw, lo, span, max n i, i, rfl, by omega, by omega, hw', hv, fun H2 sb hv2 => ?_⟩
    rw [show max (max n i) (i + 1) = max n (i + 1) by omega] at hv2
    rw [show (k : Int) - 1 - (i : Int) = ((k - 1 - i : Nat) : Int) by omega]
    refine ⟨_, _, sb _ _ nmc hm', mmf_no _ _ (by decide +kernel) (by decide +kernel), pm, pw, cm, cw, dm, dw, lo, span, mm, max n (i + 1), k - 1 - i, rfl, by omega, ⟨sb _ _ nmc hm', sb _ _ M.ne hc', sb _ _ nwc hw', hv2, M.ne⟩, hmm, by omega, fun _ => ⟨few (by decide), fun T gT => ?_⟩, fun z => absurd z (by omega)⟩
    have hd2 := sb _ _ nDc hd
    have sT := Same.upd_new gT (.tup [.int (wc span i), .int (mc span (k - 1 - i))])
    have nTD : T ≠ D := Ne.symm (ne_of_none hd2 gT)
    have nTc : T ≠ cw := Ne.symm (ne_of_none hv2 gT)
    refine r _ _ (sT _ _ hd2) ⟨by rw [List.length_append, hz]; rfl, upd_same, fun b o hb1 hb2 e => ?_, ?_, fun j x hx => ?_⟩
    · rw [upd_ne hb2]
      exact sT _ _ (sb _ _ hb1 (fr b o hb1 hb2 e))
    · rw [upd_ne (Ne.symm nDc)]
      exact sT _ _ hv2
    · by_cases c : j < zs.length
      · rw [List.getElem?_append_left c] at hx
        obtain ⟨T', rfl, t1, t2, t3⟩ := hT j x hx
        exact ⟨T', rfl, t1, t2, by rw [upd_ne t1]; exact sT _ _ (sb _ _ t2 t3)⟩
      · have hj : j = zs.length := by
          have := (List.getElem?_eq_some_iff.mp hx).1
          rw [List.length_append, List.length_singleton] at this
          omega
        subst hj
        rw [List.getElem?_append_right (Nat.le_refl _), Nat.sub_self] at hx
        have : V.ref T = x := Option.some.inj hx
        subst this
        rw [hz]
        exact ⟨T, rfl, nTD, nTc, by rw [upd_ne nTD]; exact upd_same⟩
  · rintro D zs H' hD ⟨hz, hd, fr, hv, hT⟩
    refine q D H' hD ⟨zs, hd, by rw [hz, blk, List.length_map, List.length_range], fun i x p hx hp => ?_⟩ (fun b o hb e => fr b o hb (ne_of_none e hD) e) hv
    obtain ⟨T, rfl, _, _, h⟩ := hT i x hx
    have hi : i < k := by have := (List.getElem?_eq_some_iff.mp hx).1; omega
    rw [blk, List.getElem?_map, List.getElem?_range hi] at hp
    have : (wc span i, mc span (k - 1 - i)) = p := Option.some.inj hp
    subst this
    exact ⟨T, rfl, h⟩
end KW
set_option maxHeartbeats 8000000
namespace KW
open PySem L2

variable {g : Gx}
variable {src : List (Option Nat)} {te : TE} {σ : St} {H : Hp} {Q : VK}
variable {m : Nat}
local macro_rules | `(tactic| walk_at "gn") => `(tactic| simp only [gName, List.set_cons_zero, List.set_cons_succ])

local macro_rules | `(tactic| walk_at "rd") => `(tactic| simp (config := { failIfUnchanged := false, maxSteps := 10000000 }) only [L2.start, cxOf_K, nox_K, List.map_cons, List.map_nil, List.length_cons, List.length_nil, List.cons_append, List.nil_append, List.replicate_succ, List.replicate_zero, Nat.zero_add, Nat.reduceAdd, Nat.reduceSub, Nat.sub_self, tSeq, tIfS, tTest, tOp, tC, tVar, rI0, rI, rU, tUn, tRet, tRetN, tDrop, tNext, tBreak, tCont, tAsg, gName, gNil, gCons, tCons, tNil, tCB, tCall, tTry, tTryAs, tRaise, sFld, tFld, tMake, tMeth, Ends.gone, caught_K, tB, tAnd, tOr, tNot, tAndV, tOrV, tNotV, tIf, tChain, tNoPart, tPart, tSl, tNever, tAug, rIxL, rIxT, rSlL, tLst, tTup, gTup, tRev, tLZ, tConT, tDict0, tDNewT, tDGet, sDPut, rNotInD, rInD, tEither, tSlStep, rBits, rFind, rIn, tBM, tBM0, rAppend, rReverse, rEq, rNe, scal_ii, scal_ss, rCat, rSetL, gSub, ipI, capSt, List.getD_cons_zero, List.getD_cons_succ, decide_true, not_true_eq_false, not_false_eq_true,
  exists_eq_left', exists_eq_left, exists_eq', exists_eq, exists_and_left, and_assoc, Option.some.injEq, V.int.injEq, V.bl.injEq, V.ref.injEq, V.str.injEq, List.getElem?_cons_zero, List.getElem?_cons_succ, List.set_cons_zero, List.set_cons_succ, List.cons.injEq, and_true, true_and, List.append_nil, decide_eq_true_eq, Bool.not_eq_true', decide_eq_false_iff_not, Bool.not_not, Bool.not_true, Bool.not_false, Bool.true_eq_false, Bool.false_eq_true, if_true, if_false, ite_true, ite_false])

theorem ok_ManyMaker_reckoned {k : Nat} {C_Found : Addr} {C_Lister : Addr} {C_ManyMaker : Addr} {C_WholeMaker : Addr} {c_deed_judge P_deed_judge : Addr} {c_law_thing P_law_thing : Addr} (R : g.RawM C_ManyMaker "reckoned" "ManyMaker.reckoned" s_ManyMaker_reckoned ["self", "size"]) (F_ways_of : g.Fn k "ways_of" ["blocks"] (sp_ways_of g.K)) (F_ManyMaker_blocks_at : g.Me k C_ManyMaker "blocks_at" ["self", "left"] (sp_Mblocks g.K C_WholeMaker C_ManyMaker m)) (cl_ManyMaker : Cls g.K C_ManyMaker) (n_ManyMaker_counts : NoAttr g.K C_ManyMaker "counts") (n_ManyMaker_part : NoAttr g.K C_ManyMaker "part") : g.Me (k + 1) C_ManyMaker "reckoned" ["self", "size"] (sp_Mreck g.K C_WholeMaker C_ManyMaker (m + 1)) := by
  refine R.me sc_ManyMaker_reckoned (fun vs H Q E h => by obtain ⟨pm, pw, cm, cw, dm, dw, lo, span, mm, n, k, rfl, hl1, hl3, M, hk, hmm, hn, hb, q⟩ := h; rfl) fun f_ cdv A outer s H vs Q E hr h => ?_
  obtain ⟨pm, pw, cm, cw, dm, dw, lo, span, mm, n, k, rfl, hl1, hl3, M, hk, hmm, hn, hb, q⟩ := h
  refine ⟨_, (@pss_one _ _ _ (@ps_ret _ _ _ _ (@pe_ifExp _ _ _ _ _ _ _ _ (@pt_cmpR _ _ _ _ _ _ _ _ op_eq (@pv _ 1 _ _ (by rfl) (by first | exact Or.inl rfl | exact Or.inr (Or.inl rfl) | exact Or.inr (Or.inr rfl)) (by decide) (by decide)) pe_int (nomark _)) pe_int (@pe_fn _ _ _ _ _ _ _ _ _ _ _ _ F_ways_of hr (@pa_cons _ _ _ _ _ (@pe_me _ _ _ _ _ _ _ _ _ _ _ _ _ _ _ _ F_ManyMaker_blocks_at cl_ManyMaker hr (@pv _ 0 _ _ (by rfl) (by first | exact Or.inl rfl | exact Or.inr (Or.inl rfl) | exact Or.inr (Or.inr rfl)) (by decide) (by decide)) (@pa_cons _ _ _ _ _ (@pv _ 1 _ _ (by rfl) (by first | exact Or.inl rfl | exact Or.inr (Or.inl rfl) | exact Or.inr (Or.inr rfl)) (by decide) (by decide)) pa_nil (by rfl)) (by omega) (by rfl) (by rfl) (by rfl) (by rfl)) pa_nil (by rfl)) (by omega) (by rfl) (by rfl) (by decide) (by rfl) (by rfl))))), ?_⟩
  walk_at "rd"
  refine ite2 (fun c => ?_) (fun c => ?_)
  · have e : k = 0 := by omega
    subst e
    have := q H (fun _ _ _ e => e) (by rw [Nat.max_zero]; exact M.hv)
    rw [mc_zero] at this
    exact this
  · obtain ⟨i, rfl⟩ : ∃ i, k = i + 1 := ⟨k - 1, by omega⟩
    refine ⟨_, _, M.hm, mmf_no _ _ (by decide +kernel) (by decide +kernel), pm, pw, cm, cw, dm, dw, lo, span, mm, n, i + 1, rfl, by omega, M, hk, hmm, hn, fun D H' hD hB fr hv => ?_⟩
    refine ⟨D, blk span (i + 1), rfl, hB, by rw [blk, List.length_map, List.length_range]; omega, fun p hp => ?_, fun H2 s2 => ?_⟩
    · rw [blk] at hp
      obtain ⟨j, hj, rfl⟩ := List.mem_map.mp hp
      have hj := List.mem_range.mp hj
      exact hb j (by omega) (i + 1 - 1 - j) (by omega)
    · rw [blk_sum]
      exact q H2 (fun b o hb' e => s2 _ _ (fr b o hb' e)) (s2 _ _ hv)
end KW
set_option maxHeartbeats 8000000
namespace KW
open PySem L2

variable {g : Gx}
variable {src : List (Option Nat)} {te : TE} {σ : St} {H : Hp} {Q : VK}
variable {m : Nat}
local macro_rules | `(tactic| walk_at "gn") => `(tactic| simp only [gName, List.set_cons_zero, List.set_cons_succ])

local macro_rules | `(tactic| walk_at "rd") => `(tactic| simp (config := { failIfUnchanged := false, maxSteps := 10000000 }) only [L2.start, cxOf_K, nox_K, List.map_cons, List.map_nil, List.length_cons, List.length_nil, List.cons_append, List.nil_append, List.replicate_succ, List.replicate_zero, Nat.zero_add, Nat.reduceAdd, Nat.reduceSub, Nat.sub_self, tSeq, tIfS, tTest, tOp, tC, tVar, rI0, rI, rU, tUn, tRet, tRetN, tDrop, tNext, tBreak, tCont, tAsg, gName, gNil, gCons, tCons, tNil, tCB, tCall, tTry, tTryAs, tRaise, sFld, tFld, tMake, tMeth, Ends.gone, caught_K, tB, tAnd, tOr, tNot, tAndV, tOrV, tNotV, tIf, tChain, tNoPart, tPart, tSl, tNever, tAug, rIxL, rIxT, rSlL, tLst, tTup, gTup, tRev, tLZ, tConT, tDict0, tDNewT, tDGet, sDPut, rNotInD, rInD, tEither, tSlStep, rBits, rFind, rIn, tBM, tBM0, rAppend, rReverse, rEq, rNe, scal_ii, scal_ss, rCat, rSetL, gSub, ipI, capSt, List.getD_cons_zero, List.getD_cons_succ, decide_true, not_true_eq_false, not_false_eq_true,
  exists_eq_left', exists_eq_left, exists_eq', exists_eq, exists_and_left, and_assoc, Option.some.injEq, V.int.injEq, V.bl.injEq, V.ref.injEq, V.str.injEq, List.getElem?_cons_zero, List.getElem?_cons_succ, List.set_cons_zero, List.set_cons_succ, List.cons.injEq, and_true, true_and, List.append_nil, decide_eq_true_eq, Bool.not_eq_true', decide_eq_false_iff_not, Bool.not_not, Bool.not_true, Bool.not_false, Bool.true_eq_false, Bool.false_eq_true, if_true, if_false, ite_true, ite_false])

theorem ok_ManyMaker_count_at {k : Nat} {C_Found : Addr} {C_Lister : Addr} {C_ManyMaker : Addr} {C_WholeMaker : Addr} {c_deed_judge P_deed_judge : Addr} {c_law_thing P_law_thing : Addr} (R : g.RawM C_ManyMaker "count_at" "Maker.count_at" s_ManyMaker_count_at ["self", "size"]) (F_ManyMaker_reckoned : g.Me k C_ManyMaker "reckoned" ["self", "size"] (sp_Mreck g.K C_WholeMaker C_ManyMaker m)) (b_len : g.mg "len" = none) (cl_ManyMaker : Cls g.K C_ManyMaker) (n_ManyMaker_counts : NoAttr g.K C_ManyMaker "counts") (n_ManyMaker_part : NoAttr g.K C_ManyMaker "part") : g.Me (k + 1) C_ManyMaker "count_at" ["self", "size"] (sp_Mcount g.K C_WholeMaker C_ManyMaker (m + 1)) := by
  refine R.me sc_ManyMaker_count_at (fun vs H Q E h => by obtain ⟨pm, pw, cm, cw, dm, dw, lo, span, mm, n, k, rfl, hl1, M, hmm, hn, q1, q2⟩ := h; rfl) fun f_ cdv A outer s H vs Q E hr h => ?_
  obtain ⟨pm, pw, cm, cw, dm, dw, lo, span, mm, n, k, rfl, hl1, M, hmm, hn, q1, q2⟩ := h
  refine ⟨_, (@pss_cons _ _ _ _ _ (@ps_while _ _ _ _ _ _ PassesOwn.never (@pt_cmpR _ _ _ _ _ _ _ _ op_le (@pe_bf _ _ _ _ _ _ _ _ _ _ b_len call_len_seq (@pa_cons _ _ _ _ _ (@pe_fld _ _ _ _ _ (@pv _ 0 _ _ (by rfl) (by first | exact Or.inl rfl | exact Or.inr (Or.inl rfl) | exact Or.inr (Or.inr rfl)) (by decide) (by decide)) rfl) pa_nil (by rfl)) (by decide +kernel) (by rfl) (by rfl) (by decide) (by decide) (by rfl) (by rfl)) (@pv _ 1 _ _ (by rfl) (by first | exact Or.inl rfl | exact Or.inr (Or.inl rfl) | exact Or.inr (Or.inr rfl)) (by decide) (by decide)) (nomark _)) (@pss_one _ _ _ (@ps_expr _ _ _ _ (@pe_bm _ _ _ _ _ _ _ _ _ _ _ _ PySem.F.plainAttrs_list PySem.F.slot_list_append PySem.F.type_list_append mt_append (@pe_fld _ _ _ _ _ (@pv _ 0 _ _ (by rfl) (by first | exact Or.inl rfl | exact Or.inr (Or.inl rfl) | exact Or.inr (Or.inr rfl)) (by decide) (by decide)) rfl) (@pa_cons _ _ _ _ _ (@pe_me _ _ _ _ _ _ _ _ _ _ _ _ _ _ _ _ F_ManyMaker_reckoned cl_ManyMaker hr (@pv _ 0 _ _ (by rfl) (by first | exact Or.inl rfl | exact Or.inr (Or.inl rfl) | exact Or.inr (Or.inr rfl)) (by decide) (by decide)) (@pa_cons _ _ _ _ _ (@pe_bf _ _ _ _ _ _ _ _ _ _ b_len call_len_seq (@pa_cons _ _ _ _ _ (@pe_fld _ _ _ _ _ (@pv _ 0 _ _ (by rfl) (by first | exact Or.inl rfl | exact Or.inr (Or.inl rfl) | exact Or.inr (Or.inr rfl)) (by decide) (by decide)) rfl) pa_nil (by rfl)) (by decide +kernel) (by rfl) (by rfl) (by decide) (by decide) (by rfl) (by rfl)) pa_nil (by rfl)) (by omega) (by rfl) (by rfl) (by rfl) (by rfl)) pa_nil (by rfl)) (by rfl) (by rfl) (by rfl) (by rfl) (by rfl)) (by rfl)))) (@pss_one _ _ _ (@ps_ret _ _ _ _ (@pe_ix _ _ _ _ _ _ _ ix_list (@pe_fld _ _ _ _ _ (@pv _ 0 _ _ (by rfl) (by first | exact Or.inl rfl | exact Or.inr (Or.inl rfl) | exact Or.inr (Or.inr rfl)) (by decide) (by decide)) rfl) (@pv _ 1 _ _ (by rfl) (by first | exact Or.inl rfl | exact Or.inr (Or.inl rfl) | exact Or.inr (Or.inr rfl)) (by decide) (by decide)) (fun _ _ => rfl))))), ?_⟩
  walk_at "rd"
  have nmc : pm ≠ cw := ne_of M.hm M.hv (by simp)
  have nmm : pm ≠ cm := ne_of M.hm M.hc (by simp)
  have nwc : pw ≠ cw := ne_of M.hw M.hv (by simp)
  have nwm : pw ≠ cm := ne_of M.hw M.hc (by simp)
  refine while_of (α := Nat) (fun x σ H' => σ = [some (.ref pm), some (.int k)] ∧ (mm = x → H = H') ∧ (∀ b o, b ≠ cw → b ≠ cm → H b = some o → H' b = some o) ∧ mm ≤ x ∧ x ≤ max mm (k + 1) ∧ ∃ n', n' ≤ 50 ∧ MM C_WholeMaker C_ManyMaker H' pm pw cm cw dm dw lo span x n') (fun x => decide (x ≤ k)) (fun x => k + 1 - x) mm ⟨rfl, fun _ => rfl, fun _ _ _ _ e => e, Nat.le_refl _, Nat.le_max_left _ _, n, hn, M⟩ ?_ ?_ ?_
  · rintro x σ H' ⟨rfl, h0, fr, h1, h2, n', hn', M'⟩ R r
    walk_at "rd"
    refine ⟨_, _, _, M'.hm, cl_ManyMaker, n_ManyMaker_counts, _, mmf_counts _ _, _, rfl, _, .inl (SqL.of M'.hc), ?_⟩
    rw [cnts_len, dle]
    exact r H' ⟨rfl, h0, fr, h1, h2, n', hn', M'⟩
  · rintro x σ H' ⟨rfl, h0, fr, h1, h2, n', hn', M'⟩ hd
    have hd : x ≤ k := of_decide_eq_true hd
    obtain ⟨l4, hk40, hb, qq⟩ := q2 (by omega)
    walk_at "rd"
    refine ⟨_, _, _, M'.hm, cl_ManyMaker, n_ManyMaker_counts, _, mmf_counts _ _, .inl ⟨rfl, _, SqL.of M'.hc⟩, _, _, M'.hm, mmf_no _ _ (by decide +kernel) (by decide +kernel), _, _, _, M'.hm, cl_ManyMaker, n_ManyMaker_counts, _, mmf_counts _ _, _, rfl, _, .inl (SqL.of M'.hc), ?_⟩
    rw [cnts_len]
    refine ⟨pm, pw, cm, cw, dm, dw, lo, span, x, n', x, rfl, by omega, .inr (by omega), M', Nat.le_refl _, by omega, hn', hb, fun H2 fr2 hv2 => ⟨_, rfl, _, fr2 _ _ M'.ne M'.hc, by rw [cnts_len]; exact few (by omega), x + 1, ?_⟩⟩
    exact ⟨fun z => absurd z (by omega), fun b o b1 b2 e => by rw [upd_ne b2]; exact fr2 _ _ b1 (fr b o b1 b2 e), by omega, by omega, ⟨max n' x, by omega, ⟨(upd_ne nmm).trans (fr2 _ _ nmc M'.hm), by rw [upd_same, cnts_succ], (upd_ne nwm).trans (fr2 _ _ nwc M'.hw), (upd_ne (Ne.symm M'.ne)).trans hv2, M'.ne⟩⟩, by omega⟩
  · rintro x σ H' ⟨rfl, h0, fr, h1, h2, n', hn', M'⟩ hd
    have hd : ¬ x ≤ k := of_decide_eq_false hd
    walk_at "rd"
    refine ⟨_, _, _, M'.hm, cl_ManyMaker, n_ManyMaker_counts, _, mmf_counts _ _, _, rfl, _, SqL.of M'.hc, _, cnts_at _ (by omega), ?_⟩
    by_cases c : k < mm
    · have e := h0 (by omega)
      subst e
      exact q1 c
    · obtain ⟨l4, hk40, hb, qq⟩ := q2 (by omega)
      have e : x = k + 1 := by omega
      subst e
      exact qq H' n' fr hn' M'
end KW
set_option maxHeartbeats 8000000
namespace KW
open PySem L2

variable {g : Gx}
variable {src : List (Option Nat)} {te : TE} {σ : St} {H : Hp} {Q : VK}
variable {m : Nat}
local macro_rules | `(tactic| walk_at "gn") => `(tactic| simp only [gName, List.set_cons_zero, List.set_cons_succ])

local macro_rules | `(tactic| walk_at "rd") => `(tactic| simp (config := { failIfUnchanged := false, maxSteps := 10000000 }) only [L2.start, cxOf_K, nox_K, List.map_cons, List.map_nil, List.length_cons, List.length_nil, List.cons_append, List.nil_append, List.replicate_succ, List.replicate_zero, Nat.zero_add, Nat.reduceAdd, Nat.reduceSub, Nat.sub_self, tSeq, tIfS, tTest, tOp, tC, tVar, rI0, rI, rU, tUn, tRet, tRetN, tDrop, tNext, tBreak, tCont, tAsg, gName, gNil, gCons, tCons, tNil, tCB, tCall, tTry, tTryAs, tRaise, sFld, tFld, tMake, tMeth, Ends.gone, caught_K, tB, tAnd, tOr, tNot, tAndV, tOrV, tNotV, tIf, tChain, tNoPart, tPart, tSl, tNever, tAug, rIxL, rIxT, rSlL, tLst, tTup, gTup, tRev, tLZ, tConT, tDict0, tDNewT, tDGet, sDPut, rNotInD, rInD, tEither, tSlStep, rBits, rFind, rIn, tBM, tBM0, rAppend, rReverse, rEq, rNe, scal_ii, scal_ss, rCat, rSetL, gSub, ipI, capSt, List.getD_cons_zero, List.getD_cons_succ, decide_true, not_true_eq_false, not_false_eq_true,
  exists_eq_left', exists_eq_left, exists_eq', exists_eq, exists_and_left, and_assoc, Option.some.injEq, V.int.injEq, V.bl.injEq, V.ref.injEq, V.str.injEq, List.getElem?_cons_zero, List.getElem?_cons_succ, List.set_cons_zero, List.set_cons_succ, List.cons.injEq, and_true, true_and, List.append_nil, decide_eq_true_eq, Bool.not_eq_true', decide_eq_false_iff_not, Bool.not_not, Bool.not_true, Bool.not_false, Bool.true_eq_false, Bool.false_eq_true, if_true, if_false, ite_true, ite_false])

def sp_Mm_init (K : PySem.W.Frag) (CW CM : Addr) : Sp := fun vs H Q _ => ∃ (p dx pw : Addr), vs = [.ref p, .ref pw] ∧ H p = some (.ins CM dx []) ∧ ∀ cl H', H cl = none → SameBut p H H' → H' p = some (.ins CM dx (mmf cl pw)) → H' cl = some (.lst []) → Q .non H'
theorem ok_ManyMaker___init__ {k : Nat} {C_Found : Addr} {C_Lister : Addr} {C_ManyMaker : Addr} {C_WholeMaker : Addr} {c_deed_judge P_deed_judge : Addr} {c_law_thing P_law_thing : Addr} (R : g.RawI "ManyMaker" C_ManyMaker "ManyMaker.__init__" s_ManyMaker___init__ ["self", "part"]) (F_Maker___init__ : g.Cf k "Maker" "__init__" ["self"] (sp_Maker_init g.K C_WholeMaker C_ManyMaker)) (cl_ManyMaker : Cls g.K C_ManyMaker) (n_ManyMaker_counts : NoAttr g.K C_ManyMaker "counts") (n_ManyMaker_part : NoAttr g.K C_ManyMaker "part") : g.Ma (k + 1) "ManyMaker" C_ManyMaker ["self", "part"] (sp_Mm_init g.K C_WholeMaker C_ManyMaker) := by
  refine R.ma sc_ManyMaker___init__ (fun vs H Q E h => by obtain ⟨p, dx, pw, rfl, hp, q⟩ := h; rfl) fun f_ cdv A outer s H vs Q E hr h => ?_
  obtain ⟨p, dx, pw, rfl, hp, q⟩ := h
  refine ⟨_, (@pss_cons _ _ _ _ _ (@ps_expr _ _ _ _ (@pe_cf _ _ _ _ _ _ _ _ _ _ _ _ _ _ _ F_Maker___init__ hr (@pa_cons _ _ _ _ _ (@pv _ 0 _ _ (by rfl) (by first | exact Or.inl rfl | exact Or.inr (Or.inl rfl) | exact Or.inr (Or.inr rfl)) (by decide) (by decide)) pa_nil (by rfl)) (by omega) (by rfl) (by rfl) (by decide) (by rfl) (by rfl) (by rfl)) (by rfl)) (@pss_one _ _ _ (@ps_fld _ _ _ _ _ _ _ _ (@pv _ 0 _ _ (by rfl) (by first | exact Or.inl rfl | exact Or.inr (Or.inl rfl) | exact Or.inr (Or.inr rfl)) (by decide) (by decide)) (@pv _ 1 _ _ (by rfl) (by first | exact Or.inl rfl | exact Or.inr (Or.inl rfl) | exact Or.inr (Or.inr rfl)) (by decide) (by decide)) rfl))), ?_⟩
  walk_at "rd"
  refine ⟨p, dx, _, rfl, .inr rfl, hp, fun cl hcl => ?_⟩
  have hne : p ≠ cl := ne_of_none hp hcl
  refine ⟨_, dx, _, upd_same, cl_ManyMaker, n_ManyMaker_part, lt1000 (show 1 ≤ 3 by decide), ?_⟩
  refine q cl _ hcl (fun x o hx h => ?_) ?_ ?_
  · rw [upd_ne hx, upd_ne hx, upd_ne (ne_of_none h hcl)]; exact h
  · rw [upd_same]
    exact congrArg some (congrArg (HO.ins _ _) (mmf_put cl pw))
  · rw [upd_ne (Ne.symm hne), upd_ne (Ne.symm hne), upd_same]
end KW
set_option maxHeartbeats 8000000
namespace KW
open PySem L2

variable {g : Gx}
variable {src : List (Option Nat)} {te : TE} {σ : St} {H : Hp} {Q : VK}
variable {m : Nat}
local macro_rules | `(tactic| walk_at "gn") => `(tactic| simp only [gName, List.set_cons_zero, List.set_cons_succ])

local macro_rules | `(tactic| walk_at "rd") => `(tactic| simp (config := { failIfUnchanged := false, maxSteps := 10000000 }) only [L2.start, cxOf_K, nox_K, List.map_cons, List.map_nil, List.length_cons, List.length_nil, List.cons_append, List.nil_append, List.replicate_succ, List.replicate_zero, Nat.zero_add, Nat.reduceAdd, Nat.reduceSub, Nat.sub_self, tSeq, tIfS, tTest, tOp, tC, tVar, rI0, rI, rU, tUn, tRet, tRetN, tDrop, tNext, tBreak, tCont, tAsg, gName, gNil, gCons, tCons, tNil, tCB, tCall, tTry, tTryAs, tRaise, sFld, tFld, tMake, tMeth, Ends.gone, caught_K, tB, tAnd, tOr, tNot, tAndV, tOrV, tNotV, tIf, tChain, tNoPart, tPart, tSl, tNever, tAug, rIxL, rIxT, rSlL, tLst, tTup, gTup, tRev, tLZ, tConT, tDict0, tDNewT, tDGet, sDPut, rNotInD, rInD, tEither, tSlStep, rBits, rFind, rIn, tBM, tBM0, rAppend, rReverse, rEq, rNe, scal_ii, scal_ss, rCat, rSetL, gSub, ipI, capSt, List.getD_cons_zero, List.getD_cons_succ, decide_true, not_true_eq_false, not_false_eq_true,
  exists_eq_left', exists_eq_left, exists_eq', exists_eq, exists_and_left, and_assoc, Option.some.injEq, V.int.injEq, V.bl.injEq, V.ref.injEq, V.str.injEq, List.getElem?_cons_zero, List.getElem?_cons_succ, List.set_cons_zero, List.set_cons_succ, List.cons.injEq, and_true, true_and, List.append_nil, decide_eq_true_eq, Bool.not_eq_true', decide_eq_false_iff_not, Bool.not_not, Bool.not_true, Bool.not_false, Bool.true_eq_false, Bool.false_eq_true, if_true, if_false, ite_true, ite_false])

def lf (b : V) (d : Addr) : List (Str × V) := [("book", b), ("makers", .ref d)]
theorem nbm : ¬ (("book" : Str) = "makers") := by decide +kernel
theorem lf_put (b : V) (d : Addr) : putF "makers" (.ref d) (putF "book" b []) = lf b d := by
  simp only [putF, if_neg nbm]; rfl
theorem lf_makers (b : V) (d : Addr) : (lf b d).lookup ("makers" : Str) = some (.ref d) := by
  show List.lookup ("makers" : Str) [(("book" : Str), b), (("makers" : Str), V.ref d)] = _
  rw [List.lookup_cons, show (("makers" : Str) == ("book" : Str)) = false by decide +kernel, List.lookup_cons, show (("makers" : Str) == ("makers" : Str)) = true by decide +kernel]
theorem lf_no (b : V) (d : Addr) {m : Str} (h1 : (m == ("book" : Str)) = false) (h2 : (m == ("makers" : Str)) = false) : (lf b d).lookup m = none := by
  show List.lookup m [(("book" : Str), b), (("makers" : Str), V.ref d)] = _
  rw [List.lookup_cons, h1, List.lookup_cons, h2]; rfl
def sp_Li_init (P : Program) (w : World) (C : Addr) : Sp := fun vs H Q _ => ∃ (p dx : Addr) (b : V), vs = [.ref p, b] ∧ H p = some (.ins C dx []) ∧ ∀ d H', H d = none → SameBut p H H' → H' p = some (.ins C dx (lf b d)) → H' d = some (DDi P w d []) → Q .non H'
theorem ok_Lister___init__ {C_Found : Addr} {C_Lister : Addr} {C_ManyMaker : Addr} {C_WholeMaker : Addr} {c_deed_judge P_deed_judge : Addr} {c_law_thing P_law_thing : Addr} (R : g.RawI "Lister" C_Lister "Lister.__init__" s_Lister___init__ ["self", "book"]) (cl_Lister : Cls g.K C_Lister) (n_Lister_book : NoAttr g.K C_Lister "book") (n_Lister_makers : NoAttr g.K C_Lister "makers") : g.Ma (1) "Lister" C_Lister ["self", "book"] (sp_Li_init g.P g.w C_Lister) := by
  refine R.ma sc_Lister___init__ (fun vs H Q E h => by obtain ⟨p, dx, b, rfl, hp, q⟩ := h; rfl) fun f_ cdv A outer s H vs Q E hr h => ?_
  obtain ⟨p, dx, b, rfl, hp, q⟩ := h
  refine ⟨_, (@pss_cons _ _ _ _ _ (@ps_fld _ _ _ _ _ _ _ _ (@pv _ 0 _ _ (by rfl) (by first | exact Or.inl rfl | exact Or.inr (Or.inl rfl) | exact Or.inr (Or.inr rfl)) (by decide) (by decide)) (@pv _ 1 _ _ (by rfl) (by first | exact Or.inl rfl | exact Or.inr (Or.inl rfl) | exact Or.inr (Or.inr rfl)) (by decide) (by decide)) rfl) (@pss_one _ _ _ (@ps_fld _ _ _ _ _ _ _ _ (@pv _ 0 _ _ (by rfl) (by first | exact Or.inl rfl | exact Or.inr (Or.inl rfl) | exact Or.inr (Or.inr rfl)) (by decide) (by decide)) pe_dnewD rfl))), ?_⟩
  walk_at "rd"
  refine ⟨C_Lister, dx, [], hp, cl_Lister, n_Lister_book, by decide, fun d hd => ?_⟩
  have hne : p ≠ d := ne_of_none upd_same hd
  rw [upd_ne (Ne.symm hne)] at hd
  refine ⟨C_Lister, dx, _, by rw [upd_ne hne]; exact upd_same, cl_Lister, n_Lister_makers, by simp [putF], q d _ hd (fun x o hx h => ?_) ?_ ?_⟩
  · rw [upd_ne hx, upd_ne (ne_of_none h hd), upd_ne hx]; exact h
  · rw [upd_same, lf_put]
  · rw [upd_ne (Ne.symm hne), upd_same]
    rfl
inductive Sp2 | w (lo : Int) (span : Nat) | m (lo : Int) (span : Nat)
def kW (lo : Int) (span : Nat) : PyData := .tuple [.str "whole", .int lo, .int (lo + span)]
def kd : Sp2 → PyData
  | .w lo span => kW lo span
  | .m lo span => .tuple [.str "many", kW lo span]
def AtS (H : Hp) (a : Addr) : Sp2 → Prop
  | .w lo span => H a = some (.tup [.str "whole", .int lo, .int (lo + span)])
  | .m lo span => ∃ b, H a = some (.tup [.str "many", .ref b]) ∧ H b = some (.tup [.str "whole", .int lo, .int (lo + span)])
theorem ko_kd (sh : Sp2) : KO (kd sh) := by
  cases sh
  · exact .tup (.cons (.str _) (.cons (.int _) (.cons (.int _) .nil)))
  · exact .tup (.cons (.str _) (.cons (.tup (.cons (.str _) (.cons (.int _) (.cons (.int _) .nil)))) .nil))
theorem dk_of_at {K : PySem.W.Frag} {H : Hp} {a : Addr} {sh : Sp2} (h : AtS H a sh) : DK K H a (kd sh) := by
  cases sh with
  | w lo span => exact ⟨.tup (SqT.of h) (.cons (.str _ (by decide +kernel)) (.cons (.int _) (.cons (.int _) .nil))), ko_kd _, by simp [kd, kW, PyData.depth, PyData.depthAll]⟩
  | m lo span =>
    obtain ⟨b, h1, h2⟩ := h
    exact ⟨.tup (SqT.of h1) (.cons (.str _ (by decide +kernel)) (.cons (.tup (SqT.of h2) (.cons (.str _ (by decide +kernel)) (.cons (.int _) (.cons (.int _) .nil)))) .nil)), ko_kd _, by simp [kd, kW, PyData.depth, PyData.depthAll]⟩
end KW
set_option maxHeartbeats 8000000
namespace KW
open PySem L2

variable {g : Gx}
variable {src : List (Option Nat)} {te : TE} {σ : St} {H : Hp} {Q : VK}
variable {m : Nat}
local macro_rules | `(tactic| walk_at "gn") => `(tactic| simp only [gName, List.set_cons_zero, List.set_cons_succ])

local macro_rules | `(tactic| walk_at "rd") => `(tactic| simp (config := { failIfUnchanged := false, maxSteps := 10000000 }) only [L2.start, cxOf_K, nox_K, List.map_cons, List.map_nil, List.length_cons, List.length_nil, List.cons_append, List.nil_append, List.replicate_succ, List.replicate_zero, Nat.zero_add, Nat.reduceAdd, Nat.reduceSub, Nat.sub_self, tSeq, tIfS, tTest, tOp, tC, tVar, rI0, rI, rU, tUn, tRet, tRetN, tDrop, tNext, tBreak, tCont, tAsg, gName, gNil, gCons, tCons, tNil, tCB, tCall, tTry, tTryAs, tRaise, sFld, tFld, tMake, tMeth, Ends.gone, caught_K, tB, tAnd, tOr, tNot, tAndV, tOrV, tNotV, tIf, tChain, tNoPart, tPart, tSl, tNever, tAug, rIxL, rIxT, rSlL, tLst, tTup, gTup, tRev, tLZ, tConT, tDict0, tDNewT, tDGet, sDPut, rNotInD, rInD, tEither, tSlStep, rBits, rFind, rIn, tBM, tBM0, rAppend, rReverse, rEq, rNe, scal_ii, scal_ss, rCat, rSetL, gSub, ipI, capSt, List.getD_cons_zero, List.getD_cons_succ, decide_true, not_true_eq_false, not_false_eq_true,
  exists_eq_left', exists_eq_left, exists_eq', exists_eq, exists_and_left, and_assoc, Option.some.injEq, V.int.injEq, V.bl.injEq, V.ref.injEq, V.str.injEq, List.getElem?_cons_zero, List.getElem?_cons_succ, List.set_cons_zero, List.set_cons_succ, List.cons.injEq, and_true, true_and, List.append_nil, decide_eq_true_eq, Bool.not_eq_true', decide_eq_false_iff_not, Bool.not_not, Bool.not_true, Bool.not_false, Bool.true_eq_false, Bool.false_eq_true, if_true, if_false, ite_true, ite_false])

theorem upd_none {H : Hp} {a b : Addr} {o : HO} (h : upd H a o b = none) : H b = none := by
  by_cases e : b = a
  · subst e; rw [upd_same] at h; cases h
  · rw [upd_ne e] at h; exact h
theorem made_same {H H' : Hp} {x dx : Addr} {o u : HO} (hx : H x = none) (hdx : H dx = none) (sb : SameBut x (upd (upd H dx o) x u) H') : Same H H' := fun y z h => by
  have n1 : y ≠ x := ne_of_none h hx
  have n2 : y ≠ dx := ne_of_none h hdx
  exact sb _ _ n1 (by rw [upd_ne n1, upd_ne n2]; exact h)
def sp_parts_of (K : PySem.W.Frag) : Sp := fun vs H Q _ => ∃ (a b : Addr), vs = [.ref a] ∧ H a = some (.tup [.str "many", .ref b]) ∧ ∀ D, H D = none → Q (.ref D) (upd H D (.lst [.ref b]))
theorem ok_parts_of {C_Found : Addr} {C_Lister : Addr} {C_ManyMaker : Addr} {C_WholeMaker : Addr} {c_deed_judge P_deed_judge : Addr} {c_law_thing P_law_thing : Addr} (R : g.Raw "parts_of" "parts_of" s_parts_of ["shape"]) (c_OF_ONE_PART : g.ConT "OF_ONE_PART" ([.str "many", .str "rising", .str "unlike"])) : g.Fn (1) "parts_of" ["shape"] (sp_parts_of g.K) := by
  refine R.fn sc_parts_of (fun vs H Q E h => by obtain ⟨a, b, rfl, ha, q⟩ := h; rfl) fun f_ cdv A outer s H vs Q E hr h => ?_
  obtain ⟨a, b, rfl, ha, q⟩ := h
  refine ⟨_, (@pss_cons _ _ _ _ _ (@ps_set _ _ (1) _ _ _ _ sc_parts_of.nd rfl (Or.inl rfl) (@pe_ix _ _ _ _ _ _ _ ix_tup (@pv _ 0 _ _ (by rfl) (by first | exact Or.inl rfl | exact Or.inr (Or.inl rfl) | exact Or.inr (Or.inr rfl)) (by decide) (by decide)) pe_int (fun _ _ => rfl)) (by rfl) (by first | exact .inl rfl | exact .inr rfl | assumption)) (@pss_cons _ _ _ _ _ (@ps_if _ _ _ _ _ _ _ _ (@pt_cmpR _ _ _ _ _ _ _ _ op_eq (@pv _ 1 _ _ (by rfl) (by first | exact Or.inl rfl | exact Or.inr (Or.inl rfl) | exact Or.inr (Or.inr rfl)) (by decide) (by decide)) pe_str (nomark _)) (@pss_one _ _ _ ps_never) pss_nil) (@pss_cons _ _ _ _ _ (@ps_if _ _ _ _ _ _ _ _ (@pt_cmpR _ _ _ _ _ _ _ _ op_eq (@pv _ 1 _ _ (by rfl) (by first | exact Or.inl rfl | exact Or.inr (Or.inl rfl) | exact Or.inr (Or.inr rfl)) (by decide) (by decide)) pe_str (nomark _)) (@pss_one _ _ _ ps_never) pss_nil) (@pss_cons _ _ _ _ _ (@ps_if _ _ _ _ _ _ _ _ (@pw_or _ _ _ _ _ _ _ (@pt_cmpR _ _ _ _ _ _ _ _ op_eq (@pv _ 1 _ _ (by rfl) (by first | exact Or.inl rfl | exact Or.inr (Or.inl rfl) | exact Or.inr (Or.inr rfl)) (by decide) (by decide)) pe_str (nomark _)) (@pw_or1 _ _ _ _ (@pt_cmpR _ _ _ _ _ _ _ _ op_in_seq (@pv _ 1 _ _ (by rfl) (by first | exact Or.inl rfl | exact Or.inr (Or.inl rfl) | exact Or.inr (Or.inr rfl)) (by decide) (by decide)) (@pe_gt _ _ _ _ _ c_OF_ONE_PART (by rfl) (by rfl) (by decide)) rfl))).pt (@pss_one _ _ _ (@ps_ret _ _ _ _ (@pe_lst _ _ _ _ (@pa_cons _ _ _ _ _ (@pe_ix _ _ _ _ _ _ _ ix_tup (@pv _ 0 _ _ (by rfl) (by first | exact Or.inl rfl | exact Or.inr (Or.inl rfl) | exact Or.inr (Or.inr rfl)) (by decide) (by decide)) pe_int (fun _ _ => rfl)) pa_nil (by rfl))))) pss_nil) (@pss_one _ _ _ ps_never))))), ?_⟩
  walk_at "rd"
  exact ⟨_, SqT.of ha, _, rfl, scal_ss _ _, iteN (by decide +kernel) ⟨scal_ss _ _, iteN (by decide +kernel) ⟨scal_ss _ _, iteN (by decide +kernel) fun c hc => ⟨_, .inr hc, rfl, rfl, iteY (by decide +kernel) ⟨_, SqT.of ha, _, rfl, few (by decide), q⟩⟩⟩⟩⟩
/-- a comprehension over a new list of one thing, that need not keep the heap -/
theorem tLC_one {K : PySem.W.Frag} {src : List (Option Nat)} {te tl : TE} {σ : St} {H : Hp} {Q : VK} {x : V} (ha : ∀ R : V → Hp → Prop, (∀ b H1, Same H H1 → H b = none → H1 b = some (.lst [x]) → R (.ref b) H1) → tl σ H R)
    (step : ∀ b H1 D, Same H H1 → H b = none → H1 b = some (.lst [x]) → H1 D = none → ∀ R : VK, (∀ y H2, H2 D = some (.lst []) → H2 b = some (.lst [x]) → Q (.ref D) (upd H2 D (.lst [y])) → R y H2) → te (some x :: capSt src σ) (upd H1 D (.lst [])) R) : tLC (none :: src) (iList K tl) (gName 0) tYes te σ H Q := by
  refine ha _ fun b H1 s1 hn hb => ⟨b, rfl, ⟨[x], SqL.of hb⟩, fun D hD => ?_⟩
  have h6 : 0 < sizeLine := by decide
  have nD : D ≠ b := Ne.symm (ne_of_none hb hD)
  refine lc_on (itseq_list (K := K) (a := b) (xs := [x])) (fun i ys σ' H' => ((∃ o, σ' = o :: capSt src σ) ∧ SqL K H' b [x] ∧ H' D = some (.lst ys)) ∧ ((i = 0 ∧ ys = [] ∧ H' = upd H1 D (.lst [])) ∨ (i = 1 ∧ Q (.ref D) H'))) ⟨⟨⟨none, rfl⟩, SqL.of (by rw [upd_ne (Ne.symm nD)]; exact hb), upd_same⟩, .inl ⟨rfl, rfl, rfl⟩⟩ (fun i ys σ' H' p => ⟨p.1.2.1, p.1.2.2⟩) (gName_mono 0) ?_ ?_
  · rintro i ys σ' H' z hz ⟨⟨⟨o, rfl⟩, _, _⟩, c⟩
    rcases c with ⟨rfl, rfl, rfl⟩ | ⟨rfl, _⟩
    · have : x = z := Option.some.inj hz
      subst this
      show te (some x :: capSt src σ) _ _
      refine step b H1 D s1 hn hb hD _ fun y H2 e1 e2 e3 => ⟨e1, h6, ⟨⟨_, rfl⟩, SqL.of (by rw [upd_ne (Ne.symm nD)]; exact e2), upd_same⟩, .inr ⟨rfl, e3⟩⟩
    · simp at hz
  · rintro ys σ' H' ⟨_, c⟩
    rcases c with ⟨h, _⟩ | ⟨_, h⟩
    · simp at h
    · exact h
/-- what a maker of a shape is, new in H -/
def MadeW (CW CM : Addr) (H H' : Hp) (p : Addr) (lo : Int) (span : Nat) : Prop := H p = none ∧ ∃ cl, H cl = none ∧ Maker CW CM H' p (.w lo span) cl 0
def MadeM (CW CM : Addr) (H H' : Hp) (p : Addr) (lo : Int) (span : Nat) : Prop := ∃ pw cm cw dm dw, H p = none ∧ H pw = none ∧ H cm = none ∧ H cw = none ∧ MM CW CM H' p pw cm cw dm dw lo span 0 0
def MadeS (CW CM : Addr) (H H' : Hp) (p : Addr) : Sp2 → Prop
  | .w lo span => MadeW CW CM H H' p lo span
  | .m lo span => MadeM CW CM H H' p lo span
/-- what the dict must not hold yet, and how deep the calls go -/
def Fresh (xs : Dx) (l : Nat) : Sp2 → Prop
  | .w lo span => lookD xs (kW lo span) = none ∧ 1 ≤ l
  | .m lo span => lookD xs (kW lo span) = none ∧ lookD xs (.tuple [.str "many", kW lo span]) = none ∧ 3 ≤ l
def sp_new (P : Program) (w : World) (K : PySem.W.Frag) (CL CW CM : Addr) (l : Nat) : Sp := fun vs H Q _ => ∃ (ls dx d a : Addr) (b : V) (sh : Sp2) (xs : Dx), vs = [.ref ls, .ref a] ∧ 1 ≤ l ∧ Fresh xs l sh ∧ H ls = some (.ins CL dx (lf b d)) ∧ DictD P w K H d xs ∧ xs.length ≤ 10 ∧ AtS H a sh ∧
  ∀ p H' xs', (∀ b o, b ≠ d → H b = some o → H' b = some o) → MadeS CW CM H H' p sh → DictD P w K H' d xs' → xs'.length ≤ xs.length + (match sh with | .w _ _ => 0 | .m _ _ => 1) → lookD xs' (kd sh) = none → (∀ e, (∀ lo span, e ≠ kW lo span) → lookD xs' e = lookD xs e) → Q (.ref p) H'
def sp_maker_of (P : Program) (w : World) (K : PySem.W.Frag) (CL CW CM : Addr) (l : Nat) : Sp := fun vs H Q _ => ∃ (ls dx d a : Addr) (b : V) (sh : Sp2) (xs : Dx), vs = [.ref ls, .ref a] ∧ 2 ≤ l ∧ Fresh xs (l - 1) sh ∧ H ls = some (.ins CL dx (lf b d)) ∧ DictD P w K H d xs ∧ xs.length ≤ 10 ∧ AtS H a sh ∧
  ∀ p H' xs', (∀ b o, b ≠ d → H b = some o → H' b = some o) → MadeS CW CM H H' p sh → DictD P w K H' d xs' → xs'.length ≤ xs.length + (match sh with | .w _ _ => 1 | .m _ _ => 3) → (∀ e, e ≠ kd sh → (∀ lo span, e ≠ kW lo span) → lookD xs' e = lookD xs e) → Q (.ref p) H'
theorem no_new {P : Program} {w : World} {K : PySem.W.Frag} {CL CW CM : Addr} {vs : List V} {H : Hp} {Q : VK} {E : XK} (h : sp_new P w K CL CW CM 0 vs H Q E) : False := by
  obtain ⟨ls, dx, d, a, b, sh, xs, _, h, _⟩ := h
  omega
theorem no_maker_of {P : Program} {w : World} {K : PySem.W.Frag} {CL CW CM : Addr} {vs : List V} {H : Hp} {Q : VK} {E : XK} (h : sp_maker_of P w K CL CW CM 0 vs H Q E) : False := by
  obtain ⟨ls, dx, d, a, b, sh, xs, _, h, _⟩ := h
  omega
end KW
set_option maxHeartbeats 8000000
namespace KW
open PySem L2

variable {g : Gx}
variable {src : List (Option Nat)} {te : TE} {σ : St} {H : Hp} {Q : VK}
variable {m : Nat}
local macro_rules | `(tactic| walk_at "gn") => `(tactic| simp only [gName, List.set_cons_zero, List.set_cons_succ])

local macro_rules | `(tactic| walk_at "rd") => `(tactic| simp (config := { failIfUnchanged := false, maxSteps := 10000000 }) only [L2.start, cxOf_K, nox_K, List.map_cons, List.map_nil, List.length_cons, List.length_nil, List.cons_append, List.nil_append, List.replicate_succ, List.replicate_zero, Nat.zero_add, Nat.reduceAdd, Nat.reduceSub, Nat.sub_self, tSeq, tIfS, tTest, tOp, tC, tVar, rI0, rI, rU, tUn, tRet, tRetN, tDrop, tNext, tBreak, tCont, tAsg, gName, gNil, gCons, tCons, tNil, tCB, tCall, tTry, tTryAs, tRaise, sFld, tFld, tMake, tMeth, Ends.gone, caught_K, tB, tAnd, tOr, tNot, tAndV, tOrV, tNotV, tIf, tChain, tNoPart, tPart, tSl, tNever, tAug, rIxL, rIxT, rSlL, tLst, tTup, gTup, tRev, tLZ, tConT, tDict0, tDNewT, tDGet, sDPut, rNotInD, rInD, tEither, tSlStep, rBits, rFind, rIn, tBM, tBM0, rAppend, rReverse, rEq, rNe, scal_ii, scal_ss, rCat, rSetL, gSub, ipI, capSt, List.getD_cons_zero, List.getD_cons_succ, decide_true, not_true_eq_false, not_false_eq_true,
  exists_eq_left', exists_eq_left, exists_eq', exists_eq, exists_and_left, and_assoc, Option.some.injEq, V.int.injEq, V.bl.injEq, V.ref.injEq, V.str.injEq, List.getElem?_cons_zero, List.getElem?_cons_succ, List.set_cons_zero, List.set_cons_succ, List.cons.injEq, and_true, true_and, List.append_nil, decide_eq_true_eq, Bool.not_eq_true', decide_eq_false_iff_not, Bool.not_not, Bool.not_true, Bool.not_false, Bool.true_eq_false, Bool.false_eq_true, if_true, if_false, ite_true, ite_false])

theorem many_ne (lo : Int) (span : Nat) (lo' : Int) (span' : Nat) : (.tuple [.str "many", kW lo span] : PyData) ≠ kW lo' span' := by
  intro z
  simp [kW] at z
theorem ok_Lister_new_maker {k : Nat} {C_Found : Addr} {C_Lister : Addr} {C_ManyMaker : Addr} {C_WholeMaker : Addr} {c_deed_judge P_deed_judge : Addr} {c_law_thing P_law_thing : Addr} (R : g.RawM C_Lister "new_maker" "Lister.new_maker" s_Lister_new_maker ["self", "shape"]) (F_parts_of : g.Fn k "parts_of" ["shape"] (sp_parts_of g.K)) (F_Lister_maker_of : g.Me k C_Lister "maker_of" ["self", "shape"] (sp_maker_of g.P g.w g.K C_Lister C_WholeMaker C_ManyMaker m)) {j_WholeMaker___init__ : Nat} (F_WholeMaker___init__ : g.Ma j_WholeMaker___init__ "WholeMaker" C_WholeMaker ["self", "low", "high"] (sp_Wm_init g.K C_WholeMaker C_ManyMaker)) (h_WholeMaker___init__ : j_WholeMaker___init__ + 1 ≤ k) {j_ManyMaker___init__ : Nat} (F_ManyMaker___init__ : g.Ma j_ManyMaker___init__ "ManyMaker" C_ManyMaker ["self", "part"] (sp_Mm_init g.K C_WholeMaker C_ManyMaker)) (h_ManyMaker___init__ : j_ManyMaker___init__ + 1 ≤ k) (cl_Lister : Cls g.K C_Lister) (n_Lister_book : NoAttr g.K C_Lister "book") (n_Lister_makers : NoAttr g.K C_Lister "makers") : g.Me (k + 1) C_Lister "new_maker" ["self", "shape"] (sp_new g.P g.w g.K C_Lister C_WholeMaker C_ManyMaker (m + 1)) := by
  refine R.me sc_Lister_new_maker (fun vs H Q E h => by obtain ⟨ls, dx, d, a, b, sh, xs, rfl, hl, hF, hls, hd, hxl, ha, q⟩ := h; rfl) fun f_ cdv A outer s H vs Q E hr h => ?_
  obtain ⟨ls, dx, d, a, b, sh, xs, rfl, hl, hF, hls, hd, hxl, ha, q⟩ := h
  refine ⟨_, (@pss_cons _ _ _ _ _ (@ps_set _ _ (2) _ _ _ _ sc_Lister_new_maker.nd rfl (Or.inl rfl) (@pe_ix _ _ _ _ _ _ _ ix_tup (@pv _ 1 _ _ (by rfl) (by first | exact Or.inl rfl | exact Or.inr (Or.inl rfl) | exact Or.inr (Or.inr rfl)) (by decide) (by decide)) pe_int (fun _ _ => rfl)) (by rfl) (by first | exact .inl rfl | exact .inr rfl | assumption)) (@pss_cons _ _ _ _ _ (@ps_if _ _ _ _ _ _ _ _ (@pt_cmpR _ _ _ _ _ _ _ _ op_eq (@pv _ 2 _ _ (by rfl) (by first | exact Or.inl rfl | exact Or.inr (Or.inl rfl) | exact Or.inr (Or.inr rfl)) (by decide) (by decide)) pe_str (nomark _)) (@pss_one _ _ _ (@ps_ret _ _ _ _ (@pe_ma _ _ _ _ _ _ _ _ _ _ _ _ _ F_WholeMaker___init__ hr (@pa_cons _ _ _ _ _ (@pe_ix _ _ _ _ _ _ _ ix_tup (@pv _ 1 _ _ (by rfl) (by first | exact Or.inl rfl | exact Or.inr (Or.inl rfl) | exact Or.inr (Or.inr rfl)) (by decide) (by decide)) pe_int (fun _ _ => rfl)) (@pa_cons _ _ _ _ _ (@pe_ix _ _ _ _ _ _ _ ix_tup (@pv _ 1 _ _ (by rfl) (by first | exact Or.inl rfl | exact Or.inr (Or.inl rfl) | exact Or.inr (Or.inr rfl)) (by decide) (by decide)) pe_int (fun _ _ => rfl)) pa_nil (by rfl)) (by rfl)) (by omega) (by rfl) (by rfl) (by decide) (by rfl) (by rfl)))) pss_nil) (@pss_cons _ _ _ _ _ (@ps_if _ _ _ _ _ _ _ _ (@pt_cmpR _ _ _ _ _ _ _ _ op_eq (@pv _ 2 _ _ (by rfl) (by first | exact Or.inl rfl | exact Or.inr (Or.inl rfl) | exact Or.inr (Or.inr rfl)) (by decide) (by decide)) pe_str (nomark _)) (@pss_one _ _ _ ps_never) pss_nil) (@pss_cons _ _ _ _ _ (@ps_setC _ (3) _ _ _ _ _ _ _ _ _ ([none, some 0]) ((["part", "self"] : List Str)) _ (gName 0) _ _ sc_Lister_new_maker.nd rfl (Or.inl rfl) (.own (.cap (i := 0) rfl rfl (by first | exact Or.inl rfl | exact Or.inr rfl) .nil)) rfl (@pi_list _ _ _ _ (@pe_fn _ _ _ _ _ _ _ _ _ _ _ _ F_parts_of hr (@pa_cons _ _ _ _ _ (@pv _ 1 _ _ (by rfl) (by first | exact Or.inl rfl | exact Or.inr (Or.inl rfl) | exact Or.inr (Or.inr rfl)) (by decide) (by decide)) pa_nil (by rfl)) (by omega) (by rfl) (by rfl) (by decide) (by rfl) (by rfl))) (fun cl C s₀ H₀ fp pn => (@pg_name _ _ (0) _ (show List.Nodup (["part", "self"] : List Str) by decide +kernel) rfl (Or.inl rfl) (Or.inr rfl))) (fun cl C s₀ H₀ fp pn => pts_nil) (fun cl C s₀ H₀ fp pn => (@pe_me _ _ _ _ _ _ _ _ _ _ _ _ _ _ _ _ F_Lister_maker_of cl_Lister hr (@pv _ 1 _ _ (by rfl) (by first | exact Or.inl rfl | exact Or.inr (Or.inl rfl) | exact Or.inr (Or.inr rfl)) (by decide) (by decide)) (@pa_cons _ _ _ _ _ (@pv _ 0 _ _ (by rfl) (by first | exact Or.inl rfl | exact Or.inr (Or.inl rfl) | exact Or.inr (Or.inr rfl)) (by decide) (by decide)) pa_nil (by rfl)) (by omega) (by rfl) (by rfl) (by rfl) (by rfl))) (by intro x hx; simp at hx; first | (subst hx; exact Or.inl rfl) | (rcases hx with rfl | rfl <;> exact Or.inl rfl) | (rcases hx with rfl | rfl | rfl <;> exact Or.inl rfl)) (by rfl) (by decide) (by decide +kernel) (by intro _; rfl) (by rfl) (by first | exact .inl rfl | exact .inr rfl | assumption)) (@pss_cons _ _ _ _ _ (@ps_if _ _ _ _ _ _ _ _ (@pt_cmpR _ _ _ _ _ _ _ _ op_eq (@pv _ 2 _ _ (by rfl) (by first | exact Or.inl rfl | exact Or.inr (Or.inl rfl) | exact Or.inr (Or.inr rfl)) (by decide) (by decide)) pe_str (nomark _)) (@pss_one _ _ _ ps_never) pss_nil) (@pss_cons _ _ _ _ _ (@ps_if _ _ _ _ _ _ _ _ (@pt_cmpR _ _ _ _ _ _ _ _ op_eq (@pv _ 2 _ _ (by rfl) (by first | exact Or.inl rfl | exact Or.inr (Or.inl rfl) | exact Or.inr (Or.inr rfl)) (by decide) (by decide)) pe_str (nomark _)) (@pss_one _ _ _ ps_never) pss_nil) (@pss_cons _ _ _ _ _ (@ps_if _ _ _ _ _ _ _ _ (@pt_cmpR _ _ _ _ _ _ _ _ op_eq (@pv _ 2 _ _ (by rfl) (by first | exact Or.inl rfl | exact Or.inr (Or.inl rfl) | exact Or.inr (Or.inr rfl)) (by decide) (by decide)) pe_str (nomark _)) (@pss_one _ _ _ (@ps_ret _ _ _ _ (@pe_ma _ _ _ _ _ _ _ _ _ _ _ _ _ F_ManyMaker___init__ hr (@pa_cons _ _ _ _ _ (@pe_ix _ _ _ _ _ _ _ ix_list (@pv _ 3 _ _ (by rfl) (by first | exact Or.inl rfl | exact Or.inr (Or.inl rfl) | exact Or.inr (Or.inr rfl)) (by decide) (by decide)) pe_int (fun _ _ => rfl)) pa_nil (by rfl)) (by omega) (by rfl) (by rfl) (by decide) (by rfl) (by rfl)))) pss_nil) (@pss_cons _ _ _ _ _ ps_never (@pss_one _ _ _ ps_never))))))))), ?_⟩
  walk_at "rd"
  cases sh with
  | w lo span =>
    have ha : H a = some (.tup [.str "whole", .int lo, .int (lo + span)]) := ha
    refine ⟨_, SqT.of ha, _, rfl, scal_ss _ _, iteY rfl ⟨_, SqT.of ha, _, rfl, _, SqT.of ha, _, rfl, fun x dx' hx hdx hne => ⟨x, dx', lo, span, rfl, upd_same, fun cl H' hcl sb hm => ⟨rfl, ?_⟩⟩⟩⟩
    have s := made_same hx hdx sb
    exact q x H' xs (fun b o _ e => s _ _ e) ⟨hx, cl, upd_none (upd_none hcl), hm⟩ (hd.keep (tupK_of s) (s _ _ hd.at_)) (Nat.le_refl _) hF.1 (fun _ _ => rfl)
  | m lo span =>
    obtain ⟨b', ha1, hb'⟩ := ha
    obtain ⟨f1, f2, f3⟩ := hF
    refine ⟨_, SqT.of ha1, _, rfl, scal_ss _ _, iteN (by decide +kernel) ⟨scal_ss _ _, iteN (by decide +kernel) ?_⟩⟩
    refine tLC_one (x := .ref b') (fun R r => by walk_at "rd"; exact ⟨a, b', rfl, ha1, fun D hD => r D _ (.upd_new hD _) hD upd_same⟩) ?_
    intro L H1 D s1 hn hL hD R r
    have sD := Same.upd_new hD (.lst [])
    have s1D := s1.trans sD
    have nDd : D ≠ d := Ne.symm (ne_of_none (s1 _ _ hd.at_) hD)
    walk_at "rd"
    refine ⟨_, _, s1D _ _ hls, lf_no _ _ (by decide +kernel) (by decide +kernel), ls, dx, d, b', b, .w lo span, xs, rfl, by omega, ⟨f1, by omega⟩, s1D _ _ hls, hd.keep (tupK_of s1D) (s1D _ _ hd.at_), hxl, s1D _ _ hb', fun pw H2 xs' fr mw hd2 hl2 hlk => ?_⟩
    have hl2 : xs'.length ≤ xs.length + 1 := hl2
    have hD2 := fr D _ nDd upd_same
    have nLd : L ≠ d := Ne.symm (ne_of_none hd.at_ hn)
    refine r _ _ hD2 (fr L _ nLd (sD _ _ hL)) ⟨scal_ss _ _, iteN (by decide +kernel) ⟨scal_ss _ _, iteN (by decide +kernel) ⟨scal_ss _ _, iteY rfl ⟨D, rfl, _, SqL.of upd_same, _, rfl, fun x dx' hx hdx hne => ⟨x, dx', pw, rfl, upd_same, fun cl H4 hcl sb hp4 hcl4 => ⟨rfl, ?_⟩⟩⟩⟩⟩⟩
    have s4 := made_same hx hdx sb
    have hgD : H D = none := s1.free hD
    have fr3 : ∀ z o, z ≠ d → H z = some o → upd H2 D (.lst [.ref pw]) z = some o := fun z o hz e => by rw [upd_ne (ne_of_none e hgD)]; exact fr z o hz (s1D _ _ e)
    have d3 : upd H2 D (.lst [.ref pw]) d = some (DDi g.P g.w d xs') := by rw [upd_ne (Ne.symm nDd)]; exact hd2.at_
    have free3 : ∀ z, upd H2 D (.lst [.ref pw]) z = none → H z = none := fun z hz => by
      cases h : H z with
      | none => rfl
      | some o =>
        exfalso
        by_cases c : z = d
        · subst c; rw [d3] at hz; cases hz
        · rw [fr3 z o c h] at hz; cases hz
    obtain ⟨gpw, cw, gcw, dw, m1, m2⟩ := mw
    have npD : pw ≠ D := ne_of m1 hD2 (by simp)
    have ncD : cw ≠ D := fun z => by rw [z, upd_same] at gcw; cases gcw
    have tk : TupK H2 (upd H2 D (.lst [.ref pw])) := tupK_but (fun b o hb e => by rw [upd_ne hb]; exact e) hD2 (by intro xs z; cases z) (by intro o v z; cases z)
    have hw3 : upd H2 D (.lst [.ref pw]) pw = _ := (upd_ne npD).trans m1
    have hv3 : upd H2 D (.lst [.ref pw]) cw = _ := (upd_ne ncD).trans m2
    have hcl3 := upd_none (upd_none hcl)
    refine q x H4 xs' (fun z o hz e => s4 _ _ (fr3 z o hz e)) ⟨pw, cl, cw, dx', dw, free3 x hx, s1.free (upd_none gpw), free3 cl hcl3, s1.free (upd_none gcw), ⟨hp4, hcl4, s4 _ _ hw3, s4 _ _ hv3, Ne.symm (ne_of_none hv3 hcl3)⟩⟩ (hd2.keep (tk.trans (tupK_of s4)) (s4 _ _ d3)) hl2 ?_ (fun e he => hlk e (he lo span) he)
    show lookD xs' (.tuple [.str "many", kW lo span]) = none
    rw [hlk _ (many_ne lo span lo span) (many_ne lo span)]
    exact f2
end KW
set_option maxHeartbeats 8000000
namespace KW
open PySem L2

variable {g : Gx}
variable {src : List (Option Nat)} {te : TE} {σ : St} {H : Hp} {Q : VK}
variable {m : Nat}
local macro_rules | `(tactic| walk_at "gn") => `(tactic| simp only [gName, List.set_cons_zero, List.set_cons_succ])

local macro_rules | `(tactic| walk_at "rd") => `(tactic| simp (config := { failIfUnchanged := false, maxSteps := 10000000 }) only [L2.start, cxOf_K, nox_K, List.map_cons, List.map_nil, List.length_cons, List.length_nil, List.cons_append, List.nil_append, List.replicate_succ, List.replicate_zero, Nat.zero_add, Nat.reduceAdd, Nat.reduceSub, Nat.sub_self, tSeq, tIfS, tTest, tOp, tC, tVar, rI0, rI, rU, tUn, tRet, tRetN, tDrop, tNext, tBreak, tCont, tAsg, gName, gNil, gCons, tCons, tNil, tCB, tCall, tTry, tTryAs, tRaise, sFld, tFld, tMake, tMeth, Ends.gone, caught_K, tB, tAnd, tOr, tNot, tAndV, tOrV, tNotV, tIf, tChain, tNoPart, tPart, tSl, tNever, tAug, rIxL, rIxT, rSlL, tLst, tTup, gTup, tRev, tLZ, tConT, tDict0, tDNewT, tDGet, sDPut, rNotInD, rInD, tEither, tSlStep, rBits, rFind, rIn, tBM, tBM0, rAppend, rReverse, rEq, rNe, scal_ii, scal_ss, rCat, rSetL, gSub, ipI, capSt, List.getD_cons_zero, List.getD_cons_succ, decide_true, not_true_eq_false, not_false_eq_true,
  exists_eq_left', exists_eq_left, exists_eq', exists_eq, exists_and_left, and_assoc, Option.some.injEq, V.int.injEq, V.bl.injEq, V.ref.injEq, V.str.injEq, List.getElem?_cons_zero, List.getElem?_cons_succ, List.set_cons_zero, List.set_cons_succ, List.cons.injEq, and_true, true_and, List.append_nil, decide_eq_true_eq, Bool.not_eq_true', decide_eq_false_iff_not, Bool.not_not, Bool.not_true, Bool.not_false, Bool.true_eq_false, Bool.false_eq_true, if_true, if_false, ite_true, ite_false])

theorem at_first {H : Hp} {a : Addr} {sh : Sp2} (h : AtS H a sh) : ∃ (mk : Str) (r : List V), H a = some (.tup (.str mk :: r)) ∧ ¬ (V.str mk = V.str "use") := by
  cases sh with
  | w lo span => exact ⟨_, _, h, by decide +kernel⟩
  | m lo span => obtain ⟨b, h1, _⟩ := h; exact ⟨_, _, h1, by decide +kernel⟩
theorem at_but {H H' : Hp} {a d : Addr} {sh : Sp2} {φ : Heap → Prop} (h : AtS H a sh) (hk : ∀ b o, b ≠ d → H b = some o → H' b = some o) (hd : H d = some (.ext φ)) : AtS H' a sh := by
  cases sh with
  | w lo span => exact hk _ _ (ne_of h hd (by intro z; cases z)) h
  | m lo span =>
    obtain ⟨b, h1, h2⟩ := h
    exact ⟨b, hk _ _ (ne_of h1 hd (by intro z; cases z)) h1, hk _ _ (ne_of h2 hd (by intro z; cases z)) h2⟩
theorem made_but {CW CM : Addr} {H H1 H2 : Hp} {p d : Addr} {sh : Sp2} {φ : Heap → Prop} (h : MadeS CW CM H H1 p sh) (hk : ∀ b o, b ≠ d → H1 b = some o → H2 b = some o) (hd : H1 d = some (.ext φ)) : MadeS CW CM H H2 p sh := by
  cases sh with
  | w lo span =>
    obtain ⟨g, cl, gc, dx, m1, m2⟩ := h
    exact ⟨g, cl, gc, dx, hk _ _ (ne_of m1 hd (by intro z; cases z)) m1, hk _ _ (ne_of m2 hd (by intro z; cases z)) m2⟩
  | m lo span =>
    obtain ⟨pw, cm, cw, dm, dw, g1, g2, g3, g4, M⟩ := h
    exact ⟨pw, cm, cw, dm, dw, g1, g2, g3, g4, ⟨hk _ _ (ne_of M.hm hd (by intro z; cases z)) M.hm, hk _ _ (ne_of M.hc hd (by intro z; cases z)) M.hc, hk _ _ (ne_of M.hw hd (by intro z; cases z)) M.hw, hk _ _ (ne_of M.hv hd (by intro z; cases z)) M.hv, M.ne⟩⟩
theorem ok_Lister_maker_of {k : Nat} {C_Found : Addr} {C_Lister : Addr} {C_ManyMaker : Addr} {C_WholeMaker : Addr} {c_deed_judge P_deed_judge : Addr} {c_law_thing P_law_thing : Addr} (R : g.RawM C_Lister "maker_of" "Lister.maker_of" s_Lister_maker_of ["self", "shape"]) (F_Lister_new_maker : g.Me k C_Lister "new_maker" ["self", "shape"] (sp_new g.P g.w g.K C_Lister C_WholeMaker C_ManyMaker m)) (cl_Lister : Cls g.K C_Lister) (n_Lister_book : NoAttr g.K C_Lister "book") (n_Lister_makers : NoAttr g.K C_Lister "makers") : g.Me (k + 1) C_Lister "maker_of" ["self", "shape"] (sp_maker_of g.P g.w g.K C_Lister C_WholeMaker C_ManyMaker (m + 1)) := by
  refine R.me sc_Lister_maker_of (fun vs H Q E h => by obtain ⟨ls, dx, d, a, b, sh, xs, rfl, hl, hF, hls, hd, hxl, ha, q⟩ := h; rfl) fun f_ cdv A outer s H vs Q E hr h => ?_
  obtain ⟨ls, dx, d, a, b, sh, xs, rfl, hl, hF, hls, hd, hxl, ha, q⟩ := h
  refine ⟨_, (@pss_cons _ _ _ _ _ (@ps_if _ _ _ _ _ _ _ _ (@pt_cmpR _ _ _ _ _ _ _ _ (op_notInDD hr) (@pv _ 1 _ _ (by rfl) (by first | exact Or.inl rfl | exact Or.inr (Or.inl rfl) | exact Or.inr (Or.inr rfl)) (by decide) (by decide)) (@pe_fld _ _ _ _ _ (@pv _ 0 _ _ (by rfl) (by first | exact Or.inl rfl | exact Or.inr (Or.inl rfl) | exact Or.inr (Or.inr rfl)) (by decide) (by decide)) rfl) rfl) (@pss_one _ _ _ (@ps_if _ _ _ _ _ _ _ _ (@pt_cmpR _ _ _ _ _ _ _ _ op_eq (@pe_ix _ _ _ _ _ _ _ ix_tup (@pv _ 1 _ _ (by rfl) (by first | exact Or.inl rfl | exact Or.inr (Or.inl rfl) | exact Or.inr (Or.inr rfl)) (by decide) (by decide)) pe_int (fun _ _ => rfl)) pe_str (nomark _)) (@pss_one _ _ _ ps_never) (@pss_one _ _ _ (@ps_dputD _ _ _ _ _ _ _ _ _ _ hr (@pe_fld _ _ _ _ _ (@pv _ 0 _ _ (by rfl) (by first | exact Or.inl rfl | exact Or.inr (Or.inl rfl) | exact Or.inr (Or.inr rfl)) (by decide) (by decide)) rfl) (@pv _ 1 _ _ (by rfl) (by first | exact Or.inl rfl | exact Or.inr (Or.inl rfl) | exact Or.inr (Or.inr rfl)) (by decide) (by decide)) (@pe_me _ _ _ _ _ _ _ _ _ _ _ _ _ _ _ _ F_Lister_new_maker cl_Lister hr (@pv _ 0 _ _ (by rfl) (by first | exact Or.inl rfl | exact Or.inr (Or.inl rfl) | exact Or.inr (Or.inr rfl)) (by decide) (by decide)) (@pa_cons _ _ _ _ _ (@pv _ 1 _ _ (by rfl) (by first | exact Or.inl rfl | exact Or.inr (Or.inl rfl) | exact Or.inr (Or.inr rfl)) (by decide) (by decide)) pa_nil (by rfl)) (by omega) (by rfl) (by rfl) (by rfl) (by rfl)) rfl)))) pss_nil) (@pss_one _ _ _ (@ps_ret _ _ _ _ (@pe_dgetD _ _ _ _ _ _ _ hr (@pe_fld _ _ _ _ _ (@pv _ 0 _ _ (by rfl) (by first | exact Or.inl rfl | exact Or.inr (Or.inl rfl) | exact Or.inr (Or.inr rfl)) (by decide) (by decide)) rfl) (@pv _ 1 _ _ (by rfl) (by first | exact Or.inl rfl | exact Or.inr (Or.inl rfl) | exact Or.inr (Or.inr rfl)) (by decide) (by decide)) (fun _ _ => rfl))))), ?_⟩
  walk_at "rd"
  obtain ⟨mk, rr, htup, hnu⟩ := at_first ha
  have hno : lookD xs (kd sh) = none := by
    cases sh with
    | w lo span => exact hF.1
    | m lo span => exact hF.2.1
  have nld : ls ≠ d := ne_of hls hd.at_ (by intro z; cases z)
  refine ⟨_, _, _, hls, cl_Lister, n_Lister_makers, _, lf_makers _ _, d, rfl, xs, hd, kd sh, dk_of_at ha, iteY (by rw [hno]; rfl) ⟨_, SqT.of htup, _, atI_nat (j := 0) rfl, scal_ss _ _, iteN hnu ?_⟩⟩
  unfold sDPutD
  walk_at "rd"
  refine ⟨_, _, hls, lf_no _ _ (by decide +kernel) (by decide +kernel), ls, dx, d, a, b, sh, xs, rfl, by omega, hF, hls, hd, hxl, ha, fun p H' xs' fr mk' hd' hl' hlk hoth => ?_⟩
  have ha' := at_but ha fr hd.at_
  have hls' := fr _ _ nld hls
  have hl3 : xs'.length ≤ xs.length + 1 := by
    cases sh with
    | w lo span => exact Nat.le_trans hl' (Nat.le_succ _)
    | m lo span => exact hl'
  have kk : ∀ z o, z ≠ d → H' z = some o → upd H' d (DDi g.P g.w d (xs' ++ [(kd sh, a, p)])) z = some o := fun z o hz e => by rw [upd_ne hz]; exact e
  have put := hd'.put (b := a) (p := p) (dk_of_at ha') hlk (by omega)
  refine ⟨_, _, _, hls', cl_Lister, n_Lister_makers, _, lf_makers _ _, d, a, xs', kd sh, p, rfl, rfl, rfl, hd', dk_of_at ha', hlk, by omega, ?_⟩
  unfold tDGetD
  walk_at "rd"
  refine ⟨_, _, _, (upd_ne nld).trans hls', cl_Lister, n_Lister_makers, _, lf_makers _ _, d, rfl, _, put, kd sh, dk_of_at (at_but ha' kk hd'.at_), p, by rw [lookD_snoc _ _ _ _ _ hlk, if_pos rfl], ?_⟩
  refine q p _ _ (fun z o hz e => by rw [upd_ne hz]; exact fr z o hz e) (made_but mk' kk hd'.at_) put ?_ (fun e he1 he2 => by rw [lookD_snoc _ _ _ _ _ hlk, if_neg he1]; exact hoth e he2)
  rw [List.length_append, List.length_singleton]
  cases sh with
  | w lo span => exact Nat.add_le_add_right hl' 1
  | m lo span => exact Nat.le_trans (Nat.add_le_add_right hl' 1) (Nat.add_le_add_left (by decide : 2 ≤ 3) _)
end KW
set_option maxHeartbeats 8000000
namespace KW
open PySem L2

variable {g : Gx}
variable {src : List (Option Nat)} {te : TE} {σ : St} {H : Hp} {Q : VK}
variable {m : Nat}
local macro_rules | `(tactic| walk_at "gn") => `(tactic| simp only [gName, List.set_cons_zero, List.set_cons_succ])

local macro_rules | `(tactic| walk_at "rd") => `(tactic| simp (config := { failIfUnchanged := false, maxSteps := 10000000 }) only [L2.start, cxOf_K, nox_K, List.map_cons, List.map_nil, List.length_cons, List.length_nil, List.cons_append, List.nil_append, List.replicate_succ, List.replicate_zero, Nat.zero_add, Nat.reduceAdd, Nat.reduceSub, Nat.sub_self, tSeq, tIfS, tTest, tOp, tC, tVar, rI0, rI, rU, tUn, tRet, tRetN, tDrop, tNext, tBreak, tCont, tAsg, gName, gNil, gCons, tCons, tNil, tCB, tCall, tTry, tTryAs, tRaise, sFld, tFld, tMake, tMeth, Ends.gone, caught_K, tB, tAnd, tOr, tNot, tAndV, tOrV, tNotV, tIf, tChain, tNoPart, tPart, tSl, tNever, tAug, rIxL, rIxT, rSlL, tLst, tTup, gTup, tRev, tLZ, tConT, tDict0, tDNewT, tDGet, sDPut, rNotInD, rInD, tEither, tSlStep, rBits, rFind, rIn, tBM, tBM0, rAppend, rReverse, rEq, rNe, scal_ii, scal_ss, rCat, rSetL, gSub, ipI, capSt, List.getD_cons_zero, List.getD_cons_succ, decide_true, not_true_eq_false, not_false_eq_true,
  exists_eq_left', exists_eq_left, exists_eq', exists_eq, exists_and_left, and_assoc, Option.some.injEq, V.int.injEq, V.bl.injEq, V.ref.injEq, V.str.injEq, List.getElem?_cons_zero, List.getElem?_cons_succ, List.set_cons_zero, List.set_cons_succ, List.cons.injEq, and_true, true_and, List.append_nil, decide_eq_true_eq, Bool.not_eq_true', decide_eq_false_iff_not, Bool.not_not, Bool.not_true, Bool.not_false, Bool.true_eq_false, Bool.false_eq_true, if_true, if_false, ite_true, ite_false])

def sp_maker_for (K : PySem.W.Frag) (CW CM : Addr) : Sp := fun vs H Q _ => ∃ (a : Addr) (b : V) (lo : Int) (span : Nat), vs = [b, .ref a] ∧ AtS H a (.m lo span) ∧ ∀ p H', Same H H' → MadeM CW CM H H' p lo span → Q (.ref p) H'
theorem ok_maker_for {k : Nat} {C_Found : Addr} {C_Lister : Addr} {C_ManyMaker : Addr} {C_WholeMaker : Addr} {c_deed_judge P_deed_judge : Addr} {c_law_thing P_law_thing : Addr} (R : g.Raw "maker_for" "maker_for" s_maker_for ["book", "shape"]) {j_Lister___init__ : Nat} (F_Lister___init__ : g.Ma j_Lister___init__ "Lister" C_Lister ["self", "book"] (sp_Li_init g.P g.w C_Lister)) (h_Lister___init__ : j_Lister___init__ + 1 ≤ k) (F_Lister_maker_of : g.Me k C_Lister "maker_of" ["self", "shape"] (sp_maker_of g.P g.w g.K C_Lister C_WholeMaker C_ManyMaker 4)) (cl_Lister : Cls g.K C_Lister) (n_Lister_book : NoAttr g.K C_Lister "book") (n_Lister_makers : NoAttr g.K C_Lister "makers") : g.Fn (k + 1) "maker_for" ["book", "shape"] (sp_maker_for g.K C_WholeMaker C_ManyMaker) := by
  refine R.fn sc_maker_for (fun vs H Q E h => by obtain ⟨a, b, lo, span, rfl, ha, q⟩ := h; rfl) fun f_ cdv A outer s H vs Q E hr h => ?_
  obtain ⟨a, b, lo, span, rfl, ha, q⟩ := h
  refine ⟨_, (@pss_one _ _ _ (@ps_ret _ _ _ _ (@pe_me _ _ _ _ _ _ _ _ _ _ _ _ _ _ _ _ F_Lister_maker_of cl_Lister hr (@pe_ma _ _ _ _ _ _ _ _ _ _ _ _ _ F_Lister___init__ hr (@pa_cons _ _ _ _ _ (@pv _ 0 _ _ (by rfl) (by first | exact Or.inl rfl | exact Or.inr (Or.inl rfl) | exact Or.inr (Or.inr rfl)) (by decide) (by decide)) pa_nil (by rfl)) (by omega) (by rfl) (by rfl) (by decide) (by rfl) (by rfl)) (@pa_cons _ _ _ _ _ (@pv _ 1 _ _ (by rfl) (by first | exact Or.inl rfl | exact Or.inr (Or.inl rfl) | exact Or.inr (Or.inr rfl)) (by decide) (by decide)) pa_nil (by rfl)) (by omega) (by rfl) (by rfl) (by rfl) (by rfl)))), ?_⟩
  walk_at "rd"
  intro x dx hx hdx hne
  refine ⟨x, dx, b, rfl, upd_same, fun d H1 hd sb h1 h2 => ?_⟩
  have s1 := made_same hx hdx sb
  have gd : H d = none := upd_none (upd_none hd)
  obtain ⟨b', ha1, ha2⟩ := ha
  refine ⟨rfl, _, _, h1, lf_no _ _ (by decide +kernel) (by decide +kernel), x, dx, d, a, b, .m lo span, [], rfl, by decide, ⟨rfl, rfl, by decide⟩, h1, dictD_new h2, by simp, ⟨b', s1 _ _ ha1, s1 _ _ ha2⟩, fun p H2 xs' fr mk _ _ _ => ?_⟩
  obtain ⟨pw, cm, cw, dm, dw, g1, g2, g3, g4, M⟩ := mk
  exact q p H2 (fun z o e => fr z o (ne_of_none e gd) (s1 _ _ e)) ⟨pw, cm, cw, dm, dw, s1.free g1, s1.free g2, s1.free g3, s1.free g4, M⟩
end KW
set_option maxHeartbeats 8000000
namespace KW
open PySem L2

variable {g : Gx}
variable {src : List (Option Nat)} {te : TE} {σ : St} {H : Hp} {Q : VK}
variable {m : Nat}
local macro_rules | `(tactic| walk_at "gn") => `(tactic| simp only [gName, List.set_cons_zero, List.set_cons_succ])

local macro_rules | `(tactic| walk_at "rd") => `(tactic| simp (config := { failIfUnchanged := false, maxSteps := 10000000 }) only [L2.start, cxOf_K, nox_K, List.map_cons, List.map_nil, List.length_cons, List.length_nil, List.cons_append, List.nil_append, List.replicate_succ, List.replicate_zero, Nat.zero_add, Nat.reduceAdd, Nat.reduceSub, Nat.sub_self, tSeq, tIfS, tTest, tOp, tC, tVar, rI0, rI, rU, tUn, tRet, tRetN, tDrop, tNext, tBreak, tCont, tAsg, gName, gNil, gCons, tCons, tNil, tCB, tCall, tTry, tTryAs, tRaise, sFld, tFld, tMake, tMeth, Ends.gone, caught_K, tB, tAnd, tOr, tNot, tAndV, tOrV, tNotV, tIf, tChain, tNoPart, tPart, tSl, tNever, tAug, rIxL, rIxT, rSlL, tLst, tTup, gTup, tRev, tLZ, tConT, tDict0, tDNewT, tDGet, sDPut, rNotInD, rInD, tEither, tSlStep, rBits, rFind, rIn, tBM, tBM0, rAppend, rReverse, rEq, rNe, scal_ii, scal_ss, rCat, rSetL, gSub, ipI, capSt, List.getD_cons_zero, List.getD_cons_succ, decide_true, not_true_eq_false, not_false_eq_true,
  exists_eq_left', exists_eq_left, exists_eq', exists_eq, exists_and_left, and_assoc, Option.some.injEq, V.int.injEq, V.bl.injEq, V.ref.injEq, V.str.injEq, List.getElem?_cons_zero, List.getElem?_cons_succ, List.set_cons_zero, List.set_cons_succ, List.cons.injEq, and_true, true_and, List.append_nil, decide_eq_true_eq, Bool.not_eq_true', decide_eq_false_iff_not, Bool.not_not, Bool.not_true, Bool.not_false, Bool.true_eq_false, Bool.false_eq_true, if_true, if_false, ite_true, ite_false])

/-- where a number falls among blocks: place, choice, rest -/
def fnd : List (Int × Int) → Int → Nat × Int × Int
  | [], n => (0, n, 0)
  | p :: ps, n => if p.1 * p.2 ≤ n then ((fnd ps (n - p.1 * p.2)).1 + 1, (fnd ps (n - p.1 * p.2)).2) else (0, n / p.2, n % p.2)
def ffs (pl : Nat) (c r : Int) : List (Str × V) := [("place", .int pl), ("choice", .int c), ("rest", .int r)]
def sp_Fo_init (C : Addr) : Sp := fun vs H Q _ => ∃ (p dx : Addr) (pl : Nat) (c r : Int), vs = [.ref p, .int pl, .int c, .int r] ∧ H p = some (.ins C dx []) ∧ ∀ H', SameBut p H H' → H' p = some (.ins C dx (ffs pl c r)) → Q .non H'
theorem npl1 : ¬ (("place" : Str) = "choice") := by decide +kernel
theorem npl2 : ¬ (("place" : Str) = "rest") := by decide +kernel
theorem npl3 : ¬ (("choice" : Str) = "rest") := by decide +kernel
theorem ffs_put (pl : Nat) (c r : Int) : putF "rest" (.int r) (putF "choice" (.int c) (putF "place" (.int pl) [])) = ffs pl c r := by
  simp only [putF, if_neg npl1, if_neg npl2, if_neg npl3]; rfl
theorem ok_Found___init__ {C_Found : Addr} {C_Lister : Addr} {C_ManyMaker : Addr} {C_WholeMaker : Addr} {c_deed_judge P_deed_judge : Addr} {c_law_thing P_law_thing : Addr} (R : g.RawI "Found" C_Found "Found.__init__" s_Found___init__ ["self", "place", "choice", "rest"]) (cl_Found : Cls g.K C_Found) (n_Found_place : NoAttr g.K C_Found "place") (n_Found_choice : NoAttr g.K C_Found "choice") (n_Found_rest : NoAttr g.K C_Found "rest") : g.Ma (1) "Found" C_Found ["self", "place", "choice", "rest"] (sp_Fo_init C_Found) := by
  refine R.ma sc_Found___init__ (fun vs H Q E h => by obtain ⟨p, dx, pl, c, r, rfl, hp, q⟩ := h; rfl) fun f_ cdv A outer s H vs Q E hr h => ?_
  obtain ⟨p, dx, pl, c, r, rfl, hp, q⟩ := h
  refine ⟨_, (@pss_cons _ _ _ _ _ (@ps_fld _ _ _ _ _ _ _ _ (@pv _ 0 _ _ (by rfl) (by first | exact Or.inl rfl | exact Or.inr (Or.inl rfl) | exact Or.inr (Or.inr rfl)) (by decide) (by decide)) (@pv _ 1 _ _ (by rfl) (by first | exact Or.inl rfl | exact Or.inr (Or.inl rfl) | exact Or.inr (Or.inr rfl)) (by decide) (by decide)) rfl) (@pss_cons _ _ _ _ _ (@ps_fld _ _ _ _ _ _ _ _ (@pv _ 0 _ _ (by rfl) (by first | exact Or.inl rfl | exact Or.inr (Or.inl rfl) | exact Or.inr (Or.inr rfl)) (by decide) (by decide)) (@pv _ 2 _ _ (by rfl) (by first | exact Or.inl rfl | exact Or.inr (Or.inl rfl) | exact Or.inr (Or.inr rfl)) (by decide) (by decide)) rfl) (@pss_one _ _ _ (@ps_fld _ _ _ _ _ _ _ _ (@pv _ 0 _ _ (by rfl) (by first | exact Or.inl rfl | exact Or.inr (Or.inl rfl) | exact Or.inr (Or.inr rfl)) (by decide) (by decide)) (@pv _ 3 _ _ (by rfl) (by first | exact Or.inl rfl | exact Or.inr (Or.inl rfl) | exact Or.inr (Or.inr rfl)) (by decide) (by decide)) rfl)))), ?_⟩
  walk_at "rd"
  refine ⟨_, dx, _, hp, cl_Found, n_Found_place, by decide, _, dx, _, upd_same, cl_Found, n_Found_choice, lt1000 (Nat.le_trans (length_putF _ _ _) (show 1 ≤ 3 by decide)), _, dx, _, upd_same, cl_Found, n_Found_rest, lt1000 (Nat.le_trans (length_putF _ _ _) (Nat.succ_le_succ (Nat.le_trans (length_putF _ _ _) (show 1 ≤ 2 by decide)))), ?_⟩
  refine q _ (fun x o hx h => by rw [upd_ne hx, upd_ne hx, upd_ne hx]; exact h) ?_
  rw [upd_same]
  exact congrArg some (congrArg (HO.ins _ _) (ffs_put pl c r))
end KW
set_option maxHeartbeats 8000000
namespace KW
open PySem L2

variable {g : Gx}
variable {src : List (Option Nat)} {te : TE} {σ : St} {H : Hp} {Q : VK}
variable {m : Nat}
local macro_rules | `(tactic| walk_at "gn") => `(tactic| simp only [gName, List.set_cons_zero, List.set_cons_succ])

local macro_rules | `(tactic| walk_at "rd") => `(tactic| simp (config := { failIfUnchanged := false, maxSteps := 10000000 }) only [L2.start, cxOf_K, nox_K, List.map_cons, List.map_nil, List.length_cons, List.length_nil, List.cons_append, List.nil_append, List.replicate_succ, List.replicate_zero, Nat.zero_add, Nat.reduceAdd, Nat.reduceSub, Nat.sub_self, tSeq, tIfS, tTest, tOp, tC, tVar, rI0, rI, rU, tUn, tRet, tRetN, tDrop, tNext, tBreak, tCont, tAsg, gName, gNil, gCons, tCons, tNil, tCB, tCall, tTry, tTryAs, tRaise, sFld, tFld, tMake, tMeth, Ends.gone, caught_K, tB, tAnd, tOr, tNot, tAndV, tOrV, tNotV, tIf, tChain, tNoPart, tPart, tSl, tNever, tAug, rIxL, rIxT, rSlL, tLst, tTup, gTup, tRev, tLZ, tConT, tDict0, tDNewT, tDGet, sDPut, rNotInD, rInD, tEither, tSlStep, rBits, rFind, rIn, tBM, tBM0, rAppend, rReverse, rEq, rNe, scal_ii, scal_ss, rCat, rSetL, gSub, ipI, capSt, List.getD_cons_zero, List.getD_cons_succ, decide_true, not_true_eq_false, not_false_eq_true,
  exists_eq_left', exists_eq_left, exists_eq', exists_eq, exists_and_left, and_assoc, Option.some.injEq, V.int.injEq, V.bl.injEq, V.ref.injEq, V.str.injEq, List.getElem?_cons_zero, List.getElem?_cons_succ, List.set_cons_zero, List.set_cons_succ, List.cons.injEq, and_true, true_and, List.append_nil, decide_eq_true_eq, Bool.not_eq_true', decide_eq_false_iff_not, Bool.not_not, Bool.not_true, Bool.not_false, Bool.true_eq_false, Bool.false_eq_true, if_true, if_false, ite_true, ite_false])

def tots (ps : List (Int × Int)) : Int := (ps.map fun p => p.1 * p.2).sum
theorem tots_cons (p : Int × Int) (ps : List (Int × Int)) : tots (p :: ps) = p.1 * p.2 + tots ps := by simp [tots]
theorem drop_at {α : Type} {ps : List α} {i : Nat} {p : α} (h : ps[i]? = some p) : ps.drop i = p :: ps.drop (i + 1) := by
  obtain ⟨hi, e⟩ := List.getElem?_eq_some_iff.mp h
  rw [List.drop_eq_getElem_cons hi, e]
def sp_found_in (K : PySem.W.Frag) (C : Addr) : Sp := fun vs H Q _ => ∃ (D : Addr) (ps : List (Int × Int)) (n : Int), vs = [.ref D, .int n] ∧ Blk H D ps ∧ ps.length ≤ 1000 ∧ (∀ p ∈ ps, big p.1 p.2) ∧ (∀ p ∈ ps, 0 ≤ p.1 ∧ 0 ≤ p.2) ∧ 0 ≤ n ∧ n < tots ps ∧
  ∀ f dx H', Same H H' → H f = none → H' f = some (.ins C dx (ffs (fnd ps n).1 (fnd ps n).2.1 (fnd ps n).2.2)) → Q (.ref f) H'
theorem ok_found_in {k : Nat} {C_Found : Addr} {C_Lister : Addr} {C_ManyMaker : Addr} {C_WholeMaker : Addr} {c_deed_judge P_deed_judge : Addr} {c_law_thing P_law_thing : Addr} (R : g.Raw "found_in" "found_in" s_found_in ["blocks", "number"]) {j_Found___init__ : Nat} (F_Found___init__ : g.Ma j_Found___init__ "Found" C_Found ["self", "place", "choice", "rest"] (sp_Fo_init C_Found)) (h_Found___init__ : j_Found___init__ + 1 ≤ k) : g.Fn (k + 1) "found_in" ["blocks", "number"] (sp_found_in g.K C_Found) := by
  refine R.fn sc_found_in (fun vs H Q E h => by obtain ⟨D, ps, n, rfl, ⟨xs, hD, hxl, hxp⟩, hl, hb, hp, h0, hn, q⟩ := h; rfl) fun f_ cdv A outer s H vs Q E hr h => ?_
  obtain ⟨D, ps, n, rfl, ⟨xs, hD, hxl, hxp⟩, hl, hb, hp, h0, hn, q⟩ := h
  refine ⟨_, (@pss_cons _ _ _ _ _ (@ps_set _ _ (2) _ _ _ _ sc_found_in.nd rfl (Or.inl rfl) pe_int (by rfl) (by first | exact .inl rfl | exact .inr rfl | assumption)) (@pss_cons _ _ _ _ _ (@ps_set _ _ (3) _ _ _ _ sc_found_in.nd rfl (Or.inl rfl) (@pv _ 1 _ _ (by rfl) (by first | exact Or.inl rfl | exact Or.inr (Or.inl rfl) | exact Or.inr (Or.inr rfl)) (by decide) (by decide)) (by rfl) (by first | exact .inl rfl | exact .inr rfl | assumption)) (@pss_cons _ _ _ _ _ (@ps_while _ _ _ _ _ _ PassesOwn.never (@pt_cmpR _ _ _ _ _ _ _ _ op_ge (@pv _ 3 _ _ (by rfl) (by first | exact Or.inl rfl | exact Or.inr (Or.inl rfl) | exact Or.inr (Or.inr rfl)) (by decide) (by decide)) (@pe_op _ _ _ _ _ _ _ _ op_mulC (@pe_ix _ _ _ _ _ _ _ ix_tup (@pe_ix _ _ _ _ _ _ _ ix_list (@pv _ 0 _ _ (by rfl) (by first | exact Or.inl rfl | exact Or.inr (Or.inl rfl) | exact Or.inr (Or.inr rfl)) (by decide) (by decide)) (@pv _ 2 _ _ (by rfl) (by first | exact Or.inl rfl | exact Or.inr (Or.inl rfl) | exact Or.inr (Or.inr rfl)) (by decide) (by decide)) (fun _ _ => rfl)) pe_int (fun _ _ => rfl)) (@pe_ix _ _ _ _ _ _ _ ix_tup (@pe_ix _ _ _ _ _ _ _ ix_list (@pv _ 0 _ _ (by rfl) (by first | exact Or.inl rfl | exact Or.inr (Or.inl rfl) | exact Or.inr (Or.inr rfl)) (by decide) (by decide)) (@pv _ 2 _ _ (by rfl) (by first | exact Or.inl rfl | exact Or.inr (Or.inl rfl) | exact Or.inr (Or.inr rfl)) (by decide) (by decide)) (fun _ _ => rfl)) pe_int (fun _ _ => rfl))) (nomark _)) (@pss_cons _ _ _ _ _ (@ps_aug _ _ (3) _ _ _ _ _ _ sc_found_in.nd rfl (Or.inl rfl) (@pe_op _ _ _ _ _ _ _ _ op_mulC (@pe_ix _ _ _ _ _ _ _ ix_tup (@pe_ix _ _ _ _ _ _ _ ix_list (@pv _ 0 _ _ (by rfl) (by first | exact Or.inl rfl | exact Or.inr (Or.inl rfl) | exact Or.inr (Or.inr rfl)) (by decide) (by decide)) (@pv _ 2 _ _ (by rfl) (by first | exact Or.inl rfl | exact Or.inr (Or.inl rfl) | exact Or.inr (Or.inr rfl)) (by decide) (by decide)) (fun _ _ => rfl)) pe_int (fun _ _ => rfl)) (@pe_ix _ _ _ _ _ _ _ ix_tup (@pe_ix _ _ _ _ _ _ _ ix_list (@pv _ 0 _ _ (by rfl) (by first | exact Or.inl rfl | exact Or.inr (Or.inl rfl) | exact Or.inr (Or.inr rfl)) (by decide) (by decide)) (@pv _ 2 _ _ (by rfl) (by first | exact Or.inl rfl | exact Or.inr (Or.inl rfl) | exact Or.inr (Or.inr rfl)) (by decide) (by decide)) (fun _ _ => rfl)) pe_int (fun _ _ => rfl))) ip_sub (by first | exact .inl rfl | exact .inr rfl | assumption)) (@pss_one _ _ _ (@ps_aug _ _ (2) _ _ _ _ _ _ sc_found_in.nd rfl (Or.inl rfl) pe_int ip_add (by first | exact .inl rfl | exact .inr rfl | assumption))))) (@pss_cons _ _ _ _ _ (@ps_set _ _ (4) _ _ _ _ sc_found_in.nd rfl (Or.inl rfl) (@pe_ix _ _ _ _ _ _ _ ix_tup (@pe_ix _ _ _ _ _ _ _ ix_list (@pv _ 0 _ _ (by rfl) (by first | exact Or.inl rfl | exact Or.inr (Or.inl rfl) | exact Or.inr (Or.inr rfl)) (by decide) (by decide)) (@pv _ 2 _ _ (by rfl) (by first | exact Or.inl rfl | exact Or.inr (Or.inl rfl) | exact Or.inr (Or.inr rfl)) (by decide) (by decide)) (fun _ _ => rfl)) pe_int (fun _ _ => rfl)) (by rfl) (by first | exact .inl rfl | exact .inr rfl | assumption)) (@pss_one _ _ _ (@ps_ret _ _ _ _ (@pe_ma _ _ _ _ _ _ _ _ _ _ _ _ _ F_Found___init__ hr (@pa_cons _ _ _ _ _ (@pv _ 2 _ _ (by rfl) (by first | exact Or.inl rfl | exact Or.inr (Or.inl rfl) | exact Or.inr (Or.inr rfl)) (by decide) (by decide)) (@pa_cons _ _ _ _ _ (@pe_op _ _ _ _ _ _ _ _ op_fdivL (@pv _ 3 _ _ (by rfl) (by first | exact Or.inl rfl | exact Or.inr (Or.inl rfl) | exact Or.inr (Or.inr rfl)) (by decide) (by decide)) (@pv _ 4 _ _ (by rfl) (by first | exact Or.inl rfl | exact Or.inr (Or.inl rfl) | exact Or.inr (Or.inr rfl)) (by decide) (by decide))) (@pa_cons _ _ _ _ _ (@pe_op _ _ _ _ _ _ _ _ op_mod (@pv _ 3 _ _ (by rfl) (by first | exact Or.inl rfl | exact Or.inr (Or.inl rfl) | exact Or.inr (Or.inr rfl)) (by decide) (by decide)) (@pv _ 4 _ _ (by rfl) (by first | exact Or.inl rfl | exact Or.inr (Or.inl rfl) | exact Or.inr (Or.inr rfl)) (by decide) (by decide))) pa_nil (by rfl)) (by rfl)) (by rfl)) (by omega) (by rfl) (by rfl) (by decide) (by rfl) (by rfl)))))))), ?_⟩
  walk_at "rd"
  refine while_of (α := Nat × Int) (fun x σ H' => σ = [some (.ref D), some (.int n), some (.int (x.1 : Nat)), some (.int x.2), none] ∧ H = H' ∧ 0 ≤ x.2 ∧ x.2 < tots (ps.drop x.1) ∧ fnd ps n = (x.1 + (fnd (ps.drop x.1) x.2).1, (fnd (ps.drop x.1) x.2).2) ∧ x.1 ≤ ps.length) (fun x => decide ((ps.getD x.1 (0, 0)).1 * (ps.getD x.1 (0, 0)).2 ≤ x.2)) (fun x => ps.length - x.1) (0, n) ⟨rfl, rfl, h0, hn, by simp, Nat.zero_le _⟩ ?_ ?_ ?_
  · rintro ⟨i, l⟩ σ H' ⟨rfl, rfl, g0, g1, g2, g3⟩ R r
    dsimp only at g0 g1 g2 g3
    have hi : i < ps.length := by
      rcases Nat.lt_or_ge i ps.length with c | c
      · exact c
      · rw [List.drop_eq_nil_of_le c] at g1; simp [tots] at g1; omega
    have hpi : ps[i]? = some ps[i] := List.getElem?_eq_getElem hi
    have hxi : xs[i]? = some (xs[i]'(by omega)) := List.getElem?_eq_getElem _
    obtain ⟨T, eT, hT⟩ := hxp i _ _ hxi hpi
    obtain ⟨N, b0, b1, b2⟩ := (hb _ (List.mem_of_getElem? hpi)).ex
    have rr := r H ⟨rfl, rfl, g0, g1, g2, g3⟩
    have eg : ps.getD i (0, 0) = ps[i] := by rw [List.getD_eq_getElem?_getD, hpi]; rfl
    dsimp only at rr
    rw [eg] at rr
    walk_at "rd"
    exact ⟨_, SqL.of hD, _, atI_nat hxi, T, eT, _, SqT.of hT, _, rfl, _, SqL.of hD, _, atI_nat hxi, T, eT, _, SqT.of hT, _, rfl, _, rfl, _, rfl, .inl (cm b1 b2 (by omega)), rr⟩
  · rintro ⟨i, l⟩ σ H' ⟨rfl, rfl, g0, g1, g2, g3⟩ hcond
    dsimp only at g0 g1 g2 g3
    have hi : i < ps.length := by
      rcases Nat.lt_or_ge i ps.length with c | c
      · exact c
      · rw [List.drop_eq_nil_of_le c] at g1; simp [tots] at g1; omega
    have hpi : ps[i]? = some ps[i] := List.getElem?_eq_getElem hi
    have hxi : xs[i]? = some (xs[i]'(by omega)) := List.getElem?_eq_getElem _
    obtain ⟨T, eT, hT⟩ := hxp i _ _ hxi hpi
    obtain ⟨N, b0, b1, b2⟩ := (hb _ (List.mem_of_getElem? hpi)).ex
    have eg : ps.getD i (0, 0) = ps[i] := by rw [List.getD_eq_getElem?_getD, hpi]; rfl
    have edr := drop_at hpi
    dsimp only at hcond
    rw [eg, decide_eq_true_iff] at hcond
    rw [edr, tots_cons] at g1
    rw [edr, fnd, if_pos hcond] at g2
    walk_at "rd"
    refine ⟨_, SqL.of hD, _, atI_nat hxi, T, eT, _, SqT.of hT, _, rfl, _, SqL.of hD, _, atI_nat hxi, T, eT, _, SqT.of hT, _, rfl, _, rfl, _, rfl, .inl (cm b1 b2 (by omega)), (i + 1, l - ps[i].1 * ps[i].2), by simp, rfl, by dsimp only; omega, by dsimp only; omega, ?_, hi, by dsimp only; omega⟩
    rw [g2]
    dsimp only
    rw [show i + ((fnd (ps.drop (i + 1)) (l - ps[i].1 * ps[i].2)).1 + 1) = i + 1 + (fnd (ps.drop (i + 1)) (l - ps[i].1 * ps[i].2)).1 by omega]
  · rintro ⟨i, l⟩ σ H' ⟨rfl, rfl, g0, g1, g2, g3⟩ hcond
    dsimp only at g0 g1 g2 g3
    have hi : i < ps.length := by
      rcases Nat.lt_or_ge i ps.length with c | c
      · exact c
      · rw [List.drop_eq_nil_of_le c] at g1; simp [tots] at g1; omega
    have hpi : ps[i]? = some ps[i] := List.getElem?_eq_getElem hi
    have hxi : xs[i]? = some (xs[i]'(by omega)) := List.getElem?_eq_getElem _
    obtain ⟨T, eT, hT⟩ := hxp i _ _ hxi hpi
    obtain ⟨N, b0, b1, b2⟩ := (hb _ (List.mem_of_getElem? hpi)).ex
    have eg : ps.getD i (0, 0) = ps[i] := by rw [List.getD_eq_getElem?_getD, hpi]; rfl
    have edr := drop_at hpi
    dsimp only at hcond
    rw [eg, decide_eq_false_iff_not] at hcond
    rw [edr, fnd, if_neg hcond] at g2
    have hp2 : 0 < ps[i].2 := by
      rcases Int.lt_or_eq_of_le (hp _ (List.mem_of_getElem? hpi)).2 with c | c
      · exact c
      · rw [← c, Int.mul_zero] at hcond; omega
    walk_at "rd"
    refine ⟨_, SqL.of hD, _, atI_nat hxi, T, eT, _, SqT.of hT, _, rfl, _, rfl, ⟨hp2, Nat.lt_of_lt_of_le b2 (Nat.pow_le_pow_right (by decide) (Nat.le_trans b0 (by decide)))⟩, _, rfl, hp2, fun f dx hf hdx hne => ⟨f, dx, i, _, _, rfl, upd_same, fun H' sb h => ⟨rfl, q f dx H' (made_same hf hdx sb) hf ?_⟩⟩⟩
    rw [g2]
    exact h
end KW
set_option maxHeartbeats 8000000
namespace KW
open PySem L2

variable {g : Gx}
variable {src : List (Option Nat)} {te : TE} {σ : St} {H : Hp} {Q : VK}
variable {m : Nat}
local macro_rules | `(tactic| walk_at "gn") => `(tactic| simp only [gName, List.set_cons_zero, List.set_cons_succ])

local macro_rules | `(tactic| walk_at "rd") => `(tactic| simp (config := { failIfUnchanged := false, maxSteps := 10000000 }) only [L2.start, cxOf_K, nox_K, List.map_cons, List.map_nil, List.length_cons, List.length_nil, List.cons_append, List.nil_append, List.replicate_succ, List.replicate_zero, Nat.zero_add, Nat.reduceAdd, Nat.reduceSub, Nat.sub_self, tSeq, tIfS, tTest, tOp, tC, tVar, rI0, rI, rU, tUn, tRet, tRetN, tDrop, tNext, tBreak, tCont, tAsg, gName, gNil, gCons, tCons, tNil, tCB, tCall, tTry, tTryAs, tRaise, sFld, tFld, tMake, tMeth, Ends.gone, caught_K, tB, tAnd, tOr, tNot, tAndV, tOrV, tNotV, tIf, tChain, tNoPart, tPart, tSl, tNever, tAug, rIxL, rIxT, rSlL, tLst, tTup, gTup, tRev, tLZ, tConT, tDict0, tDNewT, tDGet, sDPut, rNotInD, rInD, tEither, tSlStep, rBits, rFind, rIn, tBM, tBM0, rAppend, rReverse, rEq, rNe, scal_ii, scal_ss, rCat, rSetL, gSub, ipI, capSt, List.getD_cons_zero, List.getD_cons_succ, decide_true, not_true_eq_false, not_false_eq_true,
  exists_eq_left', exists_eq_left, exists_eq', exists_eq, exists_and_left, and_assoc, Option.some.injEq, V.int.injEq, V.bl.injEq, V.ref.injEq, V.str.injEq, List.getElem?_cons_zero, List.getElem?_cons_succ, List.set_cons_zero, List.set_cons_succ, List.cons.injEq, and_true, true_and, List.append_nil, decide_eq_true_eq, Bool.not_eq_true', decide_eq_false_iff_not, Bool.not_not, Bool.not_true, Bool.not_false, Bool.true_eq_false, Bool.false_eq_true, if_true, if_false, ite_true, ite_false])

theorem fnd_in : ∀ (ps : List (Int × Int)) (n : Int), 0 ≤ n → n < tots ps → (∀ p ∈ ps, 0 ≤ p.1 ∧ 0 ≤ p.2) → ∃ p, ps[(fnd ps n).1]? = some p ∧ 0 ≤ (fnd ps n).2.2 ∧ (fnd ps n).2.2 < p.2
  | [], n, h0, h1, _ => by simp [tots] at h1; omega
  | p :: ps, n, h0, h1, hp => by
    rw [tots_cons] at h1
    by_cases c : p.1 * p.2 ≤ n
    · obtain ⟨q, g1, g2, g3⟩ := fnd_in ps (n - p.1 * p.2) (by omega) (by omega) fun q hq => hp q (.tail _ hq)
      rw [fnd, if_pos c]
      exact ⟨q, by simpa using g1, g2, g3⟩
    · rw [fnd, if_neg c]
      have h2 : 0 < p.2 := by
        rcases Int.lt_or_eq_of_le (hp p (.head _)).2 with z | z
        · exact z
        · rw [← z, Int.mul_zero] at c; omega
      exact ⟨p, rfl, Int.emod_nonneg _ (by omega), Int.emod_lt_of_pos _ h2⟩
/-- the list of a size and number -/
def mv (lo : Int) (span : Nat) : Nat → Int → List V
  | 0, _ => []
  | l + 1, r => .int (lo + 1 * 2 ^ (fnd (blk span (l + 1)) r).1 / 2 ^ 1 + (fnd (blk span (l + 1)) r).2.1) :: mv lo span (l - (fnd (blk span (l + 1)) r).1) (fnd (blk span (l + 1)) r).2.2
termination_by l => l
decreasing_by omega
theorem mv_len (lo : Int) (span : Nat) : ∀ (l : Nat) (r : Int), (mv lo span l r).length ≤ l
  | 0, r => by rw [mv]; exact Nat.zero_le _
  | l + 1, r => by
    rw [mv, List.length_cons]
    have := mv_len lo span (l - (fnd (blk span (l + 1)) r).1) (fnd (blk span (l + 1)) r).2.2
    omega
termination_by l => l
decreasing_by omega
theorem wc_nonneg (span : Int) (k : Nat) : 0 ≤ wc span k := by
  unfold wc
  split
  · split <;> omega
  · split <;> omega
theorem sum_nonneg : ∀ l : List Int, (∀ x ∈ l, 0 ≤ x) → 0 ≤ l.sum
  | [], _ => by simp
  | a :: l, h => by
    rw [List.sum_cons]
    have h1 := h a (.head _)
    have h2 := sum_nonneg l fun x hx => h x (.tail _ hx)
    omega
theorem mc_nonneg (span : Nat) : ∀ k, 0 ≤ mc span k
  | 0 => by rw [mc_zero]; decide
  | k + 1 => by
    rw [mc_succ]
    refine sum_nonneg _ fun x hx => ?_
    obtain ⟨j, hj, rfl⟩ := List.mem_map.mp hx
    exact Int.mul_nonneg (wc_nonneg _ _) (mc_nonneg span (k - j))
termination_by k => k
decreasing_by omega
theorem tots_blk (span k : Nat) : tots (blk span (k + 1)) = mc span (k + 1) := blk_sum span k
/-- a fall among the blocks of a size: its place, and its rest below the count of what is left -/
theorem blk_fnd {span l : Nat} {r : Int} (h0 : 0 ≤ r) (h1 : r < mc span (l + 1)) : (fnd (blk span (l + 1)) r).1 ≤ l ∧ 0 ≤ (fnd (blk span (l + 1)) r).2.2 ∧ (fnd (blk span (l + 1)) r).2.2 < mc span (l - (fnd (blk span (l + 1)) r).1) := by
  obtain ⟨p, g1, g2, g3⟩ := fnd_in (blk span (l + 1)) r h0 (by rw [tots_blk]; exact h1) fun p hp => by
    rw [blk] at hp
    obtain ⟨j, _, rfl⟩ := List.mem_map.mp hp
    exact ⟨wc_nonneg _ _, mc_nonneg _ _⟩
  have key : ∀ i, (blk span (l + 1))[i]? = some p → i < l + 1 ∧ p = (wc span i, mc span (l + 1 - 1 - i)) := fun i h => by
    have hi := (List.getElem?_eq_some_iff.mp h).1
    rw [blk, List.length_map, List.length_range] at hi
    rw [blk, List.getElem?_map, List.getElem?_range hi] at h
    exact ⟨hi, (Option.some.inj h).symm⟩
  obtain ⟨k1, k2⟩ := key _ g1
  subst k2
  exact ⟨by omega, g2, g3⟩
end KW
set_option maxHeartbeats 8000000
namespace KW
open PySem L2

variable {g : Gx}
variable {src : List (Option Nat)} {te : TE} {σ : St} {H : Hp} {Q : VK}
variable {m : Nat}
local macro_rules | `(tactic| walk_at "gn") => `(tactic| simp only [gName, List.set_cons_zero, List.set_cons_succ])

local macro_rules | `(tactic| walk_at "rd") => `(tactic| simp (config := { failIfUnchanged := false, maxSteps := 10000000 }) only [L2.start, cxOf_K, nox_K, List.map_cons, List.map_nil, List.length_cons, List.length_nil, List.cons_append, List.nil_append, List.replicate_succ, List.replicate_zero, Nat.zero_add, Nat.reduceAdd, Nat.reduceSub, Nat.sub_self, tSeq, tIfS, tTest, tOp, tC, tVar, rI0, rI, rU, tUn, tRet, tRetN, tDrop, tNext, tBreak, tCont, tAsg, gName, gNil, gCons, tCons, tNil, tCB, tCall, tTry, tTryAs, tRaise, sFld, tFld, tMake, tMeth, Ends.gone, caught_K, tB, tAnd, tOr, tNot, tAndV, tOrV, tNotV, tIf, tChain, tNoPart, tPart, tSl, tNever, tAug, rIxL, rIxT, rSlL, tLst, tTup, gTup, tRev, tLZ, tConT, tDict0, tDNewT, tDGet, sDPut, rNotInD, rInD, tEither, tSlStep, rBits, rFind, rIn, tBM, tBM0, rAppend, rReverse, rEq, rNe, scal_ii, scal_ss, rCat, rSetL, gSub, ipI, capSt, List.getD_cons_zero, List.getD_cons_succ, decide_true, not_true_eq_false, not_false_eq_true,
  exists_eq_left', exists_eq_left, exists_eq', exists_eq, exists_and_left, and_assoc, Option.some.injEq, V.int.injEq, V.bl.injEq, V.ref.injEq, V.str.injEq, List.getElem?_cons_zero, List.getElem?_cons_succ, List.set_cons_zero, List.set_cons_succ, List.cons.injEq, and_true, true_and, List.append_nil, decide_eq_true_eq, Bool.not_eq_true', decide_eq_false_iff_not, Bool.not_not, Bool.not_true, Bool.not_false, Bool.true_eq_false, Bool.false_eq_true, if_true, if_false, ite_true, ite_false])

def sp_Wm_value (K : PySem.W.Frag) (CW CT : Addr) : Sp := fun vs H Q _ => ∃ (p dx cl : Addr) (lo j : Int) (span n : Nat), vs = [.ref p, .int n, .int j] ∧ n ≤ 100 ∧ H p = some (.ins CW dx (mf cl (.w lo span))) ∧ Q (.int (lo + 1 * 2 ^ n / 2 ^ 1 + j)) H
theorem ok_WholeMaker_value_at {k : Nat} {C_Found : Addr} {C_Lister : Addr} {C_ManyMaker : Addr} {C_WholeMaker : Addr} {c_deed_judge P_deed_judge : Addr} {c_law_thing P_law_thing : Addr} (R : g.RawM C_WholeMaker "value_at" "WholeMaker.value_at" s_WholeMaker_value_at ["self", "size", "number"]) (F_least_distance : g.Fn k "least_distance" ["size"] (sp_ld)) (cl_WholeMaker : Cls g.K C_WholeMaker) (n_WholeMaker_counts : NoAttr g.K C_WholeMaker "counts") (n_WholeMaker_low : NoAttr g.K C_WholeMaker "low") (n_WholeMaker_span : NoAttr g.K C_WholeMaker "span") : g.Me (k + 1) C_WholeMaker "value_at" ["self", "size", "number"] (sp_Wm_value g.K C_WholeMaker C_ManyMaker) := by
  refine R.me sc_WholeMaker_value_at (fun vs H Q E h => by obtain ⟨p, dx, cl, lo, j, span, n, rfl, hn, hp, q⟩ := h; rfl) fun f_ cdv A outer s H vs Q E hr h => ?_
  obtain ⟨p, dx, cl, lo, j, span, n, rfl, hn, hp, q⟩ := h
  refine ⟨_, (@pss_one _ _ _ (@ps_ret _ _ _ _ (@pe_op _ _ _ _ _ _ _ _ op_add (@pe_op _ _ _ _ _ _ _ _ op_add (@pe_fld _ _ _ _ _ (@pv _ 0 _ _ (by rfl) (by first | exact Or.inl rfl | exact Or.inr (Or.inl rfl) | exact Or.inr (Or.inr rfl)) (by decide) (by decide)) rfl) (@pe_fn _ _ _ _ _ _ _ _ _ _ _ _ F_least_distance hr (@pa_cons _ _ _ _ _ (@pv _ 1 _ _ (by rfl) (by first | exact Or.inl rfl | exact Or.inr (Or.inl rfl) | exact Or.inr (Or.inr rfl)) (by decide) (by decide)) pa_nil (by rfl)) (by omega) (by rfl) (by rfl) (by decide) (by rfl) (by rfl))) (@pv _ 2 _ _ (by rfl) (by first | exact Or.inl rfl | exact Or.inr (Or.inl rfl) | exact Or.inr (Or.inr rfl)) (by decide) (by decide))))), ?_⟩
  walk_at "rd"
  exact ⟨_, _, _, hp, cl_WholeMaker, n_WholeMaker_low, _, rfl, n, rfl, hn, _, rfl, _, rfl, q⟩
theorem ffs_place (pl : Nat) (c r : Int) : (ffs pl c r).lookup ("place" : Str) = some (.int pl) := rfl
theorem ffs_choice (pl : Nat) (c r : Int) : (ffs pl c r).lookup ("choice" : Str) = some (.int c) := by
  show List.lookup ("choice" : Str) [(("place" : Str), _), (("choice" : Str), V.int c), (("rest" : Str), _)] = _
  rw [List.lookup_cons, show (("choice" : Str) == ("place" : Str)) = false by decide +kernel, List.lookup_cons, show (("choice" : Str) == ("choice" : Str)) = true by decide +kernel]
theorem ffs_rest (pl : Nat) (c r : Int) : (ffs pl c r).lookup ("rest" : Str) = some (.int r) := by
  show List.lookup ("rest" : Str) [(("place" : Str), _), (("choice" : Str), V.int c), (("rest" : Str), V.int r)] = _
  rw [List.lookup_cons, show (("rest" : Str) == ("place" : Str)) = false by decide +kernel, List.lookup_cons, show (("rest" : Str) == ("choice" : Str)) = false by decide +kernel, List.lookup_cons, show (("rest" : Str) == ("rest" : Str)) = true by decide +kernel]
def sp_Mm_value (K : PySem.W.Frag) (CW CM : Addr) : Sp := fun vs H Q _ => ∃ (pm pw cm cw dm dw : Addr) (lo : Int) (span m n k : Nat) (j : Int), vs = [.ref pm, .int k, .int j] ∧ MM CW CM H pm pw cm cw dm dw lo span m n ∧ k ≤ m ∧ m ≤ 40 ∧ n ≤ 50 ∧ (∀ i ≤ 40, ∀ j ≤ 40, big (wc span i) (mc span j)) ∧ 0 ≤ j ∧ j < mc span k ∧
  ∀ D H' n', H D = none → (∀ b o, b ≠ cw → H b = some o → H' b = some o) → n' ≤ 50 → H' cw = some (.lst (cnts (wc span) n')) → H' D = some (.lst (mv lo span k j)) → Q (.ref D) H'
theorem ok_ManyMaker_value_at {k : Nat} {C_Found : Addr} {C_Lister : Addr} {C_ManyMaker : Addr} {C_WholeMaker : Addr} {c_deed_judge P_deed_judge : Addr} {c_law_thing P_law_thing : Addr} (R : g.RawM C_ManyMaker "value_at" "ManyMaker.value_at" s_ManyMaker_value_at ["self", "size", "number"]) (F_found_in : g.Fn k "found_in" ["blocks", "number"] (sp_found_in g.K C_Found)) (F_WholeMaker_value_at : g.Me k C_WholeMaker "value_at" ["self", "size", "number"] (sp_Wm_value g.K C_WholeMaker C_ManyMaker)) (F_ManyMaker_blocks_at : g.Me k C_ManyMaker "blocks_at" ["self", "left"] (sp_Mblocks g.K C_WholeMaker C_ManyMaker 4)) (cl_Found : Cls g.K C_Found) (n_Found_place : NoAttr g.K C_Found "place") (n_Found_choice : NoAttr g.K C_Found "choice") (n_Found_rest : NoAttr g.K C_Found "rest") (cl_ManyMaker : Cls g.K C_ManyMaker) (n_ManyMaker_counts : NoAttr g.K C_ManyMaker "counts") (n_ManyMaker_part : NoAttr g.K C_ManyMaker "part") (cl_WholeMaker : Cls g.K C_WholeMaker) (n_WholeMaker_counts : NoAttr g.K C_WholeMaker "counts") (n_WholeMaker_low : NoAttr g.K C_WholeMaker "low") (n_WholeMaker_span : NoAttr g.K C_WholeMaker "span") : g.Me (k + 1) C_ManyMaker "value_at" ["self", "size", "number"] (sp_Mm_value g.K C_WholeMaker C_ManyMaker) := by
  refine R.me sc_ManyMaker_value_at (fun vs H Q E h => by obtain ⟨pm, pw, cm, cw, dm, dw, lo, span, m, n, k, j, rfl, M, hk, hm, hn, hb, h0, h1, q⟩ := h; rfl) fun f_ cdv A outer s H vs Q E hr h => ?_
  obtain ⟨pm, pw, cm, cw, dm, dw, lo, span, m, n, k, j, rfl, M, hk, hm, hn, hb, h0, h1, q⟩ := h
  refine ⟨_, (@pss_cons _ _ _ _ _ (@ps_set _ _ (3) _ _ _ _ sc_ManyMaker_value_at.nd rfl (Or.inl rfl) (@pe_lst _ _ _ _ pa_nil) (by rfl) (by first | exact .inl rfl | exact .inr rfl | assumption)) (@pss_cons _ _ _ _ _ (@ps_set _ _ (4) _ _ _ _ sc_ManyMaker_value_at.nd rfl (Or.inl rfl) (@pv _ 1 _ _ (by rfl) (by first | exact Or.inl rfl | exact Or.inr (Or.inl rfl) | exact Or.inr (Or.inr rfl)) (by decide) (by decide)) (by rfl) (by first | exact .inl rfl | exact .inr rfl | assumption)) (@pss_cons _ _ _ _ _ (@ps_set _ _ (5) _ _ _ _ sc_ManyMaker_value_at.nd rfl (Or.inl rfl) (@pv _ 2 _ _ (by rfl) (by first | exact Or.inl rfl | exact Or.inr (Or.inl rfl) | exact Or.inr (Or.inr rfl)) (by decide) (by decide)) (by rfl) (by first | exact .inl rfl | exact .inr rfl | assumption)) (@pss_cons _ _ _ _ _ (@ps_while _ _ _ _ _ _ PassesOwn.never (@pt_cmpR _ _ _ _ _ _ _ _ op_gt (@pv _ 4 _ _ (by rfl) (by first | exact Or.inl rfl | exact Or.inr (Or.inl rfl) | exact Or.inr (Or.inr rfl)) (by decide) (by decide)) pe_int (nomark _)) (@pss_cons _ _ _ _ _ (@ps_set _ _ (6) _ _ _ _ sc_ManyMaker_value_at.nd rfl (Or.inl rfl) (@pe_fn _ _ _ _ _ _ _ _ _ _ _ _ F_found_in hr (@pa_cons _ _ _ _ _ (@pe_me _ _ _ _ _ _ _ _ _ _ _ _ _ _ _ _ F_ManyMaker_blocks_at cl_ManyMaker hr (@pv _ 0 _ _ (by rfl) (by first | exact Or.inl rfl | exact Or.inr (Or.inl rfl) | exact Or.inr (Or.inr rfl)) (by decide) (by decide)) (@pa_cons _ _ _ _ _ (@pv _ 4 _ _ (by rfl) (by first | exact Or.inl rfl | exact Or.inr (Or.inl rfl) | exact Or.inr (Or.inr rfl)) (by decide) (by decide)) pa_nil (by rfl)) (by omega) (by rfl) (by rfl) (by rfl) (by rfl)) (@pa_cons _ _ _ _ _ (@pv _ 5 _ _ (by rfl) (by first | exact Or.inl rfl | exact Or.inr (Or.inl rfl) | exact Or.inr (Or.inr rfl)) (by decide) (by decide)) pa_nil (by rfl)) (by rfl)) (by omega) (by rfl) (by rfl) (by decide) (by rfl) (by rfl)) (by rfl) (by first | exact .inl rfl | exact .inr rfl | assumption)) (@pss_cons _ _ _ _ _ (@ps_expr _ _ _ _ (@pe_bm _ _ _ _ _ _ _ _ _ _ _ _ PySem.F.plainAttrs_list PySem.F.slot_list_append PySem.F.type_list_append mt_append (@pv _ 3 _ _ (by rfl) (by first | exact Or.inl rfl | exact Or.inr (Or.inl rfl) | exact Or.inr (Or.inr rfl)) (by decide) (by decide)) (@pa_cons _ _ _ _ _ (@pe_me _ _ _ _ _ _ _ _ _ _ _ _ _ _ _ _ F_WholeMaker_value_at cl_WholeMaker hr (@pe_fld _ _ _ _ _ (@pv _ 0 _ _ (by rfl) (by first | exact Or.inl rfl | exact Or.inr (Or.inl rfl) | exact Or.inr (Or.inr rfl)) (by decide) (by decide)) rfl) (@pa_cons _ _ _ _ _ (@pe_fld _ _ _ _ _ (@pv _ 6 _ _ (by rfl) (by first | exact Or.inl rfl | exact Or.inr (Or.inl rfl) | exact Or.inr (Or.inr rfl)) (by decide) (by decide)) rfl) (@pa_cons _ _ _ _ _ (@pe_fld _ _ _ _ _ (@pv _ 6 _ _ (by rfl) (by first | exact Or.inl rfl | exact Or.inr (Or.inl rfl) | exact Or.inr (Or.inr rfl)) (by decide) (by decide)) rfl) pa_nil (by rfl)) (by rfl)) (by omega) (by rfl) (by rfl) (by rfl) (by rfl)) pa_nil (by rfl)) (by rfl) (by rfl) (by rfl) (by rfl) (by rfl)) (by rfl)) (@pss_cons _ _ _ _ _ (@ps_aug _ _ (4) _ _ _ _ _ _ sc_ManyMaker_value_at.nd rfl (Or.inl rfl) (@pe_op _ _ _ _ _ _ _ _ op_add pe_int (@pe_fld _ _ _ _ _ (@pv _ 6 _ _ (by rfl) (by first | exact Or.inl rfl | exact Or.inr (Or.inl rfl) | exact Or.inr (Or.inr rfl)) (by decide) (by decide)) rfl)) ip_sub (by first | exact .inl rfl | exact .inr rfl | assumption)) (@pss_one _ _ _ (@ps_set _ _ (5) _ _ _ _ sc_ManyMaker_value_at.nd rfl (Or.inl rfl) (@pe_fld _ _ _ _ _ (@pv _ 6 _ _ (by rfl) (by first | exact Or.inl rfl | exact Or.inr (Or.inl rfl) | exact Or.inr (Or.inr rfl)) (by decide) (by decide)) rfl) (by rfl) (by first | exact .inl rfl | exact .inr rfl | assumption))))))) (@pss_one _ _ _ (@ps_ret _ _ _ _ (@pv _ 3 _ _ (by rfl) (by first | exact Or.inl rfl | exact Or.inr (Or.inl rfl) | exact Or.inr (Or.inr rfl)) (by decide) (by decide)))))))), ?_⟩
  walk_at "rd"
  refine ⟨few (by decide), fun D hD => ?_⟩
  have nmc : pm ≠ cw := ne_of M.hm M.hv (by simp)
  have nwc : pw ≠ cw := ne_of M.hw M.hv (by simp)
  have nDc : D ≠ cw := Ne.symm (ne_of_none M.hv hD)
  refine while_of (α := List V × Nat × Int) (fun x σ H' => (∃ o6, σ = [some (.ref pm), some (.int k), some (.int j), some (.ref D), some (.int (x.2.1 : Nat)), some (.int x.2.2), o6]) ∧ (∀ b o, b ≠ cw → H b = some o → H' b = some o) ∧ H' D = some (.lst x.1) ∧ mv lo span k j = x.1 ++ mv lo span x.2.1 x.2.2 ∧ x.1.length + x.2.1 ≤ k ∧ 0 ≤ x.2.2 ∧ x.2.2 < mc span x.2.1 ∧ ∃ n', n' ≤ 50 ∧ H' cw = some (.lst (cnts (wc span) n'))) (fun x => decide (0 < x.2.1)) (fun x => x.2.1) ([], k, j) ⟨⟨_, rfl⟩, fun b o _ e => (Same.upd_new hD _) _ _ e, upd_same, rfl, by simp, h0, h1, n, hn, (Same.upd_new hD _) _ _ M.hv⟩ ?_ ?_ ?_
  · rintro ⟨ts, l, r⟩ σ H' ⟨⟨o6, rfl⟩, g⟩ R rr
    have := rr H' ⟨⟨o6, rfl⟩, g⟩
    walk_at "rd"
    simpa using this
  · rintro ⟨ts, l, r⟩ σ H' ⟨⟨o6, rfl⟩, fr, hd, he, hlen, r0, r1, n', hn', hv⟩ hcond
    have hl : 0 < l := of_decide_eq_true hcond
    obtain ⟨i, rfl⟩ : ∃ i, l = i + 1 := ⟨l - 1, by omega⟩
    dsimp only at hd he hlen r0 r1
    have hm' := fr _ _ nmc M.hm
    have hw' := fr _ _ nwc M.hw
    have hc' := fr _ _ M.ne M.hc
    obtain ⟨p1, p2, p3⟩ := blk_fnd r0 r1
    walk_at "rd"
    refine ⟨_, _, hm', mmf_no _ _ (by decide +kernel) (by decide +kernel), pm, pw, cm, cw, dm, dw, lo, span, m, n', i + 1, rfl, by decide, ⟨hm', hc', hw', hv, M.ne⟩, by omega, hm, hn', fun B H1 gB hB fr1 hv1 => ?_⟩
    refine ⟨B, blk span (i + 1), r, rfl, hB, by rw [blk, List.length_map, List.length_range]; omega, fun p hp => ?_, fun p hp => ?_, r0, by rw [tots_blk]; exact r1, fun f dxf H2 s2 gf hf => ?_⟩
    · rw [blk] at hp
      obtain ⟨z, hz, rfl⟩ := List.mem_map.mp hp
      have hz := List.mem_range.mp hz
      exact hb z (by omega) (i + 1 - 1 - z) (by omega)
    · rw [blk] at hp
      obtain ⟨z, hz, rfl⟩ := List.mem_map.mp hp
      exact ⟨wc_nonneg _ _, mc_nonneg _ _⟩
    have hd2 := s2 _ _ (fr1 _ _ nDc hd)
    have hm2 := s2 _ _ (fr1 _ _ nmc hm')
    have hw2 := s2 _ _ (fr1 _ _ nwc hw')
    have hv2 := s2 _ _ hv1
    have nfD : f ≠ D := Ne.symm (ne_of_none (fr1 _ _ nDc hd) gf)
    have hf3 := (upd_ne (H := H2) (o := .lst (ts ++ [.int (lo + 1 * 2 ^ (fnd (blk span (i + 1)) r).1 / 2 ^ 1 + (fnd (blk span (i + 1)) r).2.1)])) nfD).trans hf
    have hmv : mv lo span (i + 1) r = .int (lo + 1 * 2 ^ (fnd (blk span (i + 1)) r).1 / 2 ^ 1 + (fnd (blk span (i + 1)) r).2.1) :: mv lo span (i - (fnd (blk span (i + 1)) r).1) (fnd (blk span (i + 1)) r).2.2 := by rw [mv]
    refine ⟨.inl ⟨rfl, _, SqL.of hd2⟩, _, _, _, hm2, cl_ManyMaker, n_ManyMaker_part, _, mmf_part _ _, pw, rfl, _, _, hw2, mf_no _ _ (by decide +kernel) (by decide +kernel) (by decide +kernel) (by decide +kernel), f, rfl, _, _, _, hf, cl_Found, n_Found_place, _, ffs_place _ _ _, f, rfl, _, _, _, hf, cl_Found, n_Found_choice, _, ffs_choice _ _ _, pw, dw, cw, lo, _, span, _, rfl, by omega, hw2, _, hd2, few (by omega), ?_⟩
    refine ⟨f, rfl, _, _, _, hf3, cl_Found, n_Found_place, _, ffs_place _ _ _, _, rfl, f, rfl, _, _, _, hf3, cl_Found, n_Found_rest, _, ffs_rest _ _ _, (ts ++ [.int (lo + 1 * 2 ^ (fnd (blk span (i + 1)) r).1 / 2 ^ 1 + (fnd (blk span (i + 1)) r).2.1)], i - (fnd (blk span (i + 1)) r).1, (fnd (blk span (i + 1)) r).2.2), ?_, rfl, fun z o hz e => ?_, upd_same, ?_, ?_, p2, p3, ⟨max n' (i + 1), ?_, ?_⟩, ?_⟩
    · dsimp only; omega
    · rw [upd_ne (ne_of_none e hD)]
      exact s2 _ _ (fr1 _ _ hz (fr z o hz e))
    · rw [he, hmv, List.append_assoc]
      rfl
    · dsimp only
      rw [List.length_append, List.length_singleton]
      omega
    · omega
    · rw [upd_ne (Ne.symm nDc)]
      exact hv2
    · dsimp only; omega
  · rintro ⟨ts, l, r⟩ σ H' ⟨⟨o6, rfl⟩, fr, hd, he, hlen, r0, r1, n', hn', hv⟩ hcond
    have hl : l = 0 := by have := of_decide_eq_false hcond; dsimp only at this; omega
    subst hl
    dsimp only at hd he
    rw [mv, List.append_nil] at he
    walk_at "rd"
    exact q D H' n' hD fr hn' hv (by rw [hd, he])
end KW
set_option maxHeartbeats 8000000
namespace KW
open PySem L2

variable {g : Gx}
variable {src : List (Option Nat)} {te : TE} {σ : St} {H : Hp} {Q : VK}
variable {m : Nat}
local macro_rules | `(tactic| walk_at "gn") => `(tactic| simp only [gName, List.set_cons_zero, List.set_cons_succ])

local macro_rules | `(tactic| walk_at "rd") => `(tactic| simp (config := { failIfUnchanged := false, maxSteps := 10000000 }) only [L2.start, cxOf_K, nox_K, List.map_cons, List.map_nil, List.length_cons, List.length_nil, List.cons_append, List.nil_append, List.replicate_succ, List.replicate_zero, Nat.zero_add, Nat.reduceAdd, Nat.reduceSub, Nat.sub_self, tSeq, tIfS, tTest, tOp, tC, tVar, rI0, rI, rU, tUn, tRet, tRetN, tDrop, tNext, tBreak, tCont, tAsg, gName, gNil, gCons, tCons, tNil, tCB, tCall, tTry, tTryAs, tRaise, sFld, tFld, tMake, tMeth, Ends.gone, caught_K, tB, tAnd, tOr, tNot, tAndV, tOrV, tNotV, tIf, tChain, tNoPart, tPart, tSl, tNever, tAug, rIxL, rIxT, rSlL, tLst, tTup, gTup, tRev, tLZ, tConT, tDict0, tDNewT, tDGet, sDPut, rNotInD, rInD, tEither, tSlStep, rBits, rFind, rIn, tBM, tBM0, rAppend, rReverse, rEq, rNe, scal_ii, scal_ss, rCat, rSetL, gSub, ipI, capSt, List.getD_cons_zero, List.getD_cons_succ, decide_true, not_true_eq_false, not_false_eq_true,
  exists_eq_left', exists_eq_left, exists_eq', exists_eq, exists_and_left, and_assoc, Option.some.injEq, V.int.injEq, V.bl.injEq, V.ref.injEq, V.str.injEq, List.getElem?_cons_zero, List.getElem?_cons_succ, List.set_cons_zero, List.set_cons_succ, List.cons.injEq, and_true, true_and, List.append_nil, decide_eq_true_eq, Bool.not_eq_true', decide_eq_false_iff_not, Bool.not_not, Bool.not_true, Bool.not_false, Bool.true_eq_false, Bool.false_eq_true, if_true, if_false, ite_true, ite_false])

def sp_all_made (K : PySem.W.Frag) (CW CM : Addr) : Sp := fun vs H Q _ => ∃ (pm pw cm cw dm dw : Addr) (lo : Int) (span m n k : Nat), vs = [.ref pm, .int k] ∧ MM CW CM H pm pw cm cw dm dw lo span m n ∧ k < m ∧ m ≤ 40 ∧ n ≤ 50 ∧ (∀ i ≤ 40, ∀ j ≤ 40, big (wc span i) (mc span j)) ∧ (mc span k).toNat ≤ 3000 ∧
  ∀ D (zs : List Addr) H' n', H D = none → (∀ b o, b ≠ cw → H b = some o → H' b = some o) → n' ≤ 50 → H' cw = some (.lst (cnts (wc span) n')) → H' D = some (.lst (zs.map V.ref)) → zs.length = (mc span k).toNat → (∀ (i : Nat) z, zs[i]? = some z → H z = none ∧ H' z = some (.lst (mv lo span k i))) → Q (.ref D) H'
theorem ok_all_made {k : Nat} {C_Found : Addr} {C_Lister : Addr} {C_ManyMaker : Addr} {C_WholeMaker : Addr} {c_deed_judge P_deed_judge : Addr} {c_law_thing P_law_thing : Addr} (R : g.Raw "all_made" "all_made" s_all_made ["maker", "size"]) (F_ManyMaker_value_at : g.Me k C_ManyMaker "value_at" ["self", "size", "number"] (sp_Mm_value g.K C_WholeMaker C_ManyMaker)) (F_ManyMaker_count_at : g.Me k C_ManyMaker "count_at" ["self", "size"] (sp_Mcount g.K C_WholeMaker C_ManyMaker 4)) (b_range : g.mg "range" = none) (cl_ManyMaker : Cls g.K C_ManyMaker) (n_ManyMaker_counts : NoAttr g.K C_ManyMaker "counts") (n_ManyMaker_part : NoAttr g.K C_ManyMaker "part") : g.Fn (k + 1) "all_made" ["maker", "size"] (sp_all_made g.K C_WholeMaker C_ManyMaker) := by
  refine R.fn sc_all_made (fun vs H Q E h => by obtain ⟨pm, pw, cm, cw, dm, dw, lo, span, m, n, k, rfl, M, hk, hm, hn, hb, hc, q⟩ := h; rfl) fun f_ cdv A outer s H vs Q E hr h => ?_
  obtain ⟨pm, pw, cm, cw, dm, dw, lo, span, m, n, k, rfl, M, hk, hm, hn, hb, hc, q⟩ := h
  refine ⟨_, (@pss_one _ _ _ (@ps_ret _ _ _ _ (@pe_lc _ _ _ _ _ _ _ ([none, some 1, some 0]) ((["number", "size", "maker"] : List Str)) _ (gName 0) _ _ (.own (.cap (i := 1) rfl rfl (by first | exact Or.inl rfl | exact Or.inr rfl) (.cap (i := 0) rfl rfl (by first | exact Or.inl rfl | exact Or.inr rfl) .nil))) rfl (@pi_range1 _ _ _ _ _ _ rfl b_range (@pa_cons _ _ _ _ _ (@pe_me _ _ _ _ _ _ _ _ _ _ _ _ _ _ _ _ F_ManyMaker_count_at cl_ManyMaker hr (@pv _ 0 _ _ (by rfl) (by first | exact Or.inl rfl | exact Or.inr (Or.inl rfl) | exact Or.inr (Or.inr rfl)) (by decide) (by decide)) (@pa_cons _ _ _ _ _ (@pv _ 1 _ _ (by rfl) (by first | exact Or.inl rfl | exact Or.inr (Or.inl rfl) | exact Or.inr (Or.inr rfl)) (by decide) (by decide)) pa_nil (by rfl)) (by omega) (by rfl) (by rfl) (by rfl) (by rfl)) pa_nil (by rfl)) (by rfl)) (fun cl C s₀ H₀ fp pn => (@pg_name _ _ (0) _ (show List.Nodup (["number", "size", "maker"] : List Str) by decide +kernel) rfl (Or.inl rfl) (Or.inr rfl))) (fun cl C s₀ H₀ fp pn => pts_nil) (fun cl C s₀ H₀ fp pn => (@pe_me _ _ _ _ _ _ _ _ _ _ _ _ _ _ _ _ F_ManyMaker_value_at cl_ManyMaker hr (@pv _ 2 _ _ (by rfl) (by first | exact Or.inl rfl | exact Or.inr (Or.inl rfl) | exact Or.inr (Or.inr rfl)) (by decide) (by decide)) (@pa_cons _ _ _ _ _ (@pv _ 1 _ _ (by rfl) (by first | exact Or.inl rfl | exact Or.inr (Or.inl rfl) | exact Or.inr (Or.inr rfl)) (by decide) (by decide)) (@pa_cons _ _ _ _ _ (@pv _ 0 _ _ (by rfl) (by first | exact Or.inl rfl | exact Or.inr (Or.inl rfl) | exact Or.inr (Or.inr rfl)) (by decide) (by decide)) pa_nil (by rfl)) (by rfl)) (by omega) (by rfl) (by rfl) (by rfl) (by rfl))) (by intro x hx; simp at hx; first | (subst hx; exact Or.inl rfl) | (rcases hx with rfl | rfl <;> exact Or.inl rfl) | (rcases hx with rfl | rfl | rfl <;> exact Or.inl rfl)) (by rfl) (by decide) (by decide +kernel) (by intro _; rfl)))), ?_⟩
  have nmc : pm ≠ cw := ne_of M.hm M.hv (by simp)
  have nwc : pw ≠ cw := ne_of M.hw M.hv (by simp)
  have c0 := mc_nonneg span k
  walk_at "rd"
  refine tLC_rangeI (n := (mc span k).toNat) (fun D i zs H' => zs.length = i ∧ H' D = some (.lst zs) ∧ (∀ b o, b ≠ cw → b ≠ D → H b = some o → H' b = some o) ∧ (∃ n', n' ≤ 50 ∧ H' cw = some (.lst (cnts (wc span) n'))) ∧ ∃ as : List Addr, zs = as.map V.ref ∧ ∀ (j : Nat) z, as[j]? = some z → z ≠ D ∧ z ≠ cw ∧ H z = none ∧ H' z = some (.lst (mv lo span k j))) (fun R r => ?_) (by omega) ?_ ?_ ?_ ?_
  · rw [Int.toNat_of_nonneg c0] at r
    walk_at "rd"
    exact ⟨_, _, M.hm, mmf_no _ _ (by decide +kernel) (by decide +kernel), pm, pw, cm, cw, dm, dw, lo, span, m, n, k, rfl, by decide, M, hm, hn, fun _ => r, fun z => absurd z (by omega)⟩
  · intro D hD
    exact ⟨rfl, upd_same, fun b o _ hb' e => by rw [upd_ne hb']; exact e, ⟨n, hn, by rw [upd_ne (ne_of_none M.hv hD)]; exact M.hv⟩, [], rfl, fun j z hz => by simp at hz⟩
  · rintro D i zs H' ⟨h1, h2, _⟩
    exact ⟨h1, h2⟩
  · rintro D i zs H' hD hi ⟨hz, hd, fr, ⟨n', hn', hv⟩, as, rfl, has⟩ R r
    have nDc : D ≠ cw := Ne.symm (ne_of_none M.hv hD)
    have hm' := fr _ _ nmc (ne_of_none M.hm hD) M.hm
    have hw' := fr _ _ nwc (ne_of_none M.hw hD) M.hw
    have hc' := fr _ _ M.ne (ne_of_none M.hc hD) M.hc
    walk_at "rd"
    refine ⟨_, _, hm', mmf_no _ _ (by decide +kernel) (by decide +kernel), pm, pw, cm, cw, dm, dw, lo, span, m, n', k, (i : Int), rfl, ⟨hm', hc', hw', hv, M.ne⟩, by omega, hm, hn', hb, by omega, by omega, fun L H2 n2 gL fr2 hn2 hv2 hL => ?_⟩
    have hd2 := fr2 _ _ nDc hd
    have nLD : L ≠ D := Ne.symm (ne_of_none hd gL)
    have nLc : L ≠ cw := Ne.symm (ne_of_none hv gL)
    have gLH : H L = none := by
      cases h : H L with
      | none => rfl
      | some o => rw [fr L o nLc nLD h] at gL; cases gL
    refine r _ _ hd2 ⟨by rw [List.length_append, hz]; rfl, upd_same, fun b o b1 b2 e => by rw [upd_ne b2]; exact fr2 _ _ b1 (fr b o b1 b2 e), ⟨n2, hn2, by rw [upd_ne (Ne.symm nDc)]; exact hv2⟩, as ++ [L], by rw [List.map_append]; rfl, fun j z hj => ?_⟩
    rw [List.length_map] at hz
    by_cases c : j < as.length
    · rw [List.getElem?_append_left c] at hj
      obtain ⟨t1, t2, t3, t4⟩ := has j z hj
      exact ⟨t1, t2, t3, by rw [upd_ne t1]; exact fr2 _ _ t2 t4⟩
    · have hjj : j = as.length := by
        have := (List.getElem?_eq_some_iff.mp hj).1
        rw [List.length_append, List.length_singleton] at this
        omega
      subst hjj
      rw [List.getElem?_append_right (Nat.le_refl _), Nat.sub_self] at hj
      have : L = z := Option.some.inj hj
      subst this
      rw [hz]
      exact ⟨nLD, nLc, gLH, by rw [upd_ne nLD]; exact hL⟩
  · rintro D zs H' hD ⟨hz, hd, fr, ⟨n', hn', hv⟩, as, rfl, has⟩
    rw [List.length_map] at hz
    exact q D as H' n' hD (fun b o b1 e => fr b o b1 (ne_of_none e hD) e) hn' hv hd hz fun i z hi => ⟨(has i z hi).2.2.1, (has i z hi).2.2.2⟩
end KW
set_option maxHeartbeats 8000000
namespace KW
open PySem L2

variable {g : Gx}
variable {src : List (Option Nat)} {te : TE} {σ : St} {H : Hp} {Q : VK}
variable {m : Nat}
local macro_rules | `(tactic| walk_at "gn") => `(tactic| simp only [gName, List.set_cons_zero, List.set_cons_succ])

local macro_rules | `(tactic| walk_at "rd") => `(tactic| simp (config := { failIfUnchanged := false, maxSteps := 10000000 }) only [L2.start, cxOf_K, nox_K, List.map_cons, List.map_nil, List.length_cons, List.length_nil, List.cons_append, List.nil_append, List.replicate_succ, List.replicate_zero, Nat.zero_add, Nat.reduceAdd, Nat.reduceSub, Nat.sub_self, tSeq, tIfS, tTest, tOp, tC, tVar, rI0, rI, rU, tUn, tRet, tRetN, tDrop, tNext, tBreak, tCont, tAsg, gName, gNil, gCons, tCons, tNil, tCB, tCall, tTry, tTryAs, tRaise, sFld, tFld, tMake, tMeth, Ends.gone, caught_K, tB, tAnd, tOr, tNot, tAndV, tOrV, tNotV, tIf, tChain, tNoPart, tPart, tSl, tNever, tAug, rIxL, rIxT, rSlL, tLst, tTup, gTup, tRev, tLZ, tConT, tDict0, tDNewT, tDGet, sDPut, rNotInD, rInD, tEither, tSlStep, rBits, rFind, rIn, tBM, tBM0, rAppend, rReverse, rEq, rNe, scal_ii, scal_ss, rCat, rSetL, gSub, ipI, capSt, List.getD_cons_zero, List.getD_cons_succ, decide_true, not_true_eq_false, not_false_eq_true,
  exists_eq_left', exists_eq_left, exists_eq', exists_eq, exists_and_left, and_assoc, Option.some.injEq, V.int.injEq, V.bl.injEq, V.ref.injEq, V.str.injEq, List.getElem?_cons_zero, List.getElem?_cons_succ, List.set_cons_zero, List.set_cons_succ, List.cons.injEq, and_true, true_and, List.append_nil, decide_eq_true_eq, Bool.not_eq_true', decide_eq_false_iff_not, Bool.not_not, Bool.not_true, Bool.not_false, Bool.true_eq_false, Bool.false_eq_true, if_true, if_false, ite_true, ite_false])

def sp_refuse : Sp := fun vs H Q _ => ∃ c m : Int, vs = [.int c, .int m] ∧ c ≤ m ∧ Q .non H
theorem ok_refuse_too_many {C_Found : Addr} {C_Lister : Addr} {C_ManyMaker : Addr} {C_WholeMaker : Addr} {c_deed_judge P_deed_judge : Addr} {c_law_thing P_law_thing : Addr} (R : g.Raw "refuse_too_many" "refuse_too_many" s_refuse_too_many ["count", "most"]) : g.Fn (1) "refuse_too_many" ["count", "most"] (sp_refuse) := by
  refine R.fn sc_refuse_too_many (fun vs H Q E h => by obtain ⟨c, m, rfl, hc, q⟩ := h; rfl) fun f_ cdv A outer s H vs Q E hr h => ?_
  obtain ⟨c, m, rfl, hc, q⟩ := h
  refine ⟨_, (@pss_one _ _ _ (@ps_if _ _ _ _ _ _ _ _ (@pt_cmpR _ _ _ _ _ _ _ _ op_gt (@pv _ 0 _ _ (by rfl) (by first | exact Or.inl rfl | exact Or.inr (Or.inl rfl) | exact Or.inr (Or.inr rfl)) (by decide) (by decide)) (@pv _ 1 _ _ (by rfl) (by first | exact Or.inl rfl | exact Or.inr (Or.inl rfl) | exact Or.inr (Or.inr rfl)) (by decide) (by decide)) (nomark _)) (@pss_one _ _ _ ps_never) pss_nil)), ?_⟩
  walk_at "rd"
  exact iteN (by omega) q
def sp_all_values (K : PySem.W.Frag) : Sp := fun vs H Q _ => ∃ (a : Addr) (b : V) (lo : Int) (span k : Nat), vs = [b, .ref a, .int k, .int 2000] ∧ AtS H a (.m lo span) ∧ k < 40 ∧ (∀ i ≤ 40, ∀ j ≤ 40, big (wc span i) (mc span j)) ∧ mc span k ≤ 2000 ∧
  ∀ D (zs : List Addr) H', Same H H' → H D = none → H' D = some (.lst (zs.map V.ref)) → zs.length = (mc span k).toNat → (∀ (i : Nat) z, zs[i]? = some z → H z = none ∧ H' z = some (.lst (mv lo span k i))) → Q (.ref D) H'
theorem ok_all_values {k : Nat} {C_Found : Addr} {C_Lister : Addr} {C_ManyMaker : Addr} {C_WholeMaker : Addr} {c_deed_judge P_deed_judge : Addr} {c_law_thing P_law_thing : Addr} (R : g.RawD "all_values" "all_values" s_all_values ["book", "shape", "size", "most"] []) (F_maker_for : g.Fn k "maker_for" ["book", "shape"] (sp_maker_for g.K C_WholeMaker C_ManyMaker)) (F_refuse_too_many : g.Fn k "refuse_too_many" ["count", "most"] (sp_refuse)) (F_all_made : g.Fn k "all_made" ["maker", "size"] (sp_all_made g.K C_WholeMaker C_ManyMaker)) (F_ManyMaker_count_at : g.Me k C_ManyMaker "count_at" ["self", "size"] (sp_Mcount g.K C_WholeMaker C_ManyMaker 4)) (cl_ManyMaker : Cls g.K C_ManyMaker) (n_ManyMaker_counts : NoAttr g.K C_ManyMaker "counts") (n_ManyMaker_part : NoAttr g.K C_ManyMaker "part") : g.FnD (k + 1) "all_values" ["book", "shape", "size", "most"] [] (sp_all_values g.K) := by
  refine R.fnD sc_all_values (fun vs H Q E h => by obtain ⟨a, b, lo, span, k, rfl, ha, hk, hb, hc, q⟩ := h; rfl) fun f_ cdv A outer s H vs Q E hr h => ?_
  obtain ⟨a, b, lo, span, k, rfl, ha, hk, hb, hc, q⟩ := h
  refine ⟨_, (@pss_cons _ _ _ _ _ (@ps_set _ _ (4) _ _ _ _ sc_all_values.nd rfl (Or.inl rfl) (@pe_fn _ _ _ _ _ _ _ _ _ _ _ _ F_maker_for hr (@pa_cons _ _ _ _ _ (@pv _ 0 _ _ (by rfl) (by first | exact Or.inl rfl | exact Or.inr (Or.inl rfl) | exact Or.inr (Or.inr rfl)) (by decide) (by decide)) (@pa_cons _ _ _ _ _ (@pv _ 1 _ _ (by rfl) (by first | exact Or.inl rfl | exact Or.inr (Or.inl rfl) | exact Or.inr (Or.inr rfl)) (by decide) (by decide)) pa_nil (by rfl)) (by rfl)) (by omega) (by rfl) (by rfl) (by decide) (by rfl) (by rfl)) (by rfl) (by first | exact .inl rfl | exact .inr rfl | assumption)) (@pss_cons _ _ _ _ _ (@ps_expr _ _ _ _ (@pe_fn _ _ _ _ _ _ _ _ _ _ _ _ F_refuse_too_many hr (@pa_cons _ _ _ _ _ (@pe_me _ _ _ _ _ _ _ _ _ _ _ _ _ _ _ _ F_ManyMaker_count_at cl_ManyMaker hr (@pv _ 4 _ _ (by rfl) (by first | exact Or.inl rfl | exact Or.inr (Or.inl rfl) | exact Or.inr (Or.inr rfl)) (by decide) (by decide)) (@pa_cons _ _ _ _ _ (@pv _ 2 _ _ (by rfl) (by first | exact Or.inl rfl | exact Or.inr (Or.inl rfl) | exact Or.inr (Or.inr rfl)) (by decide) (by decide)) pa_nil (by rfl)) (by omega) (by rfl) (by rfl) (by rfl) (by rfl)) (@pa_cons _ _ _ _ _ (@pv _ 3 _ _ (by rfl) (by first | exact Or.inl rfl | exact Or.inr (Or.inl rfl) | exact Or.inr (Or.inr rfl)) (by decide) (by decide)) pa_nil (by rfl)) (by rfl)) (by omega) (by rfl) (by rfl) (by decide) (by rfl) (by rfl)) (by rfl)) (@pss_one _ _ _ (@ps_ret _ _ _ _ (@pe_fn _ _ _ _ _ _ _ _ _ _ _ _ F_all_made hr (@pa_cons _ _ _ _ _ (@pv _ 4 _ _ (by rfl) (by first | exact Or.inl rfl | exact Or.inr (Or.inl rfl) | exact Or.inr (Or.inr rfl)) (by decide) (by decide)) (@pa_cons _ _ _ _ _ (@pv _ 2 _ _ (by rfl) (by first | exact Or.inl rfl | exact Or.inr (Or.inl rfl) | exact Or.inr (Or.inr rfl)) (by decide) (by decide)) pa_nil (by rfl)) (by rfl)) (by omega) (by rfl) (by rfl) (by decide) (by rfl) (by rfl)))))), ?_⟩
  walk_at "rd"
  refine ⟨a, b, lo, span, rfl, ha, fun p H1 s1 ⟨pw, cm, cw, dm, dw, g1, g2, g3, g4, M⟩ => ?_⟩
  refine ⟨p, rfl, _, _, M.hm, mmf_no _ _ (by decide +kernel) (by decide +kernel), p, pw, cm, cw, dm, dw, lo, span, 0, 0, k, rfl, by decide, M, by omega, by omega, fun z => absurd z (by omega), fun _ => ⟨by decide, hk, hb, fun H2 n2 fr2 hn2 M2 => ?_⟩⟩
  have s2 : Same H H2 := fun z o e => fr2 z o (ne_of_none e g4) (ne_of_none e g3) (s1 _ _ e)
  refine ⟨_, _, rfl, hc, p, pw, cm, cw, dm, dw, lo, span, k + 1, n2, k, rfl, M2, by omega, by omega, hn2, hb, by omega, fun D zs H3 n3 gD fr3 hn3 hv3 hD3 hl hz => ?_⟩
  exact q D zs H3 (fun z o e => fr3 z o (ne_of_none e g4) (s2 _ _ e)) (s2.free gD) hD3 hl fun i z hi => ⟨s2.free (hz i z hi).1, (hz i z hi).2⟩
end KW
set_option maxHeartbeats 8000000
namespace KW
open PySem L2

variable {g : Gx}
variable {src : List (Option Nat)} {te : TE} {σ : St} {H : Hp} {Q : VK}
variable {m : Nat}
local macro_rules | `(tactic| walk_at "gn") => `(tactic| simp only [gName, List.set_cons_zero, List.set_cons_succ])

local macro_rules | `(tactic| walk_at "rd") => `(tactic| simp (config := { failIfUnchanged := false, maxSteps := 10000000 }) only [L2.start, cxOf_K, nox_K, List.map_cons, List.map_nil, List.length_cons, List.length_nil, List.cons_append, List.nil_append, List.replicate_succ, List.replicate_zero, Nat.zero_add, Nat.reduceAdd, Nat.reduceSub, Nat.sub_self, tSeq, tIfS, tTest, tOp, tC, tVar, rI0, rI, rU, tUn, tRet, tRetN, tDrop, tNext, tBreak, tCont, tAsg, gName, gNil, gCons, tCons, tNil, tCB, tCall, tTry, tTryAs, tRaise, sFld, tFld, tMake, tMeth, Ends.gone, caught_K, tB, tAnd, tOr, tNot, tAndV, tOrV, tNotV, tIf, tChain, tNoPart, tPart, tSl, tNever, tAug, rIxL, rIxT, rSlL, tLst, tTup, gTup, tRev, tLZ, tConT, tDict0, tDNewT, tDGet, sDPut, rNotInD, rInD, tEither, tSlStep, rBits, rFind, rIn, tBM, tBM0, rAppend, rReverse, rEq, rNe, scal_ii, scal_ss, rCat, rSetL, gSub, ipI, capSt, List.getD_cons_zero, List.getD_cons_succ, decide_true, not_true_eq_false, not_false_eq_true,
  exists_eq_left', exists_eq_left, exists_eq', exists_eq, exists_and_left, and_assoc, Option.some.injEq, V.int.injEq, V.bl.injEq, V.ref.injEq, V.str.injEq, List.getElem?_cons_zero, List.getElem?_cons_succ, List.set_cons_zero, List.set_cons_succ, List.cons.injEq, and_true, true_and, List.append_nil, decide_eq_true_eq, Bool.not_eq_true', decide_eq_false_iff_not, Bool.not_not, Bool.not_true, Bool.not_false, Bool.true_eq_false, Bool.false_eq_true, if_true, if_false, ite_true, ite_false])

theorem fnd_ch : ∀ (ps : List (Int × Int)) (n : Int), 0 ≤ n → n < tots ps → (∀ p ∈ ps, 0 ≤ p.1 ∧ 0 ≤ p.2) → ∃ p, ps[(fnd ps n).1]? = some p ∧ 0 ≤ (fnd ps n).2.1 ∧ (fnd ps n).2.1 < p.1
  | [], n, h0, h1, _ => by simp [tots] at h1; omega
  | p :: ps, n, h0, h1, hp => by
    rw [tots_cons] at h1
    by_cases c : p.1 * p.2 ≤ n
    · obtain ⟨q, g1, g2, g3⟩ := fnd_ch ps (n - p.1 * p.2) (by omega) (by omega) fun q hq => hp q (.tail _ hq)
      rw [fnd, if_pos c]
      exact ⟨q, by simpa using g1, g2, g3⟩
    · rw [fnd, if_neg c]
      have h2 : 0 < p.2 := by
        rcases Int.lt_or_eq_of_le (hp p (.head _)).2 with z | z
        · exact z
        · rw [← z, Int.mul_zero] at c; omega
      exact ⟨p, rfl, Int.ediv_nonneg h0 (by omega), Int.ediv_lt_of_lt_mul h2 (by omega)⟩
theorem blk_ch {span l : Nat} {r : Int} (h0 : 0 ≤ r) (h1 : r < mc span (l + 1)) : 0 ≤ (fnd (blk span (l + 1)) r).2.1 ∧ (fnd (blk span (l + 1)) r).2.1 < wc span (fnd (blk span (l + 1)) r).1 := by
  obtain ⟨p, g1, g2, g3⟩ := fnd_ch (blk span (l + 1)) r h0 (by rw [tots_blk]; exact h1) fun p hp => by
    rw [blk] at hp
    obtain ⟨j, _, rfl⟩ := List.mem_map.mp hp
    exact ⟨wc_nonneg _ _, mc_nonneg _ _⟩
  have key : ∀ i, (blk span (l + 1))[i]? = some p → p.1 = wc span i := fun i h => by
    have hi := (List.getElem?_eq_some_iff.mp h).1
    rw [blk, List.length_map, List.length_range] at hi
    rw [blk, List.getElem?_map, List.getElem?_range hi] at h
    exact (congrArg (·.1) (Option.some.inj h)).symm
  rw [← key _ g1]
  exact ⟨g2, g3⟩
theorem wc_bd {span : Int} {k : Nat} {c : Int} (h0 : 0 ≤ span) (h1 : 0 ≤ c) (h : c < wc span k) : 0 ≤ 1 * 2 ^ k / 2 ^ 1 + c ∧ 1 * 2 ^ k / 2 ^ 1 + c ≤ span := by
  have p : (0 : Int) < 2 ^ k := Int.pow_pos (by decide)
  unfold wc at h
  constructor
  · omega
  · split at h
    · split at h <;> omega
    · split at h <;> omega
/-- the list's numbers -/
def mz (lo : Int) (span : Nat) : Nat → Int → List Int
  | 0, _ => []
  | l + 1, r => (lo + 1 * 2 ^ (fnd (blk span (l + 1)) r).1 / 2 ^ 1 + (fnd (blk span (l + 1)) r).2.1) :: mz lo span (l - (fnd (blk span (l + 1)) r).1) (fnd (blk span (l + 1)) r).2.2
termination_by l => l
decreasing_by omega
theorem mv_mz (lo : Int) (span : Nat) : ∀ (l : Nat) (r : Int), mv lo span l r = (mz lo span l r).map V.int
  | 0, r => by rw [mv, mz]; rfl
  | l + 1, r => by rw [mv, mz, mv_mz lo span (l - (fnd (blk span (l + 1)) r).1)]; rfl
termination_by l => l
decreasing_by omega
theorem mz_bd (lo : Int) (span : Nat) : ∀ (l : Nat) (r : Int), 0 ≤ r → r < mc span l → ∀ z ∈ mz lo span l r, lo ≤ z ∧ z ≤ lo + span
  | 0, r, _, _, z, hz => by rw [mz] at hz; cases hz
  | l + 1, r, h0, h1, z, hz => by
    rw [mz] at hz
    obtain ⟨b1, b2, b3⟩ := blk_fnd h0 h1
    rcases List.mem_cons.mp hz with rfl | hz
    · obtain ⟨c1, c2⟩ := blk_ch h0 h1
      have := wc_bd (by omega) c1 c2
      omega
    · exact mz_bd lo span (l - (fnd (blk span (l + 1)) r).1) _ b2 b3 z hz
termination_by l => l
decreasing_by omega
theorem mz_len (lo : Int) (span l : Nat) (r : Int) : (mz lo span l r).length ≤ l := by
  have := mv_len lo span l r
  rw [mv_mz, List.length_map] at this
  exact this
end KW
set_option maxHeartbeats 8000000
namespace KW
open PySem L2

variable {g : Gx}
variable {src : List (Option Nat)} {te : TE} {σ : St} {H : Hp} {Q : VK}
variable {m : Nat}
local macro_rules | `(tactic| walk_at "gn") => `(tactic| simp only [gName, List.set_cons_zero, List.set_cons_succ])

local macro_rules | `(tactic| walk_at "rd") => `(tactic| simp (config := { failIfUnchanged := false, maxSteps := 10000000 }) only [L2.start, cxOf_K, nox_K, List.map_cons, List.map_nil, List.length_cons, List.length_nil, List.cons_append, List.nil_append, List.replicate_succ, List.replicate_zero, Nat.zero_add, Nat.reduceAdd, Nat.reduceSub, Nat.sub_self, tSeq, tIfS, tTest, tOp, tC, tVar, rI0, rI, rU, tUn, tRet, tRetN, tDrop, tNext, tBreak, tCont, tAsg, gName, gNil, gCons, tCons, tNil, tCB, tCall, tTry, tTryAs, tRaise, sFld, tFld, tMake, tMeth, Ends.gone, caught_K, tB, tAnd, tOr, tNot, tAndV, tOrV, tNotV, tIf, tChain, tNoPart, tPart, tSl, tNever, tAug, rIxL, rIxT, rSlL, tLst, tTup, gTup, tRev, tLZ, tConT, tDict0, tDNewT, tDGet, sDPut, rNotInD, rInD, tEither, tSlStep, rBits, rFind, rIn, tBM, tBM0, rAppend, rReverse, rEq, rNe, scal_ii, scal_ss, rCat, rSetL, gSub, ipI, capSt, List.getD_cons_zero, List.getD_cons_succ, decide_true, not_true_eq_false, not_false_eq_true,
  exists_eq_left', exists_eq_left, exists_eq', exists_eq, exists_and_left, and_assoc, Option.some.injEq, V.int.injEq, V.bl.injEq, V.ref.injEq, V.str.injEq, List.getElem?_cons_zero, List.getElem?_cons_succ, List.set_cons_zero, List.set_cons_succ, List.cons.injEq, and_true, true_and, List.append_nil, decide_eq_true_eq, Bool.not_eq_true', decide_eq_false_iff_not, Bool.not_not, Bool.not_true, Bool.not_false, Bool.true_eq_false, Bool.false_eq_true, if_true, if_false, ite_true, ite_false])

/-- the counts of lists as a table -/
def mcl (span : Nat) : Nat → List Int
  | 0 => [1]
  | k + 1 => mcl span k ++ [((List.range (k + 1)).map fun j => wc span j * (mcl span k).getD (k - j) 0).sum]
theorem mcl_len (span : Nat) : ∀ k, (mcl span k).length = k + 1
  | 0 => rfl
  | k + 1 => by rw [mcl, List.length_append, mcl_len span k]; rfl
theorem mcl_at (span : Nat) : ∀ k i, i ≤ k → (mcl span k).getD i 0 = mc span i
  | 0, i, h => by
    have : i = 0 := by omega
    subst this
    rw [mc_zero]; rfl
  | k + 1, i, h => by
    have hl := mcl_len span k
    rw [mcl, List.getD_eq_getElem?_getD]
    by_cases c : i ≤ k
    · rw [List.getElem?_append_left (by omega), ← List.getD_eq_getElem?_getD]
      exact mcl_at span k i c
    · have : i = k + 1 := by omega
      subst this
      rw [List.getElem?_append_right (by omega), hl, Nat.sub_self, mc_succ]
      show List.sum _ = List.sum _
      congr 1
      refine List.map_congr_left fun j hj => ?_
      rw [mcl_at span k (k - j) (by omega)]
theorem mcl_big : ∀ span : Fin 4, (mcl span.1 40).all fun x => decide (x.natAbs < 2 ^ 100) := by decide +kernel
theorem wc_big : ∀ span : Fin 4, (List.range 41).all fun i => decide ((wc span.1 i).natAbs < 2 ^ 100) := by decide +kernel
theorem all_big {span : Nat} (hs : span < 4) : ∀ i ≤ 40, ∀ j ≤ 40, big (wc span i) (mc span j) := fun i hi j hj => ⟨100, by decide, by
  have := List.all_eq_true.mp (wc_big ⟨span, hs⟩) i (List.mem_range.mpr (by omega))
  exact of_decide_eq_true this, by
  have hl := mcl_len span 40
  have h := List.all_eq_true.mp (mcl_big ⟨span, hs⟩) ((mcl span 40)[j]'(by omega)) (List.getElem_mem _)
  rw [← mcl_at span 40 j hj, List.getD_eq_getElem?_getD, List.getElem?_eq_getElem (by omega)]
  exact of_decide_eq_true h⟩
theorem mcl_few : ∀ span : Fin 4, ∀ k : Fin 7, (mcl span.1 6).getD k.1 0 ≤ 40 := by decide +kernel
theorem mc_few {span k : Nat} (hs : span < 4) (hk : k < 7) : mc span k ≤ 40 := by
  rw [← mcl_at span 6 k (by omega)]
  exact mcl_few ⟨span, hs⟩ ⟨k, hk⟩
/-- the state after so many deeds -/
def st (lo more : Int) (zs : List Int) (i : Nat) : Int := (zs.take i).foldl (fun s z => s + z - lo + more) 0
theorem st_zero (lo more : Int) (zs : List Int) : st lo more zs 0 = 0 := rfl
theorem st_succ {lo more : Int} {zs : List Int} {i : Nat} {z : Int} (h : zs[i]? = some z) : st lo more zs (i + 1) = st lo more zs i + z - lo + more := by
  unfold st
  rw [take_snoc h, List.foldl_append]
  rfl
/-- a state reaches the bad one -/
def brk (lo more bad : Int) (zs : List Int) : Bool := (List.range zs.length).any fun i => decide (bad ≤ st lo more zs (i + 1))
theorem brk_yes {lo more bad : Int} {zs : List Int} {i : Nat} (hi : i < zs.length) (h : bad ≤ st lo more zs (i + 1)) : brk lo more bad zs = true :=
  List.any_eq_true.mpr ⟨i, List.mem_range.mpr hi, decide_eq_true h⟩
theorem brk_no {lo more bad : Int} {zs : List Int} (h : ∀ i, i < zs.length → ¬ bad ≤ st lo more zs (i + 1)) : brk lo more bad zs = false := by
  refine List.any_eq_false.mpr fun i hi => ?_
  rw [decide_eq_true_eq]
  exact h i (List.mem_range.mp hi)
theorem st_bd {lo more : Int} {span : Nat} {zs : List Int} (hm0 : 0 ≤ more) (hm : more ≤ 2) (hs : span < 4) (hz : ∀ z ∈ zs, lo ≤ z ∧ z ≤ lo + span) : ∀ i, i ≤ zs.length → 0 ≤ st lo more zs i ∧ st lo more zs i ≤ 5 * i
  | 0, _ => by rw [st_zero]; omega
  | i + 1, h => by
    have e : zs[i]? = some (zs[i]'(by omega)) := List.getElem?_eq_getElem _
    have b := hz _ (List.mem_of_getElem? e)
    have ih := st_bd (lo := lo) (more := more) hm0 hm hs hz i (by omega)
    rw [st_succ e]
    omega
end KW
set_option maxHeartbeats 8000000
namespace KW
open PySem L2

variable {g : Gx}
variable {src : List (Option Nat)} {te : TE} {σ : St} {H : Hp} {Q : VK}
variable {m : Nat}
local macro_rules | `(tactic| walk_at "gn") => `(tactic| simp only [gName, List.set_cons_zero, List.set_cons_succ])

local macro_rules | `(tactic| walk_at "rd") => `(tactic| simp (config := { failIfUnchanged := false, maxSteps := 10000000 }) only [L2.start, cxOf_K, nox_K, List.map_cons, List.map_nil, List.length_cons, List.length_nil, List.cons_append, List.nil_append, List.replicate_succ, List.replicate_zero, Nat.zero_add, Nat.reduceAdd, Nat.reduceSub, Nat.sub_self, tSeq, tIfS, tTest, tOp, tC, tVar, rI0, rI, rU, tUn, tRet, tRetN, tDrop, tNext, tBreak, tCont, tAsg, gName, gNil, gCons, tCons, tNil, tCB, tCall, tTry, tTryAs, tRaise, sFld, tFld, tMake, tMeth, Ends.gone, caught_K, tB, tAnd, tOr, tNot, tAndV, tOrV, tNotV, tIf, tChain, tNoPart, tPart, tSl, tNever, tAug, rIxL, rIxT, rSlL, tLst, tTup, gTup, tRev, tLZ, tConT, tDict0, tDNewT, tDGet, sDPut, rNotInD, rInD, tEither, tSlStep, rBits, rFind, rIn, tBM, tBM0, rAppend, rReverse, rEq, rNe, scal_ii, scal_ss, rCat, rSetL, gSub, ipI, capSt, List.getD_cons_zero, List.getD_cons_succ, decide_true, not_true_eq_false, not_false_eq_true,
  exists_eq_left', exists_eq_left, exists_eq', exists_eq, exists_and_left, and_assoc, Option.some.injEq, V.int.injEq, V.bl.injEq, V.ref.injEq, V.str.injEq, List.getElem?_cons_zero, List.getElem?_cons_succ, List.set_cons_zero, List.set_cons_succ, List.cons.injEq, and_true, true_and, List.append_nil, decide_eq_true_eq, Bool.not_eq_true', decide_eq_false_iff_not, Bool.not_not, Bool.not_true, Bool.not_false, Bool.true_eq_false, Bool.false_eq_true, if_true, if_false, ite_true, ite_false])

variable {m : Nat}
def sp_copied (m : Nat) : Sp := fun vs H Q _ => ∃ v, vs = [v] ∧ ((∃ i : Int, v = .int i ∧ 1 ≤ m ∧ Q (.int i) H) ∨ ∃ (a : Addr) (zs : List Int), v = .ref a ∧ H a = some (.lst (zs.map V.int)) ∧ zs.length ≤ 1000 ∧ 2 ≤ m ∧ ∀ D H', Same H H' → H D = none → H' D = some (.lst (zs.map V.int)) → Q (.ref D) H')
theorem no_copied {vs : List V} {H : Hp} {Q : VK} {E : XK} (h : sp_copied 0 vs H Q E) : False := by
  obtain ⟨v, _, ⟨i, _, h, _⟩ | ⟨a, zs, _, _, _, h, _⟩⟩ := h <;> omega
theorem ok_copied {k : Nat} {C_Found : Addr} {C_Lister : Addr} {C_ManyMaker : Addr} {C_WholeMaker : Addr} {c_deed_judge P_deed_judge : Addr} {c_law_thing P_law_thing : Addr} (R : g.Raw "copied" "copied" s_copied ["thing"]) (F_copied : g.Fn k "copied" ["thing"] (sp_copied m)) (b_dict : g.mg "dict" = none) (b_isinstance : g.mg "isinstance" = none) (b_list : g.mg "list" = none) (b_tuple : g.mg "tuple" = none) : g.Fn (k + 1) "copied" ["thing"] (sp_copied (m + 1)) := by
  refine R.fn sc_copied (fun vs H Q E h => by obtain ⟨v, rfl, h⟩ := h; rfl) fun f_ cdv A outer s H vs Q E hr h => ?_
  obtain ⟨v, rfl, h⟩ := h
  refine ⟨_, (@pss_cons _ _ _ _ _ (@ps_if _ _ _ _ _ _ _ _ (@pt_val _ _ _ (@pe_bf _ _ _ _ _ _ _ _ _ _ b_isinstance call_isinst (@pa_cons _ _ _ _ _ (@pv _ 0 _ _ (by rfl) (by first | exact Or.inl rfl | exact Or.inr (Or.inl rfl) | exact Or.inr (Or.inr rfl)) (by decide) (by decide)) (@pa_cons _ _ _ _ _ (@pe_bn _ _ _ _ ("list") b_list (by decide +kernel) (by rfl) (by rfl) (by decide) (by decide)) pa_nil (by rfl)) (by rfl)) (by decide +kernel) (by rfl) (by rfl) (by decide) (by decide) (by rfl) (by rfl)) (by intro _; rfl)) (@pss_one _ _ _ (@ps_ret _ _ _ _ (@pe_lc _ _ _ _ _ _ _ ([none]) ((["each"] : List Str)) _ (gName 0) _ _ (.own .nil) rfl (@pi_list _ _ _ _ (@pv _ 0 _ _ (by rfl) (by first | exact Or.inl rfl | exact Or.inr (Or.inl rfl) | exact Or.inr (Or.inr rfl)) (by decide) (by decide))) (fun cl C s₀ H₀ fp pn => (@pg_name _ _ (0) _ (show List.Nodup (["each"] : List Str) by decide +kernel) rfl (Or.inl rfl) (Or.inr rfl))) (fun cl C s₀ H₀ fp pn => pts_nil) (fun cl C s₀ H₀ fp pn => (@pe_fn _ _ _ _ _ _ _ _ _ _ _ _ F_copied hr (@pa_cons _ _ _ _ _ (@pv _ 0 _ _ (by rfl) (by first | exact Or.inl rfl | exact Or.inr (Or.inl rfl) | exact Or.inr (Or.inr rfl)) (by decide) (by decide)) pa_nil (by rfl)) (by omega) (by rfl) (by rfl) (by decide) (by rfl) (by rfl))) (by intro x hx; simp at hx) (by rfl) (by decide) (by decide +kernel) (by intro _; rfl)))) pss_nil) (@pss_cons _ _ _ _ _ (@ps_if _ _ _ _ _ _ _ _ (@pt_val _ _ _ (@pe_bf _ _ _ _ _ _ _ _ _ _ b_isinstance call_isinst (@pa_cons _ _ _ _ _ (@pv _ 0 _ _ (by rfl) (by first | exact Or.inl rfl | exact Or.inr (Or.inl rfl) | exact Or.inr (Or.inr rfl)) (by decide) (by decide)) (@pa_cons _ _ _ _ _ (@pe_bn _ _ _ _ ("tuple") b_tuple (by decide +kernel) (by rfl) (by rfl) (by decide) (by decide)) pa_nil (by rfl)) (by rfl)) (by decide +kernel) (by rfl) (by rfl) (by decide) (by decide) (by rfl) (by rfl)) (by intro _; rfl)) (@pss_one _ _ _ ps_never) pss_nil) (@pss_cons _ _ _ _ _ (@ps_if _ _ _ _ _ _ _ _ (@pt_val _ _ _ (@pe_bf _ _ _ _ _ _ _ _ _ _ b_isinstance call_isinst (@pa_cons _ _ _ _ _ (@pv _ 0 _ _ (by rfl) (by first | exact Or.inl rfl | exact Or.inr (Or.inl rfl) | exact Or.inr (Or.inr rfl)) (by decide) (by decide)) (@pa_cons _ _ _ _ _ (@pe_bn _ _ _ _ ("dict") b_dict (by decide +kernel) (by rfl) (by rfl) (by decide) (by decide)) pa_nil (by rfl)) (by rfl)) (by decide +kernel) (by rfl) (by rfl) (by decide) (by decide) (by rfl) (by rfl)) (by intro _; rfl)) (@pss_one _ _ _ ps_never) pss_nil) (@pss_one _ _ _ (@ps_ret _ _ _ _ (@pv _ 0 _ _ (by rfl) (by first | exact Or.inl rfl | exact Or.inr (Or.inl rfl) | exact Or.inr (Or.inr rfl)) (by decide) (by decide))))))), ?_⟩
  rcases h with ⟨i, rfl, _, q⟩ | ⟨a, zs, rfl, ha, hl, hm, q⟩
  · walk_at "rd"
    exact ⟨_, rfl, _, .int i, false, rfl, iteN (by decide) ⟨_, rfl, _, .int i, false, rfl, iteN (by decide) ⟨_, rfl, _, .int i, false, rfl, iteN (by decide) q⟩⟩⟩
  · walk_at "rd"
    refine ⟨_, rfl, _, .lst ha, true, rfl, iteY rfl ?_⟩
    refine tLC_list (K := g.K) (a := a) (xs := zs.map V.int) (zs.map V.int) (fun R r => by walk_at "rd"; exact r) (SqL.of ha) rfl (by rw [List.length_map]; omega) ?_ (fun D H' hD sm hd => q D H' sm hD hd)
    intro i x y H' hx hy sm R r
    rw [hx] at hy
    cases hy
    rw [List.getElem?_map] at hx
    obtain ⟨z, hz, rfl⟩ := Option.map_eq_some_iff.mp hx
    walk_at "rd"
    exact ⟨_, rfl, .inl ⟨z, rfl, by omega, r _ (.refl _)⟩⟩
def sp_isW : Sp := fun vs H Q _ => ∃ i : Int, vs = [.int i] ∧ Q (.bl true) H
theorem ok_is_whole_number {C_Found : Addr} {C_Lister : Addr} {C_ManyMaker : Addr} {C_WholeMaker : Addr} {c_deed_judge P_deed_judge : Addr} {c_law_thing P_law_thing : Addr} (R : g.Raw "is_whole_number" "is_whole_number" s_is_whole_number ["thing"]) (b_bool : g.mg "bool" = none) (b_int : g.mg "int" = none) (b_isinstance : g.mg "isinstance" = none) : g.Fn (1) "is_whole_number" ["thing"] (sp_isW) := by
  refine R.fn sc_is_whole_number (fun vs H Q E h => by obtain ⟨i, rfl, q⟩ := h; rfl) fun f_ cdv A outer s H vs Q E hr h => ?_
  obtain ⟨i, rfl, q⟩ := h
  refine ⟨_, (@pss_one _ _ _ (@ps_ret _ _ _ _ (@pe_and _ _ _ _ _ _ _ (@pe_bf _ _ _ _ _ _ _ _ _ _ b_isinstance call_isinst (@pa_cons _ _ _ _ _ (@pv _ 0 _ _ (by rfl) (by first | exact Or.inl rfl | exact Or.inr (Or.inl rfl) | exact Or.inr (Or.inr rfl)) (by decide) (by decide)) (@pa_cons _ _ _ _ _ (@pe_bn _ _ _ _ ("int") b_int (by decide +kernel) (by rfl) (by rfl) (by decide) (by decide)) pa_nil (by rfl)) (by rfl)) (by decide +kernel) (by rfl) (by rfl) (by decide) (by decide) (by rfl) (by rfl)) (@pe_one _ _ _ _ _ (@pe_not _ _ _ _ (@pe_bf _ _ _ _ _ _ _ _ _ _ b_isinstance call_isinst (@pa_cons _ _ _ _ _ (@pv _ 0 _ _ (by rfl) (by first | exact Or.inl rfl | exact Or.inr (Or.inl rfl) | exact Or.inr (Or.inr rfl)) (by decide) (by decide)) (@pa_cons _ _ _ _ _ (@pe_bn _ _ _ _ ("bool") b_bool (by decide +kernel) (by rfl) (by rfl) (by decide) (by decide)) pa_nil (by rfl)) (by rfl)) (by decide +kernel) (by rfl) (by rfl) (by decide) (by decide) (by rfl) (by rfl))))))), ?_⟩
  walk_at "rd"
  exact ⟨_, rfl, _, .int i, true, rfl, iteT ⟨_, rfl, _, .int i, false, rfl, q⟩⟩
def sp_isT : Sp := fun vs H Q _ => ∃ i : Int, vs = [.int i] ∧ Q (.bl false) H
theorem ok_is_truth {C_Found : Addr} {C_Lister : Addr} {C_ManyMaker : Addr} {C_WholeMaker : Addr} {c_deed_judge P_deed_judge : Addr} {c_law_thing P_law_thing : Addr} (R : g.Raw "is_truth" "is_truth" s_is_truth ["thing"]) (b_bool : g.mg "bool" = none) (b_isinstance : g.mg "isinstance" = none) : g.Fn (1) "is_truth" ["thing"] (sp_isT) := by
  refine R.fn sc_is_truth (fun vs H Q E h => by obtain ⟨i, rfl, q⟩ := h; rfl) fun f_ cdv A outer s H vs Q E hr h => ?_
  obtain ⟨i, rfl, q⟩ := h
  refine ⟨_, (@pss_one _ _ _ (@ps_ret _ _ _ _ (@pe_bf _ _ _ _ _ _ _ _ _ _ b_isinstance call_isinst (@pa_cons _ _ _ _ _ (@pv _ 0 _ _ (by rfl) (by first | exact Or.inl rfl | exact Or.inr (Or.inl rfl) | exact Or.inr (Or.inr rfl)) (by decide) (by decide)) (@pa_cons _ _ _ _ _ (@pe_bn _ _ _ _ ("bool") b_bool (by decide +kernel) (by rfl) (by rfl) (by decide) (by decide)) pa_nil (by rfl)) (by rfl)) (by decide +kernel) (by rfl) (by rfl) (by decide) (by decide) (by rfl) (by rfl)))), ?_⟩
  walk_at "rd"
  exact ⟨_, rfl, _, .int i, false, rfl, q⟩
def sp_same : Sp := fun vs H Q _ => ∃ i j : Int, vs = [.int i, .int j] ∧ Q (.bl (decide (i = j))) H
theorem ok_same {k : Nat} {C_Found : Addr} {C_Lister : Addr} {C_ManyMaker : Addr} {C_WholeMaker : Addr} {c_deed_judge P_deed_judge : Addr} {c_law_thing P_law_thing : Addr} (R : g.Raw "same" "same" s_same ["one", "other"]) (F_is_whole_number : g.Fn k "is_whole_number" ["thing"] (sp_isW)) (F_is_truth : g.Fn k "is_truth" ["thing"] (sp_isT)) : g.Fn (k + 1) "same" ["one", "other"] (sp_same) := by
  refine R.fn sc_same (fun vs H Q E h => by obtain ⟨i, j, rfl, q⟩ := h; rfl) fun f_ cdv A outer s H vs Q E hr h => ?_
  obtain ⟨i, j, rfl, q⟩ := h
  refine ⟨_, (@pss_cons _ _ _ _ _ (@ps_if _ _ _ _ _ _ _ _ (@pt_val _ _ _ (@pe_fn _ _ _ _ _ _ _ _ _ _ _ _ F_is_truth hr (@pa_cons _ _ _ _ _ (@pv _ 0 _ _ (by rfl) (by first | exact Or.inl rfl | exact Or.inr (Or.inl rfl) | exact Or.inr (Or.inr rfl)) (by decide) (by decide)) pa_nil (by rfl)) (by omega) (by rfl) (by rfl) (by decide) (by rfl) (by rfl)) (by intro _; rfl)) (@pss_one _ _ _ ps_never) pss_nil) (@pss_cons _ _ _ _ _ (@ps_if _ _ _ _ _ _ _ _ (@pt_val _ _ _ (@pe_fn _ _ _ _ _ _ _ _ _ _ _ _ F_is_whole_number hr (@pa_cons _ _ _ _ _ (@pv _ 0 _ _ (by rfl) (by first | exact Or.inl rfl | exact Or.inr (Or.inl rfl) | exact Or.inr (Or.inr rfl)) (by decide) (by decide)) pa_nil (by rfl)) (by omega) (by rfl) (by rfl) (by decide) (by rfl) (by rfl)) (by intro _; rfl)) (@pss_one _ _ _ (@ps_ret _ _ _ _ (@pe_and _ _ _ _ _ _ _ (@pe_fn _ _ _ _ _ _ _ _ _ _ _ _ F_is_whole_number hr (@pa_cons _ _ _ _ _ (@pv _ 1 _ _ (by rfl) (by first | exact Or.inl rfl | exact Or.inr (Or.inl rfl) | exact Or.inr (Or.inr rfl)) (by decide) (by decide)) pa_nil (by rfl)) (by omega) (by rfl) (by rfl) (by decide) (by rfl) (by rfl)) (@pe_one _ _ _ _ _ (@pe_cmpR _ _ _ _ _ _ _ _ op_eq (@pv _ 0 _ _ (by rfl) (by first | exact Or.inl rfl | exact Or.inr (Or.inl rfl) | exact Or.inr (Or.inr rfl)) (by decide) (by decide)) (@pv _ 1 _ _ (by rfl) (by first | exact Or.inl rfl | exact Or.inr (Or.inl rfl) | exact Or.inr (Or.inr rfl)) (by decide) (by decide)) (nomark _)))))) pss_nil) (@pss_cons _ _ _ _ _ ps_never (@pss_cons _ _ _ _ _ ps_never (@pss_cons _ _ _ _ _ ps_never (@pss_one _ _ _ ps_never)))))), ?_⟩
  walk_at "rd"
  refine ⟨i, rfl, _, rfl, iteN (by decide) ⟨i, rfl, _, rfl, iteY rfl ⟨j, rfl, _, rfl, iteY rfl q⟩⟩⟩
end KW
set_option maxHeartbeats 8000000
namespace KW
open PySem L2

variable {g : Gx}
variable {src : List (Option Nat)} {te : TE} {σ : St} {H : Hp} {Q : VK}
variable {m : Nat}
local macro_rules | `(tactic| walk_at "gn") => `(tactic| simp only [gName, List.set_cons_zero, List.set_cons_succ])

local macro_rules | `(tactic| walk_at "rd") => `(tactic| simp (config := { failIfUnchanged := false, maxSteps := 10000000 }) only [L2.start, cxOf_K, nox_K, List.map_cons, List.map_nil, List.length_cons, List.length_nil, List.cons_append, List.nil_append, List.replicate_succ, List.replicate_zero, Nat.zero_add, Nat.reduceAdd, Nat.reduceSub, Nat.sub_self, tSeq, tIfS, tTest, tOp, tC, tVar, rI0, rI, rU, tUn, tRet, tRetN, tDrop, tNext, tBreak, tCont, tAsg, gName, gNil, gCons, tCons, tNil, tCB, tCall, tTry, tTryAs, tRaise, sFld, tFld, tMake, tMeth, Ends.gone, caught_K, tB, tAnd, tOr, tNot, tAndV, tOrV, tNotV, tIf, tChain, tNoPart, tPart, tSl, tNever, tAug, rIxL, rIxT, rSlL, tLst, tTup, gTup, tRev, tLZ, tConT, tDict0, tDNewT, tDGet, sDPut, rNotInD, rInD, tEither, tSlStep, rBits, rFind, rIn, tBM, tBM0, rAppend, rReverse, rEq, rNe, scal_ii, scal_ss, rCat, rSetL, gSub, ipI, capSt, List.getD_cons_zero, List.getD_cons_succ, decide_true, not_true_eq_false, not_false_eq_true,
  exists_eq_left', exists_eq_left, exists_eq', exists_eq, exists_and_left, and_assoc, Option.some.injEq, V.int.injEq, V.bl.injEq, V.ref.injEq, V.str.injEq, List.getElem?_cons_zero, List.getElem?_cons_succ, List.set_cons_zero, List.set_cons_succ, List.cons.injEq, and_true, true_and, List.append_nil, decide_eq_true_eq, Bool.not_eq_true', decide_eq_false_iff_not, Bool.not_not, Bool.not_true, Bool.not_false, Bool.true_eq_false, Bool.false_eq_true, if_true, if_false, ite_true, ite_false])

/-- tuples, functions, codes and cells stay -/
def NL (H H' : Hp) : Prop := (∀ b xs, H b = some (.tup xs) → H' b = some (.tup xs)) ∧ ∀ b φ, H b = some (.ext φ) → H' b = some (.ext φ)
theorem NL.refl (H : Hp) : NL H H := ⟨fun _ _ e => e, fun _ _ e => e⟩
theorem NL.trans {H H1 H2 : Hp} (a : NL H H1) (b : NL H1 H2) : NL H H2 := ⟨fun c o e => b.1 c o (a.1 c o e), fun c o e => b.2 c o (a.2 c o e)⟩
theorem nl_of {H H' : Hp} (s : Same H H') : NL H H' := ⟨fun b o e => s b _ e, fun b o e => s b _ e⟩
theorem nl_but {H H' : Hp} {P : Addr} {ps : Array Value} (hk : ∀ a o, a ≠ P → H a = some o → H' a = some o) (hP : H P = some (.tbl ps)) : NL H H' :=
  ⟨fun c o e => hk c _ (ne_of e hP (by intro z; cases z)) e, fun c o e => hk c _ (ne_of e hP (by intro z; cases z)) e⟩
theorem cl_nl {H H' : Hp} {f c : Addr} {fd : FuncData} {q : Str} {l : Caps} (h : ClIn H f c fd q l) (n : NL H H') : ClIn H' f c fd q l :=
  ⟨n.2 _ _ h.1, n.2 _ _ h.2.1, fun p hp => n.2 _ _ (h.2.2 p hp)⟩
/-- a thing's state -/
def StD (H : Hp) (a : Addr) (s : Int) : Prop := H a = some (.dK [(.inr "sum", .int s)])
abbrev Okf (g : Gx) (j : Nat) (f : Addr) (fd : FuncData) (ps : List Str) (sp : Sp) : Prop := FnOk g.P g.w g.K g.mg g.base CX0 j f fd ps sp ∧ ∀ us : List Value, us.length = ps.length → bindArgs fd ⟨us, []⟩ = pure (ps.zip us)
/-- a call that begins -/
def BegOk (g : Gx) (H : Hp) (b : Addr) : Prop := ∃ fd sp, Okf g 8 b fd [] sp ∧ H b = some (FnO b fd) ∧
  ∀ H1 Q, NL H H1 → (∀ a H2, Same H1 H2 → H1 a = none → StD H2 a 0 → Q (.ref a) H2) → H1 b = some (FnO b fd) ∧ sp [] H1 Q E0
/-- what a thing answers -/
def an (many bad s : Int) : Int := s % many + (if bad ≤ s then 1 else 0)
/-- a call that does a deed -/
def DoneOk (g : Gx) (H : Hp) (f : Addr) (lo more many bad : Int) : Prop := ∃ fd sp, Okf g 8 f fd ["_law_state", "_law_deed"] sp ∧ H f = some (FnO f fd) ∧
  ∀ (H1 : Hp) (a : Addr) (s z : Int) (Q : VK), NL H H1 → StD H1 a s →
    (∀ t H', H1 t = none → H' t = some (.tup [.ref a, .int (an many bad (s + z - lo + more))]) → StD H' a (s + z - lo + more) → (∀ b o, b ≠ a → H1 b = some o → H' b = some o) → Q (.ref t) H') →
    H1 f = some (FnO f fd) ∧ sp [.ref a, .int z] H1 Q E0
theorem BegOk.nl {g : Gx} {H H' : Hp} {b : Addr} (h : BegOk g H b) (n : NL H H') : BegOk g H' b := by
  obtain ⟨fd, sp, h1, h2, h3⟩ := h
  exact ⟨fd, sp, h1, n.2 _ _ h2, fun H1 Q n1 => h3 H1 Q (n.trans n1)⟩
theorem DoneOk.nl {g : Gx} {H H' : Hp} {f : Addr} {lo more many bad : Int} (h : DoneOk g H f lo more many bad) (n : NL H H') : DoneOk g H' f lo more many bad := by
  obtain ⟨fd, sp, h1, h2, h3⟩ := h
  exact ⟨fd, sp, h1, n.2 _ _ h2, fun H1 a s z Q n1 => h3 H1 a s z Q (n.trans n1)⟩
def sp_apart (g : Gx) : Sp := fun vs H Q _ => ∃ (b1 f1 b2 f2 D : Addr) (lo more many bad : Int) (zs : List Int), vs = [.ref b1, .ref f1, .ref b2, .ref f2, .ref D] ∧ BegOk g H b1 ∧ DoneOk g H f1 lo more many 1000000 ∧ BegOk g H b2 ∧ DoneOk g H f2 lo more many bad ∧
  H D = some (.lst (zs.map V.int)) ∧ zs.length ≤ 1000 ∧ (∀ i, i ≤ zs.length → st lo more zs i < 1000000) ∧ ∀ v H', Same H H' → ((v = .non ∧ brk lo more bad zs = false) ∨ ((∃ i : Int, v = .int i) ∧ brk lo more bad zs = true)) → Q v H'
theorem ok_apart {k : Nat} {C_Found : Addr} {C_Lister : Addr} {C_ManyMaker : Addr} {C_WholeMaker : Addr} {c_deed_judge P_deed_judge : Addr} {c_law_thing P_law_thing : Addr} (R : g.Raw "apart" "apart" s_apart ["begin", "done", "model_begin", "model_done", "deeds"]) (F_copied : g.Fn k "copied" ["thing"] (sp_copied 2)) (F_same : g.Fn k "same" ["one", "other"] (sp_same)) (hkc : 8 ≤ k) (b_enumerate : g.mg "enumerate" = none) : g.Fn (k + 1) "apart" ["begin", "done", "model_begin", "model_done", "deeds"] (sp_apart g) := by
  refine R.fn sc_apart (fun vs H Q E h => by obtain ⟨b1, f1, b2, f2, D, lo, more, many, bad, zs, rfl, hb1, hf1, hb2, hf2, hD, hl, hst, q⟩ := h; rfl) fun f_ cdv A outer s H vs Q E hr h => ?_
  obtain ⟨b1, f1, b2, f2, D, lo, more, many, bad, zs, rfl, hb1, hf1, hb2, hf2, hD, hl, hst, q⟩ := h
  refine ⟨_, (@pss_cons _ _ _ _ _ (@ps_set _ _ (5) _ _ _ _ sc_apart.nd rfl (Or.inl rfl) (@pe_callC0 _ (g) _ (8) _ _ _ 0 hr (by omega) (by rfl) (by rfl) (by first | exact Or.inl rfl | exact Or.inr (Or.inl rfl) | exact Or.inr (Or.inr rfl)) (by decide) (by decide)) (by rfl) (by first | exact .inl rfl | exact .inr rfl | assumption)) (@pss_cons _ _ _ _ _ (@ps_set _ _ (6) _ _ _ _ sc_apart.nd rfl (Or.inl rfl) (@pe_callC0 _ (g) _ (8) _ _ _ 2 hr (by omega) (by rfl) (by rfl) (by first | exact Or.inl rfl | exact Or.inr (Or.inl rfl) | exact Or.inr (Or.inr rfl)) (by decide) (by decide)) (by rfl) (by first | exact .inl rfl | exact .inr rfl | assumption)) (@pss_cons _ _ _ _ _ (@ps_for _ _ _ _ _ _ _ _ PassesOwn.never rfl (@pi_enumL _ _ _ _ _ _ _ _ rfl b_enumerate (@pa_cons _ _ _ _ _ (@pv _ 4 _ _ (by rfl) (by first | exact Or.inl rfl | exact Or.inr (Or.inl rfl) | exact Or.inr (Or.inr rfl)) (by decide) (by decide)) pa_nil (by rfl)) (by rfl)) (@pg_tup _ _ _ _ _ (2) rfl (@pgs_cons _ _ _ _ _ (@pg_name _ _ (7) _ sc_apart.nd rfl (Or.inl rfl) (by first | exact .inl rfl | exact .inr rfl | assumption)) (@pgs_cons _ _ _ _ _ (@pg_name _ _ (8) _ sc_apart.nd rfl (Or.inl rfl) (by first | exact .inl rfl | exact .inr rfl | assumption)) pgs_nil (by rfl)) (by rfl)) (by rfl) (by rfl)) (@pss_cons _ _ _ _ _ (@ps_set _ _ (9) _ _ _ _ sc_apart.nd rfl (Or.inl rfl) (@pe_callC _ (g) _ (8) _ _ _ _ _ _ 1 hr (@pa_cons _ _ _ _ _ (@pv _ 5 _ _ (by rfl) (by first | exact Or.inl rfl | exact Or.inr (Or.inl rfl) | exact Or.inr (Or.inr rfl)) (by decide) (by decide)) (@pa_cons _ _ _ _ _ (@pe_fn _ _ _ _ _ _ _ _ _ _ _ _ F_copied hr (@pa_cons _ _ _ _ _ (@pv _ 8 _ _ (by rfl) (by first | exact Or.inl rfl | exact Or.inr (Or.inl rfl) | exact Or.inr (Or.inr rfl)) (by decide) (by decide)) pa_nil (by rfl)) (by omega) (by rfl) (by rfl) (by decide) (by rfl) (by rfl)) pa_nil (by rfl)) (by rfl)) (by omega) (by rfl) (by rfl) (by first | exact Or.inl rfl | exact Or.inr (Or.inl rfl) | exact Or.inr (Or.inr rfl)) (by decide) (by decide) (by rfl) (by rfl)) (by rfl) (by first | exact .inl rfl | exact .inr rfl | assumption)) (@pss_cons _ _ _ _ _ (@ps_set _ _ (10) _ _ _ _ sc_apart.nd rfl (Or.inl rfl) (@pe_callC _ (g) _ (8) _ _ _ _ _ _ 3 hr (@pa_cons _ _ _ _ _ (@pv _ 6 _ _ (by rfl) (by first | exact Or.inl rfl | exact Or.inr (Or.inl rfl) | exact Or.inr (Or.inr rfl)) (by decide) (by decide)) (@pa_cons _ _ _ _ _ (@pe_fn _ _ _ _ _ _ _ _ _ _ _ _ F_copied hr (@pa_cons _ _ _ _ _ (@pv _ 8 _ _ (by rfl) (by first | exact Or.inl rfl | exact Or.inr (Or.inl rfl) | exact Or.inr (Or.inr rfl)) (by decide) (by decide)) pa_nil (by rfl)) (by omega) (by rfl) (by rfl) (by decide) (by rfl) (by rfl)) pa_nil (by rfl)) (by rfl)) (by omega) (by rfl) (by rfl) (by first | exact Or.inl rfl | exact Or.inr (Or.inl rfl) | exact Or.inr (Or.inr rfl)) (by decide) (by decide) (by rfl) (by rfl)) (by rfl) (by first | exact .inl rfl | exact .inr rfl | assumption)) (@pss_cons _ _ _ _ _ (@ps_if _ _ _ _ _ _ _ _ (@pt_not _ _ _ _ (@pt_val _ _ _ (@pe_fn _ _ _ _ _ _ _ _ _ _ _ _ F_same hr (@pa_cons _ _ _ _ _ (@pe_ix _ _ _ _ _ _ _ ix_tup (@pv _ 9 _ _ (by rfl) (by first | exact Or.inl rfl | exact Or.inr (Or.inl rfl) | exact Or.inr (Or.inr rfl)) (by decide) (by decide)) pe_int (fun _ _ => rfl)) (@pa_cons _ _ _ _ _ (@pe_ix _ _ _ _ _ _ _ ix_tup (@pv _ 10 _ _ (by rfl) (by first | exact Or.inl rfl | exact Or.inr (Or.inl rfl) | exact Or.inr (Or.inr rfl)) (by decide) (by decide)) pe_int (fun _ _ => rfl)) pa_nil (by rfl)) (by rfl)) (by omega) (by rfl) (by rfl) (by decide) (by rfl) (by rfl)) (by intro _; rfl))) (@pss_one _ _ _ (@ps_ret _ _ _ _ (@pv _ 7 _ _ (by rfl) (by first | exact Or.inl rfl | exact Or.inr (Or.inl rfl) | exact Or.inr (Or.inr rfl)) (by decide) (by decide)))) pss_nil) (@pss_cons _ _ _ _ _ (@ps_set _ _ (5) _ _ _ _ sc_apart.nd rfl (Or.inl rfl) (@pe_ix _ _ _ _ _ _ _ ix_tup (@pv _ 9 _ _ (by rfl) (by first | exact Or.inl rfl | exact Or.inr (Or.inl rfl) | exact Or.inr (Or.inr rfl)) (by decide) (by decide)) pe_int (fun _ _ => rfl)) (by rfl) (by first | exact .inl rfl | exact .inr rfl | assumption)) (@pss_one _ _ _ (@ps_set _ _ (6) _ _ _ _ sc_apart.nd rfl (Or.inl rfl) (@pe_ix _ _ _ _ _ _ _ ix_tup (@pv _ 10 _ _ (by rfl) (by first | exact Or.inl rfl | exact Or.inr (Or.inl rfl) | exact Or.inr (Or.inr rfl)) (by decide) (by decide)) pe_int (fun _ _ => rfl)) (by rfl) (by first | exact .inl rfl | exact .inr rfl | assumption))))))) (by intro _; rfl)) (@pss_one _ _ _ (@ps_ret _ _ _ _ pe_non))))), ?_⟩
  walk_at "rd"
  obtain ⟨fb1, sb1, okb1, hb1f, hb1c⟩ := hb1
  obtain ⟨fb2, sb2, okb2, hb2f, hb2c⟩ := hb2
  refine ⟨b1, fb1, [], sb1, rfl, okb1.1, okb1.2, hb1f, hb1c H _ (.refl _) fun v1 H1 w1 n1 st1 => ?_⟩
  refine ⟨b2, fb2, [], sb2, rfl, okb2.1, okb2.2, w1 _ _ hb2f, hb2c _ _ (nl_of w1) fun v2 H2 w2 n2' st2 => ?_⟩
  have n2 := w1.free n2'
  have n12 : v1 ≠ v2 := ne_of_none st1 n2'
  have w12 := w1.trans w2
  have st1' : StD H2 v1 0 := w2 _ _ st1
  have hul : (zs.map V.int).length = zs.length := List.length_map ..
  refine tFor_enumL (K := g.K) (a := D) (xs := zs.map V.int) (fun i σ H' => ∃ o7 o8 o9 o10, σ = [some (.ref b1), some (.ref f1), some (.ref b2), some (.ref f2), some (.ref D), some (.ref v1), some (.ref v2), o7, o8, o9, o10] ∧ Same H H' ∧ StD H' v1 (st lo more zs i) ∧ StD H' v2 (st lo more zs i) ∧ ∀ (j : Nat), j < i → ¬ bad ≤ st lo more zs (j + 1)) (fun R r => by walk_at "rd"; exact r) ⟨_, _, _, _, rfl, w12, st1', st2, fun j hj => by omega⟩ (fun i σ H' _ ⟨_, _, _, _, _, h, _⟩ => SqL.of (h _ _ hD)) ?_ ?_
  · rintro i x σ H' T hx ⟨o7, o8, o9, o10, rfl, s0, g1, g2, hall⟩ hT
    rw [List.getElem?_map] at hx
    obtain ⟨z, hz, rfl⟩ := Option.map_eq_some_iff.mp hx
    have hi := (List.getElem?_eq_some_iff.mp hz).1
    have sT := Same.upd_new hT (.tup [.int (i : Int), .int z])
    have sA := s0.trans sT
    obtain ⟨fd1, sp1, ok1, hf1f, hf1c⟩ := hf1.nl (nl_of sA)
    walk_at "rd"
    refine ⟨_, SqT.of upd_same, rfl, _, _, rfl, _, _, rfl, rfl, f1, fd1, _, sp1, rfl, ok1.1, ok1.2, hf1f, ?_⟩
    walk_at "rd"
    refine ⟨_, rfl, .inl ⟨z, rfl, by omega, ?_⟩⟩
    refine hf1c _ v1 _ z _ (.refl _) (sT _ _ g1) fun t1 H4 t1f t1v t1s t1k => ?_
    rw [← st_succ hz] at t1v t1s
    have sC : Same H H4 := fun b o e => t1k b o (ne_of_none e n1) (sA _ _ e)
    have g2' : StD H4 v2 _ := t1k _ _ (Ne.symm n12) (sT _ _ g2)
    obtain ⟨fd2, sp2, ok2, hf2f, hf2c⟩ := hf2.nl (nl_of sC)
    refine ⟨f2, fd2, _, sp2, rfl, ok2.1, ok2.2, hf2f, ?_⟩
    walk_at "rd"
    refine ⟨_, rfl, .inl ⟨z, rfl, by omega, ?_⟩⟩
    refine hf2c _ v2 _ z _ (.refl _) g2' fun t2 H6 t2f t2v t2s t2k => ?_
    rw [← st_succ hz] at t2v t2s
    have sD : Same H H6 := fun b o e => t2k b o (ne_of_none e n2) (sC _ _ e)
    have h21 : H6 t1 = _ := t2k t1 _ (ne_of t1v g2' (by intro z; cases z)) t1v
    have t1s' : StD H6 v1 _ := t2k _ _ n12 t1s
    have big := hst (i + 1) hi
    refine ⟨_, SqT.of h21, _, rfl, _, rfl, _, SqT.of t2v, _, rfl, _, _, rfl, _, rfl, ?_⟩
    have ea : decide (an many 1000000 (st lo more zs (i + 1)) = an many bad (st lo more zs (i + 1))) = decide (¬ bad ≤ st lo more zs (i + 1)) := by
      unfold an
      rw [if_neg (by omega)]
      by_cases c : bad ≤ st lo more zs (i + 1)
      · rw [if_pos c, decide_eq_false (by omega), decide_eq_false (by omega)]
      · rw [if_neg c, decide_eq_true rfl, decide_eq_true c]
    rw [ea]
    by_cases c : bad ≤ st lo more zs (i + 1)
    · refine iteY (by simpa using c) ?_
      exact q _ _ sD (.inr ⟨⟨_, rfl⟩, brk_yes hi c⟩)
    · refine iteN (by simpa using c) ?_
      refine ⟨_, SqT.of h21, _, rfl, _, rfl, _, SqT.of t2v, _, rfl, rfl, rfl, sD, t1s', t2s, fun j hj => ?_⟩
      rcases Nat.lt_succ_iff_lt_or_eq.mp hj with c' | rfl
      · exact hall j c'
      · exact c
  · rintro σ H' ⟨o7, o8, o9, o10, rfl, s0, g1, g2, hall⟩
    rw [hul] at hall
    walk_at "rd"
    exact q _ _ s0 (.inl ⟨rfl, brk_no hall⟩)
end KW
set_option maxHeartbeats 8000000
namespace KW
open PySem L2

variable {g : Gx}
variable {src : List (Option Nat)} {te : TE} {σ : St} {H : Hp} {Q : VK}
variable {m : Nat}
local macro_rules | `(tactic| walk_at "gn") => `(tactic| simp only [gName, List.set_cons_zero, List.set_cons_succ])

local macro_rules | `(tactic| walk_at "rd") => `(tactic| simp (config := { failIfUnchanged := false, maxSteps := 10000000 }) only [L2.start, cxOf_K, nox_K, List.map_cons, List.map_nil, List.length_cons, List.length_nil, List.cons_append, List.nil_append, List.replicate_succ, List.replicate_zero, Nat.zero_add, Nat.reduceAdd, Nat.reduceSub, Nat.sub_self, tSeq, tIfS, tTest, tOp, tC, tVar, rI0, rI, rU, tUn, tRet, tRetN, tDrop, tNext, tBreak, tCont, tAsg, gName, gNil, gCons, tCons, tNil, tCB, tCall, tTry, tTryAs, tRaise, sFld, tFld, tMake, tMeth, Ends.gone, caught_K, tB, tAnd, tOr, tNot, tAndV, tOrV, tNotV, tIf, tChain, tNoPart, tPart, tSl, tNever, tAug, rIxL, rIxT, rSlL, tLst, tTup, gTup, tRev, tLZ, tConT, tDict0, tDNewT, tDGet, sDPut, rNotInD, rInD, tEither, tSlStep, rBits, rFind, rIn, tBM, tBM0, rAppend, rReverse, rEq, rNe, scal_ii, scal_ss, rCat, rSetL, gSub, ipI, capSt, List.getD_cons_zero, List.getD_cons_succ, decide_true, not_true_eq_false, not_false_eq_true,
  exists_eq_left', exists_eq_left, exists_eq', exists_eq, exists_and_left, and_assoc, Option.some.injEq, V.int.injEq, V.bl.injEq, V.ref.injEq, V.str.injEq, List.getElem?_cons_zero, List.getElem?_cons_succ, List.set_cons_zero, List.set_cons_succ, List.cons.injEq, and_true, true_and, List.append_nil, decide_eq_true_eq, Bool.not_eq_true', decide_eq_false_iff_not, Bool.not_not, Bool.not_true, Bool.not_false, Bool.true_eq_false, Bool.false_eq_true, if_true, if_false, ite_true, ite_false])

def sp_begin (fv vs : List V) (H : Hp) (Q : VK) : Prop := fv = [] ∧ vs = [] ∧ ∀ D, H D = none → Q (.ref D) (upd H D (.dK [(.inr "sum", .int 0)]))
theorem ok_law_thing__law_begin {k : Nat} {C_Found : Addr} {C_Lister : Addr} {C_ManyMaker : Addr} {C_WholeMaker : Addr} {f_ c_ : Addr} {doc pm ctv : Value} {l : Caps}  (hl : l.map (·.1) = ([] : List Str)) (hnd : l.as.Nodup) : FnOk g.P g.w g.K g.mg g.base CX0 (k + 1) f_ (fd_law_thing__law_begin l.cl c_ doc pm ctv) [] (fun vs H Q _ => ClIn H f_ c_ (fd_law_thing__law_begin l.cl c_ doc pm ctv) q_law_thing__law_begin l ∧ (sp_begin) l.vs vs (off H l.as) fun v H' => (∀ c ∈ l.as, H' c = none) → Q v (on H' H l.as)) := by
  refine clos_of (N := []) (by rw [hl]; exact sc_law_thing__law_begin) hnd (fun vs H Q h => by obtain ⟨hfv, rfl, q⟩ := h; rfl) fun A outer s H vs Q hr h => ?_
  obtain ⟨hfv, rfl, q⟩ := h
  refine ⟨_, (@pss_one _ _ _ (@ps_ret _ _ _ _ (@pe_disp _ _ _ _ _ (@pps_cons _ _ _ _ _ _ _ _ _ pe_str pe_int pps_nil) rfl rfl (by simp) (by simp)))), ?_⟩
  rw [hfv]
  show (tRet _ : TS) _ [] H
  walk_at "rd"
  unfold tDisp
  intro p hp
  show _ ∧ _
  refine ⟨upd_same, [(.inr "sum", .int 0)], rfl, by decide, ?_⟩
  have e : upd (upd H p (.dK [])) p (.dK (mergeK [] [(.inr "sum", .int 0)])) = upd H p (.dK [(.inr "sum", .int 0)]) := by
    funext z
    by_cases c : z = p
    · subst c; rw [upd_same, upd_same]; rfl
    · rw [upd_ne c, upd_ne c, upd_ne c]
  rw [e]
  exact q p hp
end KW
set_option maxHeartbeats 8000000
namespace KW
open PySem L2

variable {g : Gx}
variable {src : List (Option Nat)} {te : TE} {σ : St} {H : Hp} {Q : VK}
variable {m : Nat}
local macro_rules | `(tactic| walk_at "gn") => `(tactic| simp only [gName, List.set_cons_zero, List.set_cons_succ])

local macro_rules | `(tactic| walk_at "rd") => `(tactic| simp (config := { failIfUnchanged := false, maxSteps := 10000000 }) only [L2.start, cxOf_K, nox_K, List.map_cons, List.map_nil, List.length_cons, List.length_nil, List.cons_append, List.nil_append, List.replicate_succ, List.replicate_zero, Nat.zero_add, Nat.reduceAdd, Nat.reduceSub, Nat.sub_self, tSeq, tIfS, tTest, tOp, tC, tVar, rI0, rI, rU, tUn, tRet, tRetN, tDrop, tNext, tBreak, tCont, tAsg, gName, gNil, gCons, tCons, tNil, tCB, tCall, tTry, tTryAs, tRaise, sFld, tFld, tMake, tMeth, Ends.gone, caught_K, tB, tAnd, tOr, tNot, tAndV, tOrV, tNotV, tIf, tChain, tNoPart, tPart, tSl, tNever, tAug, rIxL, rIxT, rSlL, tLst, tTup, gTup, tRev, tLZ, tConT, tDict0, tDNewT, tDGet, sDPut, rNotInD, rInD, tEither, tSlStep, rBits, rFind, rIn, tBM, tBM0, rAppend, rReverse, rEq, rNe, scal_ii, scal_ss, rCat, rSetL, gSub, ipI, capSt, List.getD_cons_zero, List.getD_cons_succ, decide_true, not_true_eq_false, not_false_eq_true,
  exists_eq_left', exists_eq_left, exists_eq', exists_eq, exists_and_left, and_assoc, Option.some.injEq, V.int.injEq, V.bl.injEq, V.ref.injEq, V.str.injEq, List.getElem?_cons_zero, List.getElem?_cons_succ, List.set_cons_zero, List.set_cons_succ, List.cons.injEq, and_true, true_and, List.append_nil, decide_eq_true_eq, Bool.not_eq_true', decide_eq_false_iff_not, Bool.not_not, Bool.not_true, Bool.not_false, Bool.true_eq_false, Bool.false_eq_true, if_true, if_false, ite_true, ite_false])

theorem std_get {H : Hp} {a : Addr} {s : Int} (h : StD H a s) : DGet H a (.str "sum") (some (.int s)) := by
  have := DGet.k (k := .inr "sum") h
  rw [valV_pos rfl] at this
  exact this
theorem std_put {H : Hp} {a : Addr} {s s' : Int} (h : StD H a s) : DPut H a (.str "sum") (.int s') (upd H a (.dK [(.inr "sum", .int s')])) := by
  have := DPut.k (k := .inr "sum") (v := .int s') h (show 1 < sizeLine by decide)
  have e : putK [((.inr "sum" : Key), V.int s)] (.inr "sum") (.int s') = [(.inr "sum", .int s')] := by simp [putK]
  rw [e] at this
  exact this
def sp_done (fv vs : List V) (H : Hp) (Q : VK) : Prop := ∃ (lo more many bad s z : Int) (a : Addr), fv = [.int more, .int many, .int lo, .int bad] ∧ vs = [.ref a, .int z] ∧ StD H a s ∧ 0 < many ∧ many ≤ 6 ∧
  ∀ t H', H t = none → H' t = some (.tup [.ref a, .int (an many bad (s + z - lo + more))]) → StD H' a (s + z - lo + more) → (∀ b o, b ≠ a → H b = some o → H' b = some o) → Q (.ref t) H'
theorem ok_law_thing__law_done {k : Nat} {C_Found : Addr} {C_Lister : Addr} {C_ManyMaker : Addr} {C_WholeMaker : Addr} {f_ c_ : Addr} {doc pm ctv : Value} {l : Caps} (b_int : g.mg "int" = none) (hl : l.map (·.1) = (["_law_more", "_law_many", "_law_low", "_law_bad"] : List Str)) (hnd : l.as.Nodup) : FnOk g.P g.w g.K g.mg g.base CX0 (k + 1) f_ (fd_law_thing__law_done l.cl c_ doc pm ctv) ["_law_state", "_law_deed"] (fun vs H Q _ => ClIn H f_ c_ (fd_law_thing__law_done l.cl c_ doc pm ctv) q_law_thing__law_done l ∧ (sp_done) l.vs vs (off H l.as) fun v H' => (∀ c ∈ l.as, H' c = none) → Q v (on H' H l.as)) := by
  refine clos_of (N := ["_law_state", "_law_deed", "_law_more", "_law_many", "_law_low", "_law_bad"]) (by rw [hl]; exact sc_law_thing__law_done) hnd (fun vs H Q h => by obtain ⟨lo, more, many, bad, s, z, a, hfv, rfl, hs, hm0, hm6, q⟩ := h; rfl) fun A outer s H vs Q hr h => ?_
  obtain ⟨lo, more, many, bad, s, z, a, hfv, rfl, hs, hm0, hm6, q⟩ := h
  have hu := hu_of hr
  refine ⟨_, (@pss_cons _ _ _ _ _ (@ps_dput _ _ _ _ _ _ _ _ _ (hu_of hr) (@pv _ 0 _ _ (by rfl) (by first | exact Or.inl rfl | exact Or.inr (Or.inl rfl) | exact Or.inr (Or.inr rfl)) (by decide) (by decide)) pe_str (@pe_op _ _ _ _ _ _ _ _ op_add (@pe_op _ _ _ _ _ _ _ _ op_sub (@pe_op _ _ _ _ _ _ _ _ op_add (@pe_dget _ _ _ _ _ _ (hu_of hr) (@pv _ 0 _ _ (by rfl) (by first | exact Or.inl rfl | exact Or.inr (Or.inl rfl) | exact Or.inr (Or.inr rfl)) (by decide) (by decide)) pe_str (fun _ _ => rfl)) (@pv _ 1 _ _ (by rfl) (by first | exact Or.inl rfl | exact Or.inr (Or.inl rfl) | exact Or.inr (Or.inr rfl)) (by decide) (by decide))) (@pv _ 4 _ _ (by rfl) (by first | exact Or.inl rfl | exact Or.inr (Or.inl rfl) | exact Or.inr (Or.inr rfl)) (by decide) (by decide))) (@pv _ 2 _ _ (by rfl) (by first | exact Or.inl rfl | exact Or.inr (Or.inl rfl) | exact Or.inr (Or.inr rfl)) (by decide) (by decide))) rfl) (@pss_one _ _ _ (@ps_ret _ _ _ _ (@pe_tup _ _ _ _ _ (@pa_cons _ _ _ _ _ (@pv _ 0 _ _ (by rfl) (by first | exact Or.inl rfl | exact Or.inr (Or.inl rfl) | exact Or.inr (Or.inr rfl)) (by decide) (by decide)) (@pa_cons _ _ _ _ _ (@pe_op _ _ _ _ _ _ _ _ op_add (@pe_op _ _ _ _ _ _ _ _ op_mod (@pe_dget _ _ _ _ _ _ (hu_of hr) (@pv _ 0 _ _ (by rfl) (by first | exact Or.inl rfl | exact Or.inr (Or.inl rfl) | exact Or.inr (Or.inr rfl)) (by decide) (by decide)) pe_str (fun _ _ => rfl)) (@pv _ 3 _ _ (by rfl) (by first | exact Or.inl rfl | exact Or.inr (Or.inl rfl) | exact Or.inr (Or.inr rfl)) (by decide) (by decide))) (@pe_bt _ _ _ _ _ _ _ _ _ _ b_int call_int1 (@pa_cons _ _ _ _ _ (@pe_cmpR _ _ _ _ _ _ _ _ op_ge (@pe_dget _ _ _ _ _ _ (hu_of hr) (@pv _ 0 _ _ (by rfl) (by first | exact Or.inl rfl | exact Or.inr (Or.inl rfl) | exact Or.inr (Or.inr rfl)) (by decide) (by decide)) pe_str (fun _ _ => rfl)) (@pv _ 5 _ _ (by rfl) (by first | exact Or.inl rfl | exact Or.inr (Or.inl rfl) | exact Or.inr (Or.inr rfl)) (by decide) (by decide)) (nomark _)) pa_nil (by rfl)) (by decide +kernel) (by rfl) (by rfl) (by decide) (by decide) (by rfl) (by rfl))) pa_nil (by rfl)) (by rfl)))))), ?_⟩
  rw [hfv]
  show (_ : TS) _ [some (.ref a), some (.int z), some (.int more), some (.int many), some (.int lo), some (.int bad)] H
  walk_at "rd"
  have hs' : StD (upd H a (.dK [(.inr "sum", .int (s + z - lo + more))])) a (s + z - lo + more) := upd_same
  refine ⟨_, std_get hs, s, rfl, _, std_put hs, _, std_get hs', _, rfl, hm0, _, std_get hs', _, rfl, .inr ⟨few (by decide), fun t ht => ?_⟩⟩
  have ta : t ≠ a := Ne.symm (ne_of_none hs' ht)
  have sT := Same.upd_new ht (.tup [.ref a, .int ((s + z - lo + more) % many + if bad ≤ s + z - lo + more then 1 else 0)])
  exact q t _ (by rw [upd_ne ta] at ht; exact ht) upd_same (sT _ _ hs') fun b o hb e => sT _ _ (by rw [upd_ne hb]; exact e)
end KW
set_option maxHeartbeats 8000000
namespace KW
open PySem L2

variable {g : Gx}
variable {src : List (Option Nat)} {te : TE} {σ : St} {H : Hp} {Q : VK}
variable {m : Nat}
local macro_rules | `(tactic| walk_at "gn") => `(tactic| simp only [gName, List.set_cons_zero, List.set_cons_succ])

local macro_rules | `(tactic| walk_at "rd") => `(tactic| simp (config := { failIfUnchanged := false, maxSteps := 10000000 }) only [L2.start, cxOf_K, nox_K, List.map_cons, List.map_nil, List.length_cons, List.length_nil, List.cons_append, List.nil_append, List.replicate_succ, List.replicate_zero, Nat.zero_add, Nat.reduceAdd, Nat.reduceSub, Nat.sub_self, tSeq, tIfS, tTest, tOp, tC, tVar, rI0, rI, rU, tUn, tRet, tRetN, tDrop, tNext, tBreak, tCont, tAsg, gName, gNil, gCons, tCons, tNil, tCB, tCall, tTry, tTryAs, tRaise, sFld, tFld, tMake, tMeth, Ends.gone, caught_K, tB, tAnd, tOr, tNot, tAndV, tOrV, tNotV, tIf, tChain, tNoPart, tPart, tSl, tNever, tAug, rIxL, rIxT, rSlL, tLst, tTup, gTup, tRev, tLZ, tConT, tDict0, tDNewT, tDGet, sDPut, rNotInD, rInD, tEither, tSlStep, rBits, rFind, rIn, tBM, tBM0, rAppend, rReverse, rEq, rNe, scal_ii, scal_ss, rCat, rSetL, gSub, ipI, capSt, List.getD_cons_zero, List.getD_cons_succ, decide_true, not_true_eq_false, not_false_eq_true,
  exists_eq_left', exists_eq_left, exists_eq', exists_eq, exists_and_left, and_assoc, Option.some.injEq, V.int.injEq, V.bl.injEq, V.ref.injEq, V.str.injEq, List.getElem?_cons_zero, List.getElem?_cons_succ, List.set_cons_zero, List.set_cons_succ, List.cons.injEq, and_true, true_and, List.append_nil, decide_eq_true_eq, Bool.not_eq_true', decide_eq_false_iff_not, Bool.not_not, Bool.not_true, Bool.not_false, Bool.true_eq_false, Bool.false_eq_true, if_true, if_false, ite_true, ite_false])

def sp_judge (g : Gx) (fv vs : List V) (H : Hp) (Q : VK) : Prop := ∃ (b1 f1 b2 f2 D : Addr) (lo more many bad : Int) (zs : List Int), fv = [.ref f2, .ref b2, .ref f1, .ref b1] ∧ vs = [.ref D] ∧ BegOk g H b1 ∧ DoneOk g H f1 lo more many 1000000 ∧ BegOk g H b2 ∧ DoneOk g H f2 lo more many bad ∧
  H D = some (.lst (zs.map V.int)) ∧ zs.length ≤ 1000 ∧ (∀ i, i ≤ zs.length → st lo more zs i < 1000000) ∧ ∀ H', Same H H' → Q (.bl (!brk lo more bad zs)) H'
theorem ok_deed_judge_lam {k : Nat} {C_Found : Addr} {C_Lister : Addr} {C_ManyMaker : Addr} {C_WholeMaker : Addr} {f_ c_ : Addr} {pm ctv : Value} {l : Caps} (F_apart : g.Fn k "apart" ["begin", "done", "model_begin", "model_done", "deeds"] (sp_apart g)) (hl : l.map (·.1) = (["model_done", "model_begin", "done", "begin"] : List Str)) (hnd : l.as.Nodup) : FnOk g.P g.w g.K g.mg g.base CX0 (k + 1) f_ (fd_deed_judge_lam l.cl c_ pm ctv) ["deeds"] (fun vs H Q _ => ClIn H f_ c_ (fd_deed_judge_lam l.cl c_ pm ctv) q_deed_judge_lam l ∧ (sp_judge g) l.vs vs (off H l.as) fun v H' => (∀ c ∈ l.as, H' c = none) → Q v (on H' H l.as)) := by
  refine lam_of (N := ["deeds", "model_done", "model_begin", "done", "begin"]) (by rw [hl]; exact sc_deed_judge_lam) hnd (fun vs H Q h => by obtain ⟨b1, f1, b2, f2, D, lo, more, many, bad, zs, hfv, rfl, hb1, hf1, hb2, hf2, hD, hl, hst, q⟩ := h; rfl) fun A outer s H vs Q hr h => ?_
  obtain ⟨b1, f1, b2, f2, D, lo, more, many, bad, zs, hfv, rfl, hb1, hf1, hb2, hf2, hD, hl, hst, q⟩ := h
  refine ⟨_, (@pe_cmpR _ _ _ _ _ _ _ _ op_isN (@pe_fn _ _ _ _ _ _ _ _ _ _ _ _ F_apart hr (@pa_cons _ _ _ _ _ (@pv _ 4 _ _ (by rfl) (by first | exact Or.inl rfl | exact Or.inr (Or.inl rfl) | exact Or.inr (Or.inr rfl)) (by decide) (by decide)) (@pa_cons _ _ _ _ _ (@pv _ 3 _ _ (by rfl) (by first | exact Or.inl rfl | exact Or.inr (Or.inl rfl) | exact Or.inr (Or.inr rfl)) (by decide) (by decide)) (@pa_cons _ _ _ _ _ (@pv _ 2 _ _ (by rfl) (by first | exact Or.inl rfl | exact Or.inr (Or.inl rfl) | exact Or.inr (Or.inr rfl)) (by decide) (by decide)) (@pa_cons _ _ _ _ _ (@pv _ 1 _ _ (by rfl) (by first | exact Or.inl rfl | exact Or.inr (Or.inl rfl) | exact Or.inr (Or.inr rfl)) (by decide) (by decide)) (@pa_cons _ _ _ _ _ (@pv _ 0 _ _ (by rfl) (by first | exact Or.inl rfl | exact Or.inr (Or.inl rfl) | exact Or.inr (Or.inr rfl)) (by decide) (by decide)) pa_nil (by rfl)) (by rfl)) (by rfl)) (by rfl)) (by rfl)) (by omega) (by rfl) (by rfl) (by decide) (by rfl) (by rfl)) pe_non (nomark _)), ?_⟩
  rw [hfv]
  show (_ : TE) [some (.ref D), some (.ref f2), some (.ref b2), some (.ref f1), some (.ref b1)] H _
  walk_at "rd"
  refine ⟨b1, f1, b2, f2, D, lo, more, many, bad, zs, rfl, hb1, hf1, hb2, hf2, hD, hl, hst, fun v H' s hv => ?_⟩
  have := q H' s
  rcases hv with ⟨rfl, e⟩ | ⟨⟨i, rfl⟩, e⟩
  · rw [e] at this; exact this
  · rw [e] at this; exact this
end KW
set_option maxHeartbeats 8000000
namespace KW
open PySem L2

variable {g : Gx}
variable {src : List (Option Nat)} {te : TE} {σ : St} {H : Hp} {Q : VK}
variable {m : Nat}
local macro_rules | `(tactic| walk_at "gn") => `(tactic| simp only [gName, List.set_cons_zero, List.set_cons_succ])

local macro_rules | `(tactic| walk_at "rd") => `(tactic| simp (config := { failIfUnchanged := false, maxSteps := 10000000 }) only [L2.start, cxOf_K, nox_K, List.map_cons, List.map_nil, List.length_cons, List.length_nil, List.cons_append, List.nil_append, List.replicate_succ, List.replicate_zero, Nat.zero_add, Nat.reduceAdd, Nat.reduceSub, Nat.sub_self, tSeq, tIfS, tTest, tOp, tC, tVar, rI0, rI, rU, tUn, tRet, tRetN, tDrop, tNext, tBreak, tCont, tAsg, gName, gNil, gCons, tCons, tNil, tCB, tCall, tTry, tTryAs, tRaise, sFld, tFld, tMake, tMeth, Ends.gone, caught_K, tB, tAnd, tOr, tNot, tAndV, tOrV, tNotV, tIf, tChain, tNoPart, tPart, tSl, tNever, tAug, rIxL, rIxT, rSlL, tLst, tTup, gTup, tRev, tLZ, tConT, tDict0, tDNewT, tDGet, sDPut, rNotInD, rInD, tEither, tSlStep, rBits, rFind, rIn, tBM, tBM0, rAppend, rReverse, rEq, rNe, scal_ii, scal_ss, rCat, rSetL, gSub, ipI, capSt, List.getD_cons_zero, List.getD_cons_succ, decide_true, not_true_eq_false, not_false_eq_true,
  exists_eq_left', exists_eq_left, exists_eq', exists_eq, exists_and_left, and_assoc, Option.some.injEq, V.int.injEq, V.bl.injEq, V.ref.injEq, V.str.injEq, List.getElem?_cons_zero, List.getElem?_cons_succ, List.set_cons_zero, List.set_cons_succ, List.cons.injEq, and_true, true_and, List.append_nil, decide_eq_true_eq, Bool.not_eq_true', decide_eq_false_iff_not, Bool.not_not, Bool.not_true, Bool.not_false, Bool.true_eq_false, Bool.false_eq_true, if_true, if_false, ite_true, ite_false])

/-- a call that judges a row of deeds -/
def JudgeOk (g : Gx) (H : Hp) (f : Addr) (lo more bad : Int) : Prop := ∃ fd sp, Okf g 16 f fd ["deeds"] sp ∧ H f = some (FnO f fd) ∧
  ∀ (H1 : Hp) (D : Addr) (zs : List Int) (Q : VK), NL H H1 → H1 D = some (.lst (zs.map V.int)) → zs.length ≤ 1000 → (∀ i, i ≤ zs.length → st lo more zs i < 1000000) → (∀ H', Same H1 H' → Q (.bl (!brk lo more bad zs)) H') → H1 f = some (FnO f fd) ∧ sp [.ref D] H1 Q E0
theorem JudgeOk.nl {g : Gx} {H H' : Hp} {f : Addr} {lo more bad : Int} (h : JudgeOk g H f lo more bad) (n : NL H H') : JudgeOk g H' f lo more bad := by
  obtain ⟨fd, sp, h1, h2, h3⟩ := h
  exact ⟨fd, sp, h1, n.2 _ _ h2, fun H1 D zs Q n1 => h3 H1 D zs Q (n.trans n1)⟩
theorem beg_thing {g : Gx} {H : Hp} {b c : Addr} {doc pm ctv : Value} (h : ClIn H b c (fd_law_thing__law_begin [] c doc pm ctv) q_law_thing__law_begin []) : BegOk g H b := by
  have F := ok_law_thing__law_begin (g := g) (C_Found := 0) (C_Lister := 0) (C_ManyMaker := 0) (C_WholeMaker := 0) (k := 7) (f_ := b) (c_ := c) (doc := doc) (pm := pm) (ctv := ctv) (l := []) rfl (by simp [Caps.as])
  refine ⟨_, _, ⟨F, fun us hl => ?_⟩, h.1, fun H1 Q n1 hq => ⟨(cl_nl h n1).1, cl_nl h n1, rfl, rfl, fun D hD hc => ?_⟩⟩
  · match us, hl with
    | [], _ => rfl
  · have e1 : off H1 (Caps.as []) = H1 := by funext z; exact off_out (by simp [Caps.as])
    have e2 : ∀ H' : Hp, on H' H1 (Caps.as []) = H' := fun H' => by funext z; exact on_out (by simp [Caps.as])
    rw [e1] at hD
    rw [e2, e1]
    exact hq D _ (.upd_new hD _) hD upd_same
abbrev ClT (x1 x2 x3 x4 : Addr) (lo more many bad : Int) : Caps := [("_law_more", x2, .int more), ("_law_many", x3, .int many), ("_law_low", x1, .int lo), ("_law_bad", x4, .int bad)]
theorem done_thing {g : Gx} {H : Hp} {f c x1 x2 x3 x4 : Addr} {lo more many bad : Int} {doc pm ctv : Value} (bn : g.mg "int" = none) (nd : (ClT x1 x2 x3 x4 lo more many bad).as.Nodup) (hm0 : 0 < many) (hm6 : many ≤ 6)
    (h : ClIn H f c (fd_law_thing__law_done (ClT x1 x2 x3 x4 lo more many bad).cl c doc pm ctv) q_law_thing__law_done (ClT x1 x2 x3 x4 lo more many bad)) : DoneOk g H f lo more many bad := by
  have F := ok_law_thing__law_done (g := g) (C_Found := 0) (C_Lister := 0) (C_ManyMaker := 0) (C_WholeMaker := 0) (k := 7) (f_ := f) (c_ := c) (doc := doc) (pm := pm) (ctv := ctv) (l := ClT x1 x2 x3 x4 lo more many bad) bn rfl nd
  refine ⟨_, _, ⟨F, fun us hl => ?_⟩, h.1, fun H1 a s z Q n1 hst hq => ?_⟩
  · match us, hl with
    | [_, _], _ => rfl
  · have hin := (cl_nl h n1).2.2
    refine ⟨(cl_nl h n1).1, cl_nl h n1, lo, more, many, bad, s, z, a, rfl, rfl, off_get hin hst (by intro φ z; cases z), hm0, hm6, fun t H' h1 h2 h3 h4 hc => ?_⟩
    have out : ∀ {b : Addr} {o : HO}, H' b = some o → b ∉ (ClT x1 x2 x3 x4 lo more many bad).as := fun e hm => by rw [hc _ hm] at e; cases e
    refine hq t _ (by rw [off_out (out h2)] at h1; exact h1) (by rw [on_out (out h2)]; exact h2) ?_ fun b o b1 e => ?_
    · show on H' H1 _ a = _
      rw [on_out (out h3)]; exact h3
    · by_cases hb : b ∈ (ClT x1 x2 x3 x4 lo more many bad).as
      · rw [on_in hb]; exact e
      · rw [on_out hb]; exact h4 b o b1 (by rw [off_out hb]; exact e)
abbrev Cl4 (x1 x2 x3 x4 b1 f1 b2 f2 : Addr) : Caps := [("model_done", x4, .ref f2), ("model_begin", x3, .ref b2), ("done", x2, .ref f1), ("begin", x1, .ref b1)]
theorem judge_ok {g : Gx} {H0 H : Hp} {f c x1 x2 x3 x4 b1 f1 b2 f2 : Addr} {lo more many bad : Int} {pm ctv : Value} (F0 : g.Fn 15 "apart" ["begin", "done", "model_begin", "model_done", "deeds"] (sp_apart g)) (nd : (Cl4 x1 x2 x3 x4 b1 f1 b2 f2).as.Nodup)
    (h : ClIn H f c (fd_deed_judge_lam (Cl4 x1 x2 x3 x4 b1 f1 b2 f2).cl c pm ctv) q_deed_judge_lam (Cl4 x1 x2 x3 x4 b1 f1 b2 f2)) (hb1 : BegOk g H0 b1) (hf1 : DoneOk g H0 f1 lo more many 1000000) (hb2 : BegOk g H0 b2) (hf2 : DoneOk g H0 f2 lo more many bad) (n0 : NL H0 H) (hc0 : ∀ a ∈ (Cl4 x1 x2 x3 x4 b1 f1 b2 f2).as, H0 a = none) : JudgeOk g H f lo more bad := by
  have F := ok_deed_judge_lam (g := g) (C_Found := 0) (C_Lister := 0) (C_ManyMaker := 0) (C_WholeMaker := 0) (k := 15) (f_ := f) (c_ := c) (pm := pm) (ctv := ctv) (l := Cl4 x1 x2 x3 x4 b1 f1 b2 f2) F0 rfl nd
  refine ⟨_, _, ⟨F, fun us hl => ?_⟩, h.1, fun H1 D zs Q n1 hD hl hst hq => ?_⟩
  · match us, hl with
    | [_], _ => rfl
  · have hin := (cl_nl h n1).2.2
    have nn : NL H0 (off H1 (Cl4 x1 x2 x3 x4 b1 f1 b2 f2).as) := by
      refine ⟨fun b xs e => ?_, fun b φ e => ?_⟩
      · rw [off_out fun hm => by rw [hc0 b hm] at e; cases e]
        exact (n0.trans n1).1 _ _ e
      · rw [off_out fun hm => by rw [hc0 b hm] at e; cases e]
        exact (n0.trans n1).2 _ _ e
    refine ⟨(cl_nl h n1).1, cl_nl h n1, b1, f1, b2, f2, D, lo, more, many, bad, zs, rfl, rfl, hb1.nl nn, hf1.nl nn, hb2.nl nn, hf2.nl nn, off_get hin hD (by intro φ z; cases z), hl, hst, fun H' s hc => hq _ fun b u e => ?_⟩
    by_cases hb : b ∈ (Cl4 x1 x2 x3 x4 b1 f1 b2 f2).as
    · rw [on_in hb]; exact e
    · rw [on_out hb]; exact s _ _ (by rw [off_out hb]; exact e)
end KW
set_option maxHeartbeats 8000000
namespace KW
open PySem L2

variable {g : Gx}
variable {src : List (Option Nat)} {te : TE} {σ : St} {H : Hp} {Q : VK}
variable {m : Nat}
local macro_rules | `(tactic| walk_at "gn") => `(tactic| simp only [gName, List.set_cons_zero, List.set_cons_succ])

local macro_rules | `(tactic| walk_at "rd") => `(tactic| simp (config := { failIfUnchanged := false, maxSteps := 10000000 }) only [L2.start, cxOf_K, nox_K, List.map_cons, List.map_nil, List.length_cons, List.length_nil, List.cons_append, List.nil_append, List.replicate_succ, List.replicate_zero, Nat.zero_add, Nat.reduceAdd, Nat.reduceSub, Nat.sub_self, tSeq, tIfS, tTest, tOp, tC, tVar, rI0, rI, rU, tUn, tRet, tRetN, tDrop, tNext, tBreak, tCont, tAsg, gName, gNil, gCons, tCons, tNil, tCB, tCall, tTry, tTryAs, tRaise, sFld, tFld, tMake, tMeth, Ends.gone, caught_K, tB, tAnd, tOr, tNot, tAndV, tOrV, tNotV, tIf, tChain, tNoPart, tPart, tSl, tNever, tAug, rIxL, rIxT, rSlL, tLst, tTup, gTup, tRev, tLZ, tConT, tDict0, tDNewT, tDGet, sDPut, rNotInD, rInD, tEither, tSlStep, rBits, rFind, rIn, tBM, tBM0, rAppend, rReverse, rEq, rNe, scal_ii, scal_ss, rCat, rSetL, gSub, ipI, capSt, List.getD_cons_zero, List.getD_cons_succ, decide_true, not_true_eq_false, not_false_eq_true,
  exists_eq_left', exists_eq_left, exists_eq', exists_eq, exists_and_left, and_assoc, Option.some.injEq, V.int.injEq, V.bl.injEq, V.ref.injEq, V.str.injEq, List.getElem?_cons_zero, List.getElem?_cons_succ, List.set_cons_zero, List.set_cons_succ, List.cons.injEq, and_true, true_and, List.append_nil, decide_eq_true_eq, Bool.not_eq_true', decide_eq_false_iff_not, Bool.not_not, Bool.not_true, Bool.not_false, Bool.true_eq_false, Bool.false_eq_true, if_true, if_false, ite_true, ite_false])

/-- the tables of the defs that make functions: as they were, or with the codes -/
def TabT (H : Hp) (P : Addr) : Prop := H P = some (.tbl #[]) ∨ ∃ c1 c2, H P = some (.tbl #[rawInt 438, rawInt 4, .ref c1, rawInt 441, rawInt 4, .ref c2]) ∧ H c1 = some (CdO c1 q_law_thing__law_begin) ∧ H c2 = some (CdO c2 q_law_thing__law_done)
theorem TabT.tbl {H : Hp} {P : Addr} (h : TabT H P) : ∃ ps, H P = some (.tbl ps) := by
  rcases h with h | ⟨c1, c2, h, _, _⟩
  · exact ⟨_, h⟩
  · exact ⟨_, h⟩
theorem thing_fin {g : Gx} {H H3 : Hp} {P b f cb cf t x1 x2 x3 x4 : Addr} {lo more many bad : Int} {ps : Array Value} {e1 e2 e3 e4 e5 e6 : Value} (bn : g.mg "int" = none) (nd : (ClT x1 x2 x3 x4 lo more many bad).as.Nodup) (hm0 : 0 < many) (hm6 : many ≤ 6)
    (hT : H P = some (.tbl ps)) (kb : H3 b = some (FnO b (fd_law_thing__law_begin [] cb e1 e2 e3))) (kcb : H3 cb = some (CdO cb q_law_thing__law_begin))
    (kf : H3 f = some (FnO f (fd_law_thing__law_done (ClT x1 x2 x3 x4 lo more many bad).cl cf e4 e5 e6))) (kcf : H3 cf = some (CdO cf q_law_thing__law_done)) (kt : H3 t = some (.tup [.ref b, .ref f]))
    (kT : H3 P = some (.tbl #[rawInt 438, rawInt 4, .ref cb, rawInt 441, rawInt 4, .ref cf])) (keep : ∀ a o, a ≠ P → H a = some o → H3 a = some o) (hc : ∀ c ∈ (ClT x1 x2 x3 x4 lo more many bad).as, H3 c = none) :
    BegOk g (lay H3 (ClT x1 x2 x3 x4 lo more many bad)) b ∧ DoneOk g (lay H3 (ClT x1 x2 x3 x4 lo more many bad)) f lo more many bad ∧ lay H3 (ClT x1 x2 x3 x4 lo more many bad) t = some (.tup [.ref b, .ref f]) ∧ TabT (lay H3 (ClT x1 x2 x3 x4 lo more many bad)) P ∧ ∀ a o, a ≠ P → H a = some o → lay H3 (ClT x1 x2 x3 x4 lo more many bad) a = some o := by
  have hin := lay_in (H := H3) nd
  have out : ∀ {a : Addr} {o : HO}, H3 a = some o → lay H3 (ClT x1 x2 x3 x4 lo more many bad) a = some o := fun {a o} e => by
    rw [lay_out fun hm => ?_]
    · exact e
    · rw [hc a hm] at e; cases e
  exact ⟨beg_thing ⟨out kb, out kcb, fun q hq => by cases hq⟩, done_thing bn nd hm0 hm6 ⟨out kf, out kcf, hin⟩, out kt, .inr ⟨cb, cf, out kT, out kcb, out kcf⟩, fun a o h1 h2 => out (keep a o h1 h2)⟩
def sp_law_thing (g : Gx) (P : Addr) : Sp := fun vs H Q _ => ∃ (lo more many bad : Int), vs = [.int lo, .int more, .int many, .int bad] ∧ 0 < many ∧ many ≤ 6 ∧ TabT H P ∧
  ∀ t b f H', BegOk g H' b → DoneOk g H' f lo more many bad → H' t = some (.tup [.ref b, .ref f]) → TabT H' P → (∀ a o, a ≠ P → H a = some o → H' a = some o) → Q (.ref t) H'
theorem ok_law_thing {C_Found : Addr} {C_Lister : Addr} {C_ManyMaker : Addr} {C_WholeMaker : Addr} {c_deed_judge P_deed_judge : Addr} {c_law_thing P_law_thing : Addr} (R : g.RawT "_law_thing" "_law_thing" s_law_thing ["_law_low", "_law_more", "_law_many", "_law_bad"] c_law_thing) (bm : Bm g.mg g.base) (Cd_law_thing : PySem.W.CodeHd g.base c_law_thing P_law_thing) (b_int : g.mg "int" = none) : g.Fn (1) "_law_thing" ["_law_low", "_law_more", "_law_many", "_law_bad"] (sp_law_thing g P_law_thing) := by
  refine R.fnC sc_law_thing (fun vs H Q E h => by obtain ⟨lo, more, many, bad, rfl, hm0, hm6, ht, q⟩ := h; rfl) fun f_ A outer s H vs Q E hr h => ?_
  obtain ⟨lo, more, many, bad, rfl, hm0, hm6, ht, q⟩ := h
  refine ⟨_, (@pr_cons _ _ _ _ _ (@ps_def _ _ _ _ _ _ _ _ _ _ 4 bm Cd_law_thing rfl rfl sc_law_thing.nd rfl (Or.inl rfl) (Eq.trans rfl qe_law_thing__law_begin) rfl rfl rfl (.inr rfl)) (@pr_cons _ _ _ _ _ (@ps_def _ _ _ _ _ _ _ _ _ _ 5 bm Cd_law_thing rfl rfl sc_law_thing.nd rfl (Or.inl rfl) (Eq.trans rfl qe_law_thing__law_done) rfl rfl rfl (.inr rfl)) (@pr_ret _ _ _ _ (@pe_tup _ _ _ _ _ (@pa_cons _ _ _ _ _ (@pv _ 4 _ _ (by rfl) (by first | exact Or.inl rfl | exact Or.inr (Or.inl rfl) | exact Or.inr (Or.inr rfl)) (by decide) (by decide)) (@pa_cons _ _ _ _ _ (@pv _ 5 _ _ (by rfl) (by first | exact Or.inl rfl | exact Or.inr (Or.inl rfl) | exact Or.inr (Or.inr rfl)) (by decide) (by decide)) pa_nil (by rfl)) (by rfl)))))), ?_⟩
  have nd4 : ∀ n : Nat, (ClT (n + 1) (n + 1 + 1) (n + 1 + 1 + 1) (n + 1 + 1 + 1 + 1) lo more many bad).as.Nodup := fun n => by
    show List.Nodup [n + 1 + 1, n + 1 + 1 + 1, n + 1, n + 1 + 1 + 1 + 1]
    simp
    omega
  rcases ht with ht | ⟨c1, c2, ht, k1, k2⟩
  · refine ⟨_, ht, trivial, .inl ⟨rfl, fun b cb fb g1 g2 g3 ⟨doc1, pm1, ctv1, e1⟩ => ?_⟩⟩
    subst e1
    have bP := ne_of_none ht g1
    have cP := ne_of_none ht g2
    refine ⟨#[rawInt 438, rawInt 4, .ref cb], by rw [upd_ne bP, upd_ne cP, upd_same]; rfl, trivial, .inl ⟨rfl, fun f cf ff g4 g5 g6 ⟨doc2, pm2, ctv2, e2⟩ => ?_⟩⟩
    subst e2
    have fb : f ≠ b := fun z => by rw [z, upd_same] at g4; cases g4
    rw [upd_ne fb] at g4
    have fcb : f ≠ cb := fun z => by rw [z, upd_same] at g4; cases g4
    rw [upd_ne fcb] at g4
    have fP : f ≠ P_law_thing := fun z => by rw [z, upd_same] at g4; cases g4
    rw [upd_ne fP] at g4
    have cfb : cf ≠ b := fun z => by rw [z, upd_same] at g5; cases g5
    rw [upd_ne cfb] at g5
    have cfcb : cf ≠ cb := fun z => by rw [z, upd_same] at g5; cases g5
    rw [upd_ne cfcb] at g5
    have cfP : cf ≠ P_law_thing := fun z => by rw [z, upd_same] at g5; cases g5
    rw [upd_ne cfP] at g5
    refine ⟨_, rfl, _, rfl, few (by simp), fun t g7 => ⟨ClT (s.heap.objs.size + 1) (s.heap.objs.size + 1 + 1) (s.heap.objs.size + 1 + 1 + 1) (s.heap.objs.size + 1 + 1 + 1 + 1) lo more many bad, ⟨nd4 _, fun z hz => ?_⟩, fun hc => ?_⟩⟩
    · simp only [List.mem_cons, List.not_mem_nil, or_false] at hz
      rcases hz with rfl | rfl | rfl | rfl
      · exact ⟨1, rfl, rfl, rfl, rfl⟩
      · exact ⟨2, rfl, rfl, rfl, rfl⟩
      · exact ⟨0, rfl, rfl, rfl, rfl⟩
      · exact ⟨3, rfl, rfl, rfl, rfl⟩
    · have s7 := Same.upd_new g7 (.tup [.ref b, .ref f])
      obtain ⟨r1, r2, r3, r4, r5⟩ := thing_fin (H := H) (b := b) (f := f) (cb := cb) (cf := cf) (t := t) b_int (nd4 _) hm0 hm6 ht (s7 _ _ (by rw [upd_ne (Ne.symm fb), upd_ne (Ne.symm cfb), upd_ne (Ne.symm bP), upd_same]; rfl)) (s7 _ _ (by rw [upd_ne (Ne.symm fcb), upd_ne (Ne.symm cfcb), upd_ne (Ne.symm cP), upd_ne (Ne.symm g3), upd_same])) (s7 _ _ (by rw [upd_same]; rfl)) (s7 _ _ (by rw [upd_ne (Ne.symm g6), upd_same])) upd_same (s7 _ _ (by rw [upd_ne (Ne.symm fP), upd_ne (Ne.symm cfP), upd_same]; rfl)) (fun a o h1 h2 => s7 _ _ (by rw [upd_ne (ne_of_none h2 g4), upd_ne (ne_of_none h2 g5), upd_ne h1, upd_ne (ne_of_none h2 g1), upd_ne (ne_of_none h2 g2), upd_ne h1]; exact h2)) hc
      exact q t b f _ r1 r2 r3 r4 r5
  · refine ⟨_, ht, trivial, .inr ⟨c1, rfl, fun b fb g1 ⟨doc1, pm1, ctv1, e1⟩ => ?_⟩⟩
    subst e1
    have bP := ne_of_none ht g1
    refine ⟨_, (upd_ne bP).trans ht, trivial, .inr ⟨c2, rfl, fun f ff g4 ⟨doc2, pm2, ctv2, e2⟩ => ?_⟩⟩
    subst e2
    have fb : f ≠ b := fun z => by rw [z, upd_same] at g4; cases g4
    rw [upd_ne fb] at g4
    refine ⟨_, rfl, _, rfl, few (by simp), fun t g7 => ⟨ClT (s.heap.objs.size + 1) (s.heap.objs.size + 1 + 1) (s.heap.objs.size + 1 + 1 + 1) (s.heap.objs.size + 1 + 1 + 1 + 1) lo more many bad, ⟨nd4 _, fun z hz => ?_⟩, fun hc => ?_⟩⟩
    · simp only [List.mem_cons, List.not_mem_nil, or_false] at hz
      rcases hz with rfl | rfl | rfl | rfl
      · exact ⟨1, rfl, rfl, rfl, rfl⟩
      · exact ⟨2, rfl, rfl, rfl, rfl⟩
      · exact ⟨0, rfl, rfl, rfl, rfl⟩
      · exact ⟨3, rfl, rfl, rfl, rfl⟩
    · have s7 := Same.upd_new g7 (.tup [.ref b, .ref f])
      have kk : ∀ (z1 z2 : HO) a o, H a = some o → upd (upd H b z1) f z2 a = some o := fun z1 z2 a o h2 => by rw [upd_ne (ne_of_none h2 g4), upd_ne (ne_of_none h2 g1)]; exact h2
      obtain ⟨r1, r2, r3, r4, r5⟩ := thing_fin (H := H) (b := b) (f := f) (cb := c1) (cf := c2) (t := t) b_int (nd4 _) hm0 hm6 ht (s7 _ _ (by rw [upd_ne (Ne.symm fb), upd_same]; rfl)) (s7 _ _ (kk _ _ _ _ k1)) (s7 _ _ (by rw [upd_same]; rfl)) (s7 _ _ (kk _ _ _ _ k2)) upd_same (s7 _ _ (kk _ _ _ _ ht)) (fun a o h1 h2 => s7 _ _ (kk _ _ _ _ h2)) hc
      exact q t b f _ r1 r2 r3 r4 r5
end KW
set_option maxHeartbeats 8000000
namespace KW
open PySem L2

variable {g : Gx}
variable {src : List (Option Nat)} {te : TE} {σ : St} {H : Hp} {Q : VK}
variable {m : Nat}
local macro_rules | `(tactic| walk_at "gn") => `(tactic| simp only [gName, List.set_cons_zero, List.set_cons_succ])

local macro_rules | `(tactic| walk_at "rd") => `(tactic| simp (config := { failIfUnchanged := false, maxSteps := 10000000 }) only [L2.start, cxOf_K, nox_K, List.map_cons, List.map_nil, List.length_cons, List.length_nil, List.cons_append, List.nil_append, List.replicate_succ, List.replicate_zero, Nat.zero_add, Nat.reduceAdd, Nat.reduceSub, Nat.sub_self, tSeq, tIfS, tTest, tOp, tC, tVar, rI0, rI, rU, tUn, tRet, tRetN, tDrop, tNext, tBreak, tCont, tAsg, gName, gNil, gCons, tCons, tNil, tCB, tCall, tTry, tTryAs, tRaise, sFld, tFld, tMake, tMeth, Ends.gone, caught_K, tB, tAnd, tOr, tNot, tAndV, tOrV, tNotV, tIf, tChain, tNoPart, tPart, tSl, tNever, tAug, rIxL, rIxT, rSlL, tLst, tTup, gTup, tRev, tLZ, tConT, tDict0, tDNewT, tDGet, sDPut, rNotInD, rInD, tEither, tSlStep, rBits, rFind, rIn, tBM, tBM0, rAppend, rReverse, rEq, rNe, scal_ii, scal_ss, rCat, rSetL, gSub, ipI, capSt, List.getD_cons_zero, List.getD_cons_succ, decide_true, not_true_eq_false, not_false_eq_true,
  exists_eq_left', exists_eq_left, exists_eq', exists_eq, exists_and_left, and_assoc, Option.some.injEq, V.int.injEq, V.bl.injEq, V.ref.injEq, V.str.injEq, List.getElem?_cons_zero, List.getElem?_cons_succ, List.set_cons_zero, List.set_cons_succ, List.cons.injEq, and_true, true_and, List.append_nil, decide_eq_true_eq, Bool.not_eq_true', decide_eq_false_iff_not, Bool.not_not, Bool.not_true, Bool.not_false, Bool.true_eq_false, Bool.false_eq_true, if_true, if_false, ite_true, ite_false])

def sp_deed_judge (g : Gx) (P : Addr) : Sp := fun vs H Q _ => ∃ (b1 f1 b2 f2 : Addr) (lo more many bad : Int), vs = [.ref b1, .ref f1, .ref b2, .ref f2] ∧ BegOk g H b1 ∧ DoneOk g H f1 lo more many 1000000 ∧ BegOk g H b2 ∧ DoneOk g H f2 lo more many bad ∧ H P = some (.tbl #[]) ∧
  ∀ f H', JudgeOk g H' f lo more bad → (∀ a o, a ≠ P → H a = some o → H' a = some o) → Q (.ref f) H'
theorem judge_fin {g : Gx} {H H3 : Hp} {P f cf x1 x2 x3 x4 b1 f1 b2 f2 : Addr} {lo more many bad : Int} {ps : Array Value} {pm ctv : Value} (F0 : g.Fn 15 "apart" ["begin", "done", "model_begin", "model_done", "deeds"] (sp_apart g)) (nd : (Cl4 x1 x2 x3 x4 b1 f1 b2 f2).as.Nodup)
    (hb1 : BegOk g H b1) (hf1 : DoneOk g H f1 lo more many 1000000) (hb2 : BegOk g H b2) (hf2 : DoneOk g H f2 lo more many bad) (hT : H P = some (.tbl ps)) (kf : H3 f = some (FnO f (fd_deed_judge_lam (Cl4 x1 x2 x3 x4 b1 f1 b2 f2).cl cf pm ctv))) (kcf : H3 cf = some (CdO cf q_deed_judge_lam))
    (kT : H3 P = some (.tbl #[rawInt 83, rawInt 11, .ref cf])) (keep : ∀ a o, a ≠ P → H a = some o → H3 a = some o) (hc : ∀ c ∈ (Cl4 x1 x2 x3 x4 b1 f1 b2 f2).as, H3 c = none) :
    JudgeOk g (lay H3 (Cl4 x1 x2 x3 x4 b1 f1 b2 f2)) f lo more bad ∧ ∀ a o, a ≠ P → H a = some o → lay H3 (Cl4 x1 x2 x3 x4 b1 f1 b2 f2) a = some o := by
  have hin := lay_in (H := H3) nd
  have out : ∀ {a : Addr} {o : HO}, H3 a = some o → lay H3 (Cl4 x1 x2 x3 x4 b1 f1 b2 f2) a = some o := fun {a o} e => by
    rw [lay_out fun hm => ?_]
    · exact e
    · rw [hc a hm] at e; cases e
  have hc0 : ∀ a ∈ (Cl4 x1 x2 x3 x4 b1 f1 b2 f2).as, H a = none := fun a ha => by
    have z := hc a ha
    cases h : H a with
    | none => rfl
    | some o =>
      exfalso
      by_cases c : a = P
      · subst c; rw [kT] at z; cases z
      · rw [keep a o c h] at z; cases z
  have kk : ∀ a o, a ≠ P → H a = some o → lay H3 (Cl4 x1 x2 x3 x4 b1 f1 b2 f2) a = some o := fun a o h1 h2 => out (keep a o h1 h2)
  exact ⟨judge_ok F0 nd ⟨out kf, out kcf, hin⟩ hb1 hf1 hb2 hf2 (nl_but kk hT) hc0, kk⟩
theorem ok_deed_judge {k : Nat} {C_Found : Addr} {C_Lister : Addr} {C_ManyMaker : Addr} {C_WholeMaker : Addr} {c_deed_judge P_deed_judge : Addr} {c_law_thing P_law_thing : Addr} (R : g.RawT "deed_judge" "deed_judge" s_deed_judge ["begin", "done", "model_begin", "model_done"] c_deed_judge) (bm : Bm g.mg g.base) (Cd_deed_judge : PySem.W.CodeHd g.base c_deed_judge P_deed_judge) (F_apart : g.Fn 15 "apart" ["begin", "done", "model_begin", "model_done", "deeds"] (sp_apart g)) : g.Fn (k + 1) "deed_judge" ["begin", "done", "model_begin", "model_done"] (sp_deed_judge g P_deed_judge) := by
  refine R.fnC sc_deed_judge (fun vs H Q E h => by obtain ⟨b1, f1, b2, f2, lo, more, many, bad, rfl, hb1, hf1, hb2, hf2, ht, q⟩ := h; rfl) fun f_ A outer s H vs Q E hr h => ?_
  obtain ⟨b1, f1, b2, f2, lo, more, many, bad, rfl, hb1, hf1, hb2, hf2, ht, q⟩ := h
  refine ⟨_, (@pr_ret _ _ _ _ (@pe_lam _ _ _ _ _ _ _ _ _ bm Cd_deed_judge rfl rfl (Eq.trans rfl qe_deed_judge_lam) rfl)), ?_⟩
  have nd4 : ∀ n : Nat, (Cl4 (n + 1) (n + 1 + 1) (n + 1 + 1 + 1) (n + 1 + 1 + 1 + 1) b1 f1 b2 f2).as.Nodup := fun n => by
    show List.Nodup [n + 1 + 1 + 1 + 1, n + 1 + 1 + 1, n + 1 + 1, n + 1]
    simp
    omega
  refine ⟨_, ht, trivial, .inl ⟨rfl, fun f cf ff g1 g2 g3 ⟨pm, ctv, e⟩ => ⟨Cl4 (s.heap.objs.size + 1) (s.heap.objs.size + 1 + 1) (s.heap.objs.size + 1 + 1 + 1) (s.heap.objs.size + 1 + 1 + 1 + 1) b1 f1 b2 f2, ⟨nd4 _, fun z hz => ?_⟩, fun hc => ?_⟩⟩⟩
  · simp only [List.mem_cons, List.not_mem_nil, or_false] at hz
    rcases hz with rfl | rfl | rfl | rfl
    · exact ⟨3, rfl, rfl, rfl, rfl⟩
    · exact ⟨2, rfl, rfl, rfl, rfl⟩
    · exact ⟨1, rfl, rfl, rfl, rfl⟩
    · exact ⟨0, rfl, rfl, rfl, rfl⟩
  · subst e
    have fP := ne_of_none ht g1
    have cP := ne_of_none ht g2
    obtain ⟨r1, r3⟩ := judge_fin (H := H) (f := f) (cf := cf) F_apart (nd4 _) hb1 hf1 hb2 hf2 ht (by rw [upd_same]; rfl) (by rw [upd_ne (Ne.symm g3), upd_same]) (by rw [upd_ne fP, upd_ne cP, upd_same]; rfl) (fun a o h1 h2 => by rw [upd_ne (ne_of_none h2 g1), upd_ne (ne_of_none h2 g2), upd_ne h1]; exact h2) hc
    exact q f _ r1 r3
end KW
set_option maxHeartbeats 8000000
namespace KW
open PySem L2

variable {g : Gx}
variable {src : List (Option Nat)} {te : TE} {σ : St} {H : Hp} {Q : VK}
variable {m : Nat}
local macro_rules | `(tactic| walk_at "gn") => `(tactic| simp only [gName, List.set_cons_zero, List.set_cons_succ])

local macro_rules | `(tactic| walk_at "rd") => `(tactic| simp (config := { failIfUnchanged := false, maxSteps := 10000000 }) only [L2.start, cxOf_K, nox_K, List.map_cons, List.map_nil, List.length_cons, List.length_nil, List.cons_append, List.nil_append, List.replicate_succ, List.replicate_zero, Nat.zero_add, Nat.reduceAdd, Nat.reduceSub, Nat.sub_self, tSeq, tIfS, tTest, tOp, tC, tVar, rI0, rI, rU, tUn, tRet, tRetN, tDrop, tNext, tBreak, tCont, tAsg, gName, gNil, gCons, tCons, tNil, tCB, tCall, tTry, tTryAs, tRaise, sFld, tFld, tMake, tMeth, Ends.gone, caught_K, tB, tAnd, tOr, tNot, tAndV, tOrV, tNotV, tIf, tChain, tNoPart, tPart, tSl, tNever, tAug, rIxL, rIxT, rSlL, tLst, tTup, gTup, tRev, tLZ, tConT, tDict0, tDNewT, tDGet, sDPut, rNotInD, rInD, tEither, tSlStep, rBits, rFind, rIn, tBM, tBM0, rAppend, rReverse, rEq, rNe, scal_ii, scal_ss, rCat, rSetL, gSub, ipI, capSt, List.getD_cons_zero, List.getD_cons_succ, decide_true, not_true_eq_false, not_false_eq_true,
  exists_eq_left', exists_eq_left, exists_eq', exists_eq, exists_and_left, and_assoc, Option.some.injEq, V.int.injEq, V.bl.injEq, V.ref.injEq, V.str.injEq, List.getElem?_cons_zero, List.getElem?_cons_succ, List.set_cons_zero, List.set_cons_succ, List.cons.injEq, and_true, true_and, List.append_nil, decide_eq_true_eq, Bool.not_eq_true', decide_eq_false_iff_not, Bool.not_not, Bool.not_true, Bool.not_false, Bool.true_eq_false, Bool.false_eq_true, if_true, if_false, ite_true, ite_false])

def Gd (lo more : Int) (zs : List Int) : Prop := zs.length ≤ 1000 ∧ ∀ i, i ≤ zs.length → st lo more zs i < 1000000
def sp_holds (g : Gx) : Sp := fun vs H Q _ => ∃ (f a : Addr) (lo more bad : Int) (zs : List Int), vs = [.ref f, .ref a] ∧ JudgeOk g H f lo more bad ∧ H a = some (.lst (zs.map V.int)) ∧ Gd lo more zs ∧ ∀ H', Same H H' → Q (.bl (!brk lo more bad zs)) H'
theorem ok_holds {k : Nat} {C_Found : Addr} {C_Lister : Addr} {C_ManyMaker : Addr} {C_WholeMaker : Addr} {c_deed_judge P_deed_judge : Addr} {c_law_thing P_law_thing : Addr} (R : g.Raw "holds" "holds" s_holds ["judge", "value"]) (F_copied : g.Fn k "copied" ["thing"] (sp_copied 2)) (hkc : 16 ≤ k) : g.Fn (k + 1) "holds" ["judge", "value"] (sp_holds g) := by
  refine R.fn sc_holds (fun vs H Q E h => by obtain ⟨f, a, lo, more, bad, zs, rfl, ⟨fd1, sp1, ok1, hf1, hf1c⟩, ha, hg, q⟩ := h; rfl) fun f_ cdv A outer s H vs Q E hr h => ?_
  obtain ⟨f, a, lo, more, bad, zs, rfl, ⟨fd1, sp1, ok1, hf1, hf1c⟩, ha, hg, q⟩ := h
  refine ⟨_, (@pss_one _ _ _ (@ps_ret _ _ _ _ (@pe_cmpR _ _ _ _ _ _ _ _ op_isB (@pe_callC _ (g) _ (16) _ _ _ _ _ _ 0 hr (@pa_cons _ _ _ _ _ (@pe_fn _ _ _ _ _ _ _ _ _ _ _ _ F_copied hr (@pa_cons _ _ _ _ _ (@pv _ 1 _ _ (by rfl) (by first | exact Or.inl rfl | exact Or.inr (Or.inl rfl) | exact Or.inr (Or.inr rfl)) (by decide) (by decide)) pa_nil (by rfl)) (by omega) (by rfl) (by rfl) (by decide) (by rfl) (by rfl)) pa_nil (by rfl)) (by omega) (by rfl) (by rfl) (by first | exact Or.inl rfl | exact Or.inr (Or.inl rfl) | exact Or.inr (Or.inr rfl)) (by decide) (by decide) (by rfl) (by rfl)) pe_bl (nomark _)))), ?_⟩
  walk_at "rd"
  refine ⟨f, fd1, _, sp1, rfl, ok1.1, ok1.2, hf1, ?_⟩
  walk_at "rd"
  refine ⟨_, rfl, .inr ⟨a, zs, rfl, ha, hg.1, by decide, fun D H1 s1 hD hd => ?_⟩⟩
  refine hf1c H1 D zs _ (nl_of s1) hd hg.1 hg.2 fun H' s' => ⟨_, rfl, ?_⟩
  have := q H' (s1.trans s')
  cases hb : brk lo more bad zs with
  | true => rw [hb] at this; exact this
  | false => rw [hb] at this; exact this
end KW
set_option maxHeartbeats 8000000
namespace KW
open PySem L2

variable {g : Gx}
variable {src : List (Option Nat)} {te : TE} {σ : St} {H : Hp} {Q : VK}
variable {m : Nat}
local macro_rules | `(tactic| walk_at "gn") => `(tactic| simp only [gName, List.set_cons_zero, List.set_cons_succ])

local macro_rules | `(tactic| walk_at "rd") => `(tactic| simp (config := { failIfUnchanged := false, maxSteps := 10000000 }) only [L2.start, cxOf_K, nox_K, List.map_cons, List.map_nil, List.length_cons, List.length_nil, List.cons_append, List.nil_append, List.replicate_succ, List.replicate_zero, Nat.zero_add, Nat.reduceAdd, Nat.reduceSub, Nat.sub_self, tSeq, tIfS, tTest, tOp, tC, tVar, rI0, rI, rU, tUn, tRet, tRetN, tDrop, tNext, tBreak, tCont, tAsg, gName, gNil, gCons, tCons, tNil, tCB, tCall, tTry, tTryAs, tRaise, sFld, tFld, tMake, tMeth, Ends.gone, caught_K, tB, tAnd, tOr, tNot, tAndV, tOrV, tNotV, tIf, tChain, tNoPart, tPart, tSl, tNever, tAug, rIxL, rIxT, rSlL, tLst, tTup, gTup, tRev, tLZ, tConT, tDict0, tDNewT, tDGet, sDPut, rNotInD, rInD, tEither, tSlStep, rBits, rFind, rIn, tBM, tBM0, rAppend, rReverse, rEq, rNe, scal_ii, scal_ss, rCat, rSetL, gSub, ipI, capSt, List.getD_cons_zero, List.getD_cons_succ, decide_true, not_true_eq_false, not_false_eq_true,
  exists_eq_left', exists_eq_left, exists_eq', exists_eq, exists_and_left, and_assoc, Option.some.injEq, V.int.injEq, V.bl.injEq, V.ref.injEq, V.str.injEq, List.getElem?_cons_zero, List.getElem?_cons_succ, List.set_cons_zero, List.set_cons_succ, List.cons.injEq, and_true, true_and, List.append_nil, decide_eq_true_eq, Bool.not_eq_true', decide_eq_false_iff_not, Bool.not_not, Bool.not_true, Bool.not_false, Bool.true_eq_false, Bool.false_eq_true, if_true, if_false, ite_true, ite_false])

/-- the first place where it fails -/
def IsF (p : Nat → Bool) (n : Nat) : Option Nat → Prop
  | none => ∀ j < n, p j = true
  | some i => i < n ∧ p i = false ∧ ∀ j < i, p j = true
theorem isF_one {p : Nat → Bool} {n : Nat} {o o' : Option Nat} (h : IsF p n o) (h' : IsF p n o') : o = o' := by
  cases o with
  | none =>
    cases o' with
    | none => rfl
    | some j => obtain ⟨h1, h2, _⟩ := h'; rw [h j h1] at h2; cases h2
  | some i =>
    obtain ⟨h1, h2, h3⟩ := h
    cases o' with
    | none => rw [h' i h1] at h2; cases h2
    | some j =>
      obtain ⟨k1, k2, k3⟩ := h'
      rcases Nat.lt_trichotomy i j with c | c | c
      · rw [k3 i c] at h2; cases h2
      · rw [c]
      · rw [h3 j c] at k2; cases k2
/-- lists of numbers, at addresses -/
def Rows (H : Hp) (as : List Addr) (zss : List (List Int)) : Prop := as.length = zss.length ∧ ∀ (i : Nat) a zs, as[i]? = some a → zss[i]? = some zs → H a = some (.lst (zs.map V.int))
theorem Rows.keep {H H' : Hp} {as : List Addr} {zss : List (List Int)} (h : Rows H as zss) (s : Same H H') : Rows H' as zss := ⟨h.1, fun i a zs h1 h2 => s _ _ (h.2 i a zs h1 h2)⟩
theorem Rows.app {H : Hp} {as bs : List Addr} {zss wss : List (List Int)} (h : Rows H as zss) (h' : Rows H bs wss) : Rows H (as ++ bs) (zss ++ wss) := by
  refine ⟨by rw [List.length_append, List.length_append, h.1, h'.1], fun i a zs h1 h2 => ?_⟩
  have hl := h.1
  by_cases c : i < as.length
  · rw [List.getElem?_append_left c] at h1
    rw [List.getElem?_append_left (by omega)] at h2
    exact h.2 i a zs h1 h2
  · rw [List.getElem?_append_right (by omega)] at h1
    rw [List.getElem?_append_right (by omega), ← hl] at h2
    exact h'.2 _ a zs h1 h2
def told (as : List Addr) (n : Nat) : Option Nat → List V
  | none => [.str "held", .int n, .non]
  | some i => [.str "breach", .int ((i + 1 : Nat) : Int), .ref (as.getD i 0)]
def pj (lo more bad : Int) (zss : List (List Int)) : Nat → Bool := fun i => !brk lo more bad (zss.getD i [])
def sp_tried_on (g : Gx) : Sp := fun vs H Q _ => ∃ (f D : Addr) (lo more bad : Int) (as : List Addr) (zss : List (List Int)), vs = [.ref f, .ref D] ∧ JudgeOk g H f lo more bad ∧ H D = some (.lst (as.map V.ref)) ∧ Rows H as zss ∧ (∀ zs ∈ zss, Gd lo more zs) ∧ zss.length ≤ 1000 ∧
  ∀ o t H', IsF (pj lo more bad zss) zss.length o → H' t = some (.tup (told as zss.length o)) → Same H H' → Q (.ref t) H'
theorem ok_tried_on {k : Nat} {C_Found : Addr} {C_Lister : Addr} {C_ManyMaker : Addr} {C_WholeMaker : Addr} {c_deed_judge P_deed_judge : Addr} {c_law_thing P_law_thing : Addr} (R : g.Raw "tried_on" "tried_on" s_tried_on ["judge", "values"]) (F_holds : g.Fn k "holds" ["judge", "value"] (sp_holds g)) (b_enumerate : g.mg "enumerate" = none) (b_len : g.mg "len" = none) : g.Fn (k + 1) "tried_on" ["judge", "values"] (sp_tried_on g) := by
  refine R.fn sc_tried_on (fun vs H Q E h => by obtain ⟨f, D, lo, more, bad, as, zss, rfl, hf, hD, hR, hG, hn, q⟩ := h; rfl) fun f_ cdv A outer s H vs Q E hr h => ?_
  obtain ⟨f, D, lo, more, bad, as, zss, rfl, hf, hD, hR, hG, hn, q⟩ := h
  refine ⟨_, (@pss_cons _ _ _ _ _ (@ps_for _ _ _ _ _ _ _ _ PassesOwn.never rfl (@pi_enum1 _ _ _ _ _ _ _ _ _ _ _ rfl b_enumerate (@pa_cons _ _ _ _ _ (@pv _ 1 _ _ (by rfl) (by first | exact Or.inl rfl | exact Or.inr (Or.inl rfl) | exact Or.inr (Or.inr rfl)) (by decide) (by decide)) pa_nil (by rfl)) (by rfl)) (@pg_tup _ _ _ _ _ (2) rfl (@pgs_cons _ _ _ _ _ (@pg_name _ _ (2) _ sc_tried_on.nd rfl (Or.inl rfl) (by first | exact .inl rfl | exact .inr rfl | assumption)) (@pgs_cons _ _ _ _ _ (@pg_name _ _ (3) _ sc_tried_on.nd rfl (Or.inl rfl) (by first | exact .inl rfl | exact .inr rfl | assumption)) pgs_nil (by rfl)) (by rfl)) (by rfl) (by rfl)) (@pss_one _ _ _ (@ps_if _ _ _ _ _ _ _ _ (@pt_not _ _ _ _ (@pt_val _ _ _ (@pe_fn _ _ _ _ _ _ _ _ _ _ _ _ F_holds hr (@pa_cons _ _ _ _ _ (@pv _ 0 _ _ (by rfl) (by first | exact Or.inl rfl | exact Or.inr (Or.inl rfl) | exact Or.inr (Or.inr rfl)) (by decide) (by decide)) (@pa_cons _ _ _ _ _ (@pv _ 3 _ _ (by rfl) (by first | exact Or.inl rfl | exact Or.inr (Or.inl rfl) | exact Or.inr (Or.inr rfl)) (by decide) (by decide)) pa_nil (by rfl)) (by rfl)) (by omega) (by rfl) (by rfl) (by decide) (by rfl) (by rfl)) (by intro _; rfl))) (@pss_one _ _ _ (@ps_ret _ _ _ _ (@pe_tup _ _ _ _ _ (@pa_cons _ _ _ _ _ pe_str (@pa_cons _ _ _ _ _ (@pv _ 2 _ _ (by rfl) (by first | exact Or.inl rfl | exact Or.inr (Or.inl rfl) | exact Or.inr (Or.inr rfl)) (by decide) (by decide)) (@pa_cons _ _ _ _ _ (@pv _ 3 _ _ (by rfl) (by first | exact Or.inl rfl | exact Or.inr (Or.inl rfl) | exact Or.inr (Or.inr rfl)) (by decide) (by decide)) pa_nil (by rfl)) (by rfl)) (by rfl))))) pss_nil)) (by intro _; rfl)) (@pss_one _ _ _ (@ps_ret _ _ _ _ (@pe_tup _ _ _ _ _ (@pa_cons _ _ _ _ _ pe_str (@pa_cons _ _ _ _ _ (@pe_bf _ _ _ _ _ _ _ _ _ _ b_len call_len_seq (@pa_cons _ _ _ _ _ (@pv _ 1 _ _ (by rfl) (by first | exact Or.inl rfl | exact Or.inr (Or.inl rfl) | exact Or.inr (Or.inr rfl)) (by decide) (by decide)) pa_nil (by rfl)) (by decide +kernel) (by rfl) (by rfl) (by decide) (by decide) (by rfl) (by rfl)) (@pa_cons _ _ _ _ _ pe_non pa_nil (by rfl)) (by rfl)) (by rfl)))))), ?_⟩
  have hal := hR.1
  walk_at "rd"
  refine tFor_enum1 (K := g.K) (a := D) (xs := as.map V.ref) (fun i σ H' => ∃ o2 o3, σ = [some (.ref f), some (.ref D), o2, o3] ∧ Same H H' ∧ ∀ j < i, pj lo more bad zss j = true) (fun R r => by walk_at "rd"; exact r) ⟨_, _, rfl, .refl _, fun j hj => by omega⟩ (fun i σ H' _ ⟨_, _, _, h, _⟩ => SqL.of (h _ _ hD)) ?_ ?_
  · rintro i x σ H' T hx ⟨o2, o3, rfl, h2, h3⟩ hT
    rw [List.getElem?_map] at hx
    obtain ⟨a, ha, rfl⟩ := Option.map_eq_some_iff.mp hx
    have hi := (List.getElem?_eq_some_iff.mp ha).1
    have hzi : zss[i]? = some (zss[i]'(by omega)) := List.getElem?_eq_getElem _
    have hpj : pj lo more bad zss i = !brk lo more bad (zss[i]'(by omega)) := by
      show (!brk lo more bad (zss.getD i [])) = _
      rw [List.getD_eq_getElem?_getD, hzi]; rfl
    have sT := Same.upd_new hT (.tup [.int ((i + 1 : Nat) : Int), .ref a])
    have hh := h2.trans sT
    walk_at "rd"
    refine ⟨_, SqT.of upd_same, rfl, _, _, rfl, _, _, rfl, rfl, f, a, lo, more, bad, _, rfl, hf.nl (nl_of hh), hh _ _ (hR.2 i a _ ha hzi), hG _ (List.mem_of_getElem? hzi), fun H3 s3 => ⟨_, rfl, ?_⟩⟩
    have h4 := hh.trans s3
    cases hb : brk lo more bad (zss[i]'(by omega)) with
    | true =>
      refine iteY rfl ⟨few (by decide), fun t ht => ?_⟩
      have st := Same.upd_new ht (.tup [.str "breach", .int ((i + 1 : Nat) : Int), .ref a])
      refine q (some i) t _ ⟨by omega, by rw [hpj, hb]; rfl, h3⟩ ?_ (h4.trans st)
      rw [upd_same, told, List.getD_eq_getElem?_getD, ha]; rfl
    | false =>
      refine iteN (by decide) ⟨h4, fun j hj => ?_⟩
      rcases Nat.lt_succ_iff_lt_or_eq.mp hj with c | rfl
      · exact h3 j c
      · rw [hpj, hb]; rfl
  · rintro σ H' ⟨o2, o3, rfl, h2, h3⟩
    rw [List.length_map] at h3
    walk_at "rd"
    refine ⟨_, .inl (SqL.of (h2 _ _ hD)), few (by decide), fun t ht => ?_⟩
    rw [List.length_map, hal]
    have st := Same.upd_new ht (.tup [.str "held", .int (zss.length : Int), .non])
    refine q none t _ (by rw [← hal]; exact h3) ?_ (h2.trans st)
    rw [upd_same]; rfl
end KW
set_option maxHeartbeats 8000000
namespace KW
open PySem L2

variable {g : Gx}
variable {src : List (Option Nat)} {te : TE} {σ : St} {H : Hp} {Q : VK}
variable {m : Nat}
local macro_rules | `(tactic| walk_at "gn") => `(tactic| simp only [gName, List.set_cons_zero, List.set_cons_succ])

local macro_rules | `(tactic| walk_at "rd") => `(tactic| simp (config := { failIfUnchanged := false, maxSteps := 10000000 }) only [L2.start, cxOf_K, nox_K, List.map_cons, List.map_nil, List.length_cons, List.length_nil, List.cons_append, List.nil_append, List.replicate_succ, List.replicate_zero, Nat.zero_add, Nat.reduceAdd, Nat.reduceSub, Nat.sub_self, tSeq, tIfS, tTest, tOp, tC, tVar, rI0, rI, rU, tUn, tRet, tRetN, tDrop, tNext, tBreak, tCont, tAsg, gName, gNil, gCons, tCons, tNil, tCB, tCall, tTry, tTryAs, tRaise, sFld, tFld, tMake, tMeth, Ends.gone, caught_K, tB, tAnd, tOr, tNot, tAndV, tOrV, tNotV, tIf, tChain, tNoPart, tPart, tSl, tNever, tAug, rIxL, rIxT, rSlL, tLst, tTup, gTup, tRev, tLZ, tConT, tDict0, tDNewT, tDGet, sDPut, rNotInD, rInD, tEither, tSlStep, rBits, rFind, rIn, tBM, tBM0, rAppend, rReverse, rEq, rNe, scal_ii, scal_ss, rCat, rSetL, gSub, ipI, capSt, List.getD_cons_zero, List.getD_cons_succ, decide_true, not_true_eq_false, not_false_eq_true,
  exists_eq_left', exists_eq_left, exists_eq', exists_eq, exists_and_left, and_assoc, Option.some.injEq, V.int.injEq, V.bl.injEq, V.ref.injEq, V.str.injEq, List.getElem?_cons_zero, List.getElem?_cons_succ, List.set_cons_zero, List.set_cons_succ, List.cons.injEq, and_true, true_and, List.append_nil, decide_eq_true_eq, Bool.not_eq_true', decide_eq_false_iff_not, Bool.not_not, Bool.not_true, Bool.not_false, Bool.true_eq_false, Bool.false_eq_true, if_true, if_false, ite_true, ite_false])

def zk (lo : Int) (span k : Nat) : List (List Int) := (List.range (mc span k).toNat).map fun (i : Nat) => mz lo span k i
def vz (lo : Int) (span size : Nat) : List (List Int) := ((List.range size).map (zk lo span)).flatten
theorem vz_succ (lo : Int) (span size : Nat) : vz lo span (size + 1) = vz lo span size ++ zk lo span size := by
  rw [vz, List.range_succ, List.map_append, List.flatten_append]
  simp [vz]
theorem zk_len (lo : Int) (span k : Nat) : (zk lo span k).length = (mc span k).toNat := by simp [zk]
theorem vz_len (lo : Int) {span : Nat} (hs : span < 4) : ∀ size, size ≤ 7 → (vz lo span size).length ≤ 40 * size
  | 0, _ => by simp [vz]
  | n + 1, h => by
    have := vz_len lo hs n (by omega)
    have := mc_few hs (show n < 7 by omega)
    rw [vz_succ, List.length_append, zk_len]
    omega
theorem rows_zk {H : Hp} {lo : Int} {span k : Nat} {as : List Addr} (h1 : as.length = (mc span k).toNat) (h2 : ∀ (i : Nat) z, as[i]? = some z → H z = some (.lst (mv lo span k i))) : Rows H as (zk lo span k) := by
  refine ⟨by rw [h1, zk_len], fun i a zs e1 e2 => ?_⟩
  have hi := (List.getElem?_eq_some_iff.mp e1).1
  rw [zk, List.getElem?_map, List.getElem?_range (by omega)] at e2
  have : mz lo span k i = zs := Option.some.inj e2
  rw [h2 i a e1, mv_mz, this]
theorem zk_gd {lo more : Int} {span k : Nat} (hm0 : 0 ≤ more) (hm : more ≤ 2) (hs : span < 4) (hk : k < 7) {zs : List Int} (h : zs ∈ zk lo span k) : Gd lo more zs := by
  obtain ⟨i, hi, rfl⟩ := List.mem_map.mp h
  have hi := List.mem_range.mp hi
  have hl := mz_len lo span k i
  refine ⟨by omega, fun j hj => ?_⟩
  have := st_bd (lo := lo) hm0 hm hs (mz_bd lo span k i (by omega) (by omega)) j hj
  omega
theorem vz_gd {lo more : Int} {span size : Nat} (hm0 : 0 ≤ more) (hm : more ≤ 2) (hs : span < 4) (hz : size ≤ 7) {zs : List Int} (h : zs ∈ vz lo span size) : Gd lo more zs := by
  obtain ⟨l, hl, h⟩ := List.mem_flatten.mp h
  obtain ⟨k, hk, rfl⟩ := List.mem_map.mp hl
  exact zk_gd hm0 hm hs (by have := List.mem_range.mp hk; omega) h
theorem sum_few {span : Nat} (hs : span < 4) : ∀ size, size ≤ 7 → ((List.range size).map fun k => mc span k).sum ≤ 40 * size
  | 0, _ => by simp
  | n + 1, h => by
    have := sum_few hs n (by omega)
    have := mc_few hs (show n < 7 by omega)
    rw [List.range_succ, List.map_append, List.sum_append, List.map_singleton, List.sum_singleton]
    omega
theorem Rows.but {H H' : Hp} {as : List Addr} {zss : List (List Int)} (h : Rows H as zss) (s : ∀ a ∈ as, ∀ o, H a = some o → H' a = some o) : Rows H' as zss := ⟨h.1, fun i a zs h1 h2 => s a (List.mem_of_getElem? h1) _ (h.2 i a zs h1 h2)⟩
def sp_tried (g : Gx) : Sp := fun vs H Q _ => ∃ (f a : Addr) (b : V) (lo more bad : Int) (span size : Nat), vs = [b, .ref a, .ref f, .int size, .int 2000] ∧ AtS H a (.m lo span) ∧ span < 4 ∧ size < 7 ∧ 0 ≤ more ∧ more ≤ 2 ∧ JudgeOk g H f lo more bad ∧
  ∀ o t as H', IsF (pj lo more bad (vz lo span (size + 1))) (vz lo span (size + 1)).length o → Rows H' as (vz lo span (size + 1)) → H' t = some (.tup (told as (vz lo span (size + 1)).length o)) → Same H H' → Q (.ref t) H'
theorem ok_tried {k : Nat} {C_Found : Addr} {C_Lister : Addr} {C_ManyMaker : Addr} {C_WholeMaker : Addr} {c_deed_judge P_deed_judge : Addr} {c_law_thing P_law_thing : Addr} (R : g.RawD "tried" "tried" s_tried ["book", "shape", "judge", "size", "most"] []) (F_maker_for : g.Fn k "maker_for" ["book", "shape"] (sp_maker_for g.K C_WholeMaker C_ManyMaker)) (F_refuse_too_many : g.Fn k "refuse_too_many" ["count", "most"] (sp_refuse)) (F_all_made : g.Fn k "all_made" ["maker", "size"] (sp_all_made g.K C_WholeMaker C_ManyMaker)) (F_tried_on : g.Fn k "tried_on" ["judge", "values"] (sp_tried_on g)) (F_ManyMaker_count_at : g.Me k C_ManyMaker "count_at" ["self", "size"] (sp_Mcount g.K C_WholeMaker C_ManyMaker 4)) (b_list : g.mg "list" = none) (b_range : g.mg "range" = none) (b_sum : g.mg "sum" = none) (cl_ManyMaker : Cls g.K C_ManyMaker) (n_ManyMaker_counts : NoAttr g.K C_ManyMaker "counts") (n_ManyMaker_part : NoAttr g.K C_ManyMaker "part") : g.FnD (k + 1) "tried" ["book", "shape", "judge", "size", "most"] [] (sp_tried g) := by
  refine R.fnD sc_tried (fun vs H Q E h => by obtain ⟨f, a, b, lo, more, bad, span, size, rfl, ha, hsp, hsz, hm0, hm2, hf, q⟩ := h; rfl) fun f_ cdv A outer s H vs Q E hr h => ?_
  obtain ⟨f, a, b, lo, more, bad, span, size, rfl, ha, hsp, hsz, hm0, hm2, hf, q⟩ := h
  refine ⟨_, (@pss_cons _ _ _ _ _ (@ps_set _ _ (5) _ _ _ _ sc_tried.nd rfl (Or.inr rfl) (@pe_fn _ _ _ _ _ _ _ _ _ _ _ _ F_maker_for hr (@pa_cons _ _ _ _ _ (@pv _ 0 _ _ (by rfl) (by first | exact Or.inl rfl | exact Or.inr (Or.inl rfl) | exact Or.inr (Or.inr rfl)) (by decide) (by decide)) (@pa_cons _ _ _ _ _ (@pv _ 1 _ _ (by rfl) (by first | exact Or.inl rfl | exact Or.inr (Or.inl rfl) | exact Or.inr (Or.inr rfl)) (by decide) (by decide)) pa_nil (by rfl)) (by rfl)) (by omega) (by rfl) (by rfl) (by decide) (by rfl) (by rfl)) (by rfl) (by first | exact .inl rfl | exact .inr rfl | assumption)) (@pss_cons _ _ _ _ _ (@ps_set _ _ (6) _ _ _ _ sc_tried.nd rfl (Or.inl rfl) (@pe_list_range _ _ _ _ _ _ _ rfl b_list rfl b_range (@pa_cons _ _ _ _ _ (@pe_op _ _ _ _ _ _ _ _ op_add (@pv _ 3 _ _ (by rfl) (by first | exact Or.inl rfl | exact Or.inr (Or.inl rfl) | exact Or.inr (Or.inr rfl)) (by decide) (by decide)) pe_int) pa_nil (by rfl)) (by rfl) (by rfl)) (by rfl) (by first | exact .inl rfl | exact .inr rfl | assumption)) (@pss_cons _ _ _ _ _ (@ps_expr _ _ _ _ (@pe_fn _ _ _ _ _ _ _ _ _ _ _ _ F_refuse_too_many hr (@pa_cons _ _ _ _ _ (@pe_bf _ _ _ _ _ _ _ _ _ _ b_sum call_sum_ints (@pa_cons _ _ _ _ _ (@pe_lc _ _ _ _ _ _ _ ([none, some 5]) ((["each", "maker"] : List Str)) _ (gName 0) _ _ (.own (.cap (i := 5) rfl rfl (by first | exact Or.inl rfl | exact Or.inr rfl) .nil)) rfl (@pi_list _ _ _ _ (@pv _ 6 _ _ (by rfl) (by first | exact Or.inl rfl | exact Or.inr (Or.inl rfl) | exact Or.inr (Or.inr rfl)) (by decide) (by decide))) (fun cl C s₀ H₀ fp pn => (@pg_name _ _ (0) _ (show List.Nodup (["each", "maker"] : List Str) by decide +kernel) rfl (Or.inl rfl) (Or.inr rfl))) (fun cl C s₀ H₀ fp pn => pts_nil) (fun cl C s₀ H₀ fp pn => (@pe_me _ _ _ _ _ _ _ _ _ _ _ _ _ _ _ _ F_ManyMaker_count_at cl_ManyMaker hr (@pv _ 1 _ _ (by rfl) (by first | exact Or.inl rfl | exact Or.inr (Or.inl rfl) | exact Or.inr (Or.inr rfl)) (by decide) (by decide)) (@pa_cons _ _ _ _ _ (@pv _ 0 _ _ (by rfl) (by first | exact Or.inl rfl | exact Or.inr (Or.inl rfl) | exact Or.inr (Or.inr rfl)) (by decide) (by decide)) pa_nil (by rfl)) (by omega) (by rfl) (by rfl) (by rfl) (by rfl))) (by intro x hx; simp at hx; first | (subst hx; exact Or.inl rfl) | (rcases hx with rfl | rfl <;> exact Or.inl rfl) | (rcases hx with rfl | rfl | rfl <;> exact Or.inl rfl)) (by rfl) (by decide) (by decide +kernel) (by intro _; rfl)) pa_nil (by rfl)) (by decide +kernel) (by rfl) (by rfl) (by decide) (by decide) (by rfl) (by rfl)) (@pa_cons _ _ _ _ _ (@pv _ 4 _ _ (by rfl) (by first | exact Or.inl rfl | exact Or.inr (Or.inl rfl) | exact Or.inr (Or.inr rfl)) (by decide) (by decide)) pa_nil (by rfl)) (by rfl)) (by omega) (by rfl) (by rfl) (by decide) (by rfl) (by rfl)) (by rfl)) (@pss_cons _ _ _ _ _ (@ps_set _ _ (7) _ _ _ _ sc_tried.nd rfl (Or.inl rfl) (@pe_lst _ _ _ _ pa_nil) (by rfl) (by first | exact .inl rfl | exact .inr rfl | assumption)) (@pss_cons _ _ _ _ _ (@ps_for _ _ _ _ _ _ _ _ PassesOwn.never rfl (@pi_list _ _ _ _ (@pv _ 6 _ _ (by rfl) (by first | exact Or.inl rfl | exact Or.inr (Or.inl rfl) | exact Or.inr (Or.inr rfl)) (by decide) (by decide))) (@pg_name _ _ (8) _ sc_tried.nd rfl (Or.inl rfl) (by first | exact .inl rfl | exact .inr rfl | assumption)) (@pss_one _ _ _ (@ps_expr _ _ _ _ (@pe_bm _ _ _ _ _ _ _ _ _ _ _ _ PySem.F.plainAttrs_list PySem.F.slot_list_extend PySem.F.type_list_extend mt_extend (@pv _ 7 _ _ (by rfl) (by first | exact Or.inl rfl | exact Or.inr (Or.inl rfl) | exact Or.inr (Or.inr rfl)) (by decide) (by decide)) (@pa_cons _ _ _ _ _ (@pe_fn _ _ _ _ _ _ _ _ _ _ _ _ F_all_made hr (@pa_cons _ _ _ _ _ (@pv _ 5 _ _ (by rfl) (by first | exact Or.inl rfl | exact Or.inr (Or.inl rfl) | exact Or.inr (Or.inr rfl)) (by decide) (by decide)) (@pa_cons _ _ _ _ _ (@pv _ 8 _ _ (by rfl) (by first | exact Or.inl rfl | exact Or.inr (Or.inl rfl) | exact Or.inr (Or.inr rfl)) (by decide) (by decide)) pa_nil (by rfl)) (by rfl)) (by omega) (by rfl) (by rfl) (by decide) (by rfl) (by rfl)) pa_nil (by rfl)) (by rfl) (by rfl) (by rfl) (by rfl) (by rfl)) (by rfl))) (by intro _; rfl)) (@pss_one _ _ _ (@ps_ret _ _ _ _ (@pe_fn _ _ _ _ _ _ _ _ _ _ _ _ F_tried_on hr (@pa_cons _ _ _ _ _ (@pv _ 2 _ _ (by rfl) (by first | exact Or.inl rfl | exact Or.inr (Or.inl rfl) | exact Or.inr (Or.inr rfl)) (by decide) (by decide)) (@pa_cons _ _ _ _ _ (@pv _ 7 _ _ (by rfl) (by first | exact Or.inl rfl | exact Or.inr (Or.inl rfl) | exact Or.inr (Or.inr rfl)) (by decide) (by decide)) pa_nil (by rfl)) (by rfl)) (by omega) (by rfl) (by rfl) (by decide) (by rfl) (by rfl))))))))), ?_⟩
  have hb := all_big hsp
  walk_at "rd"
  refine ⟨a, b, lo, span, rfl, ha, fun p H1 s1 ⟨pw, cm, cw, dm, dw, g1, g2, g3, g4, M⟩ => ?_⟩
  unfold tLR
  walk_at "rd"
  refine ⟨size + 1, by omega, by omega, fun Sz gS => ?_⟩
  have sS := Same.upd_new gS (.lst ((List.range (size + 1)).map fun (i : Nat) => V.int (i : Int)))
  obtain ⟨H2, eH2⟩ : ∃ H2, H2 = upd H1 Sz (.lst ((List.range (size + 1)).map fun (i : Nat) => V.int (i : Int))) := ⟨_, rfl⟩
  rw [← eH2] at sS ⊢
  have hSz : H2 Sz = some (.lst ((List.range (size + 1)).map fun (i : Nat) => V.int (i : Int))) := by rw [eH2, upd_same]
  have nSw : Sz ≠ cw := Ne.symm (ne_of_none M.hv gS)
  have nSm : Sz ≠ cm := Ne.symm (ne_of_none M.hc gS)
  have M : MM C_WholeMaker C_ManyMaker H2 p pw cm cw dm dw lo span 0 0 := ⟨sS _ _ M.hm, sS _ _ M.hc, sS _ _ M.hw, sS _ _ M.hv, M.ne⟩
  have npw : p ≠ cw := ne_of M.hm M.hv (by simp)
  have npm : p ≠ cm := ne_of M.hm M.hc (by simp)
  have nww : pw ≠ cw := ne_of M.hw M.hv (by simp)
  have nwm : pw ≠ cm := ne_of M.hw M.hc (by simp)
  refine tLC_listI (K := g.K) (b := Sz) (xs := (List.range (size + 1)).map fun (i : Nat) => V.int (i : Int)) (fun D i zs H' => zs = cnts (mc span) i ∧ H' D = some (.lst zs) ∧ (∀ q o, q ≠ cw → q ≠ cm → q ≠ D → H2 q = some o → H' q = some o) ∧ ∃ n, n ≤ 50 ∧ MM C_WholeMaker C_ManyMaker H' p pw cm cw dm dw lo span i n) (fun R r => by walk_at "rd"; exact r) (SqL.of hSz) (by simp; omega) ?_ ?_ ?_ ?_
  · intro D hD
    have sD := Same.upd_new hD (.lst [])
    exact ⟨rfl, upd_same, fun x o _ _ h2 h => by rw [upd_ne h2]; exact h, 0, by decide, sD _ _ M.hm, sD _ _ M.hc, sD _ _ M.hw, sD _ _ M.hv, M.ne⟩
  · rintro D i zs H' hD ⟨rfl, h, fr, _⟩
    exact ⟨cnts_len _ _, h, SqL.of (fr _ _ nSw nSm (ne_of_none hSz hD) hSz)⟩
  · rintro D i x zs H' hD hx ⟨rfl, hd, fr, n, hn, M'⟩ R r
    have hi : i < size + 1 := by have := (List.getElem?_eq_some_iff.mp hx).1; simpa using this
    rw [List.getElem?_map, List.getElem?_range hi] at hx
    have ex : V.int (i : Int) = x := Option.some.inj hx
    subst ex
    have nDw : D ≠ cw := Ne.symm (ne_of_none M.hv hD)
    have nDm : D ≠ cm := Ne.symm (ne_of_none M.hc hD)
    have nDp : D ≠ p := Ne.symm (ne_of_none M.hm hD)
    have nDpw : D ≠ pw := Ne.symm (ne_of_none M.hw hD)
    walk_at "rd"
    refine ⟨_, _, M'.hm, mmf_no _ _ (by decide +kernel) (by decide +kernel), p, pw, cm, cw, dm, dw, lo, span, i, n, i, rfl, by decide, M', by omega, hn, fun z => absurd z (by omega), fun _ => ⟨by decide, by omega, hb, fun H3 n3 fr3 hn3 M3 => ?_⟩⟩
    refine r _ _ (fr3 _ _ nDw nDm hd) ⟨(cnts_succ _ _).symm, upd_same, fun x o h1 h2 h3 h => ?_, n3, hn3, ?_⟩
    · rw [upd_ne h3]; exact fr3 _ _ h1 h2 (fr _ _ h1 h2 h3 h)
    · exact ⟨(upd_ne (Ne.symm nDp)).trans M3.hm, (upd_ne (Ne.symm nDm)).trans M3.hc, (upd_ne (Ne.symm nDpw)).trans M3.hw, (upd_ne (Ne.symm nDw)).trans M3.hv, M3.ne⟩
  · rintro D zs H3 hD ⟨rfl, hd, fr, n, hn, M3⟩
    rw [List.length_map, List.length_range] at hd M3
    have hS3 := fr _ _ nSw nSm (ne_of_none hSz hD) hSz
    have sH3 : Same H H3 := fun q o e => fr q o (ne_of_none e g4) (ne_of_none e g3) (ne_of_none (sS _ _ (s1 _ _ e)) hD) (sS _ _ (s1 _ _ e))
    refine ⟨D, rfl, (List.range (size + 1)).map fun k => mc span k, SqL.of (by rw [hd, cnts, List.map_map]; rfl), _, _, rfl, by have := sum_few hsp (size + 1) (by omega); omega, few (by decide), fun Vs gV => ?_⟩
    have sV := Same.upd_new gV (.lst [])
    have nVw : Vs ≠ cw := Ne.symm (ne_of_none M3.hv gV)
    refine tFor_listN (K := g.K) (xs := (List.range (size + 1)).map fun (i : Nat) => V.int (i : Int)) (fun c i σ H' => c = Sz ∧ (∃ o, σ = [some b, some (.ref a), some (.ref f), some (.int size), some (.int 2000), some (.ref p), some (.ref Sz), some (.ref Vs), o]) ∧ (∀ q o, q ≠ cw → H3 q = some o → H' q = some o) ∧ (∃ n, n ≤ 50 ∧ H' cw = some (.lst (cnts (wc span) n))) ∧ ∃ as : List Addr, H' Vs = some (.lst (as.map V.ref)) ∧ Rows H' as (vz lo span i) ∧ ∀ z ∈ as, z ≠ Vs ∧ z ≠ cw) (fun R r => by walk_at "rd"; exact r Sz _ ⟨rfl, ⟨_, rfl⟩, fun q o _ e => sV _ _ e, ⟨n, hn, sV _ _ M3.hv⟩, [], upd_same, ⟨rfl, fun i a zs e => by simp at e⟩, fun z hz => by cases hz⟩) (fun c i σ H' _ ⟨e, _, s, _⟩ => by subst e; exact SqL.of (s _ _ nSw hS3)) ?_ ?_
    · rintro c i x σ H' hx ⟨rfl, ⟨o, rfl⟩, sm, ⟨n', hn', hv'⟩, as, hV, hR, hz⟩
      have hi : i < size + 1 := by have := (List.getElem?_eq_some_iff.mp hx).1; simpa using this
      rw [List.getElem?_map, List.getElem?_range hi] at hx
      have ex : V.int (i : Int) = x := Option.some.inj hx
      subst ex
      have hmc := mc_few hsp (show i < 7 by omega)
      have hlen := vz_len lo hsp i (by omega)
      have M' : MM C_WholeMaker C_ManyMaker H' p pw cm cw dm dw lo span (size + 1) n' := ⟨sm _ _ npw M3.hm, sm _ _ M3.ne M3.hc, sm _ _ nww M3.hw, hv', M3.ne⟩
      walk_at "rd"
      refine ⟨.inl ⟨rfl, _, SqL.of hV⟩, p, pw, cm, cw, dm, dw, lo, span, size + 1, n', i, rfl, M', hi, by omega, hn', hb, by omega, fun D' bs H'' n'' gD' fr'' hn'' hv'' hD'' hbl hbs => ?_⟩
      refine ⟨Vs, D', _, _, rfl, rfl, fr'' _ _ nVw hV, hD'', few (by rw [List.length_map, List.length_map, hR.1, hbl]; omega), ?_⟩
      have nbV : ∀ z ∈ bs, z ≠ Vs := fun z hz => by
        obtain ⟨j, hj, e⟩ := List.getElem_of_mem hz
        have := (hbs j z (by rw [List.getElem?_eq_getElem hj, e])).1
        exact Ne.symm (ne_of_none hV this)
      have nbw : ∀ z ∈ bs, z ≠ cw := fun z hz => by
        obtain ⟨j, hj, e⟩ := List.getElem_of_mem hz
        have := (hbs j z (by rw [List.getElem?_eq_getElem hj, e])).1
        exact Ne.symm (ne_of_none hv' this)
      refine ⟨fun z u hzw e => ?_, ⟨n'', hn'', (upd_ne (Ne.symm nVw)).trans hv''⟩, as ++ bs, by rw [upd_same, List.map_append], ?_, fun z hz' => ?_⟩
      · rw [upd_ne (ne_of_none e gV)]; exact fr'' _ _ hzw (sm _ _ hzw e)
      · rw [vz_succ]
        refine (hR.but fun z hz' u e => ?_).app (rows_zk hbl fun j z e => ?_)
        · rw [upd_ne (hz z hz').1]; exact fr'' _ _ (hz z hz').2 e
        · rw [upd_ne (nbV z (List.mem_of_getElem? e))]; exact (hbs j z e).2
      · rcases List.mem_append.mp hz' with h | h
        · exact hz z h
        · exact ⟨nbV z h, nbw z h⟩
    · rintro c σ H' ⟨rfl, ⟨o, rfl⟩, sm, _, as, hV, hR, _⟩
      walk_at "rd"
      rw [List.length_map, List.length_range] at hR
      have hh : Same H H' := fun z u e => sm _ _ (ne_of_none e g4) (sH3 _ _ e)
      have hlen := vz_len lo hsp (size + 1) (by omega)
      exact ⟨f, Vs, lo, more, bad, as, _, rfl, hf.nl (nl_of hh), hV, hR, fun zs hzs => vz_gd hm0 hm2 hsp (by omega) hzs, by omega, fun o t H' h1 h2 h3 => q o t as H' h1 (hR.keep h3) h2 (hh.trans h3)⟩
end KW
set_option maxHeartbeats 8000000
namespace KW
open PySem L2

variable {g : Gx}
variable {src : List (Option Nat)} {te : TE} {σ : St} {H : Hp} {Q : VK}
variable {m : Nat}
local macro_rules | `(tactic| walk_at "gn") => `(tactic| simp only [gName, List.set_cons_zero, List.set_cons_succ])

local macro_rules | `(tactic| walk_at "rd") => `(tactic| simp (config := { failIfUnchanged := false, maxSteps := 10000000 }) only [L2.start, cxOf_K, nox_K, List.map_cons, List.map_nil, List.length_cons, List.length_nil, List.cons_append, List.nil_append, List.replicate_succ, List.replicate_zero, Nat.zero_add, Nat.reduceAdd, Nat.reduceSub, Nat.sub_self, tSeq, tIfS, tTest, tOp, tC, tVar, rI0, rI, rU, tUn, tRet, tRetN, tDrop, tNext, tBreak, tCont, tAsg, gName, gNil, gCons, tCons, tNil, tCB, tCall, tTry, tTryAs, tRaise, sFld, tFld, tMake, tMeth, Ends.gone, caught_K, tB, tAnd, tOr, tNot, tAndV, tOrV, tNotV, tIf, tChain, tNoPart, tPart, tSl, tNever, tAug, rIxL, rIxT, rSlL, tLst, tTup, gTup, tRev, tLZ, tConT, tDict0, tDNewT, tDGet, sDPut, rNotInD, rInD, tEither, tSlStep, rBits, rFind, rIn, tBM, tBM0, rAppend, rReverse, rEq, rNe, scal_ii, scal_ss, rCat, rSetL, gSub, ipI, capSt, List.getD_cons_zero, List.getD_cons_succ, decide_true, not_true_eq_false, not_false_eq_true,
  exists_eq_left', exists_eq_left, exists_eq', exists_eq, exists_and_left, and_assoc, Option.some.injEq, V.int.injEq, V.bl.injEq, V.ref.injEq, V.str.injEq, List.getElem?_cons_zero, List.getElem?_cons_succ, List.set_cons_zero, List.set_cons_succ, List.cons.injEq, and_true, true_and, List.append_nil, decide_eq_true_eq, Bool.not_eq_true', decide_eq_false_iff_not, Bool.not_not, Bool.not_true, Bool.not_false, Bool.true_eq_false, Bool.false_eq_true, if_true, if_false, ite_true, ite_false])

def sp_breach (K : PySem.W.Frag) : Sp := fun vs H Q _ => ∃ (lo more bad : Int) (a : Addr) (zs : List Int), vs = [.int lo, .int more, .int bad, .ref a] ∧ H a = some (.lst (zs.map V.int)) ∧ Q (.bl (brk lo more bad zs)) H
theorem ok_law_breach {C_Found : Addr} {C_Lister : Addr} {C_ManyMaker : Addr} {C_WholeMaker : Addr} {c_deed_judge P_deed_judge : Addr} {c_law_thing P_law_thing : Addr} (R : g.Raw "_law_breach" "_law_breach" s_law_breach ["_law_low", "_law_more", "_law_bad", "_law_deeds"]) : g.Fn (1) "_law_breach" ["_law_low", "_law_more", "_law_bad", "_law_deeds"] (sp_breach g.K) := by
  refine R.fn sc_law_breach (fun vs H Q E h => by obtain ⟨lo, more, bad, a, zs, rfl, ha, q⟩ := h; rfl) fun f_ cdv A outer s H vs Q E hr h => ?_
  obtain ⟨lo, more, bad, a, zs, rfl, ha, q⟩ := h
  refine ⟨_, (@pss_cons _ _ _ _ _ (@ps_set _ _ (4) _ _ _ _ sc_law_breach.nd rfl (Or.inl rfl) pe_int (by rfl) (by first | exact .inl rfl | exact .inr rfl | assumption)) (@pss_cons _ _ _ _ _ (@ps_for _ _ _ _ _ _ _ _ PassesOwn.never rfl (@pi_list _ _ _ _ (@pv _ 3 _ _ (by rfl) (by first | exact Or.inl rfl | exact Or.inr (Or.inl rfl) | exact Or.inr (Or.inr rfl)) (by decide) (by decide))) (@pg_name _ _ (5) _ sc_law_breach.nd rfl (Or.inl rfl) (by first | exact .inl rfl | exact .inr rfl | assumption)) (@pss_cons _ _ _ _ _ (@ps_set _ _ (4) _ _ _ _ sc_law_breach.nd rfl (Or.inl rfl) (@pe_op _ _ _ _ _ _ _ _ op_add (@pe_op _ _ _ _ _ _ _ _ op_sub (@pe_op _ _ _ _ _ _ _ _ op_add (@pv _ 4 _ _ (by rfl) (by first | exact Or.inl rfl | exact Or.inr (Or.inl rfl) | exact Or.inr (Or.inr rfl)) (by decide) (by decide)) (@pv _ 5 _ _ (by rfl) (by first | exact Or.inl rfl | exact Or.inr (Or.inl rfl) | exact Or.inr (Or.inr rfl)) (by decide) (by decide))) (@pv _ 0 _ _ (by rfl) (by first | exact Or.inl rfl | exact Or.inr (Or.inl rfl) | exact Or.inr (Or.inr rfl)) (by decide) (by decide))) (@pv _ 1 _ _ (by rfl) (by first | exact Or.inl rfl | exact Or.inr (Or.inl rfl) | exact Or.inr (Or.inr rfl)) (by decide) (by decide))) (by rfl) (by first | exact .inl rfl | exact .inr rfl | assumption)) (@pss_one _ _ _ (@ps_if _ _ _ _ _ _ _ _ (@pt_cmpR _ _ _ _ _ _ _ _ op_ge (@pv _ 4 _ _ (by rfl) (by first | exact Or.inl rfl | exact Or.inr (Or.inl rfl) | exact Or.inr (Or.inr rfl)) (by decide) (by decide)) (@pv _ 2 _ _ (by rfl) (by first | exact Or.inl rfl | exact Or.inr (Or.inl rfl) | exact Or.inr (Or.inr rfl)) (by decide) (by decide)) (nomark _)) (@pss_one _ _ _ (@ps_ret _ _ _ _ pe_bl)) pss_nil))) (by intro _; rfl)) (@pss_one _ _ _ (@ps_ret _ _ _ _ pe_bl)))), ?_⟩
  walk_at "rd"
  refine tFor_listN (K := g.K) (xs := zs.map V.int) (fun c i σ H' => c = a ∧ H = H' ∧ (∃ o, σ = [some (.int lo), some (.int more), some (.int bad), some (.ref a), some (.int (st lo more zs i)), o]) ∧ ∀ j < i, ¬ bad ≤ st lo more zs (j + 1)) (fun R r => by walk_at "rd"; exact r a _ ⟨rfl, rfl, ⟨_, rfl⟩, fun j hj => by omega⟩) (fun c i σ H' _ ⟨e, e2, _⟩ => by subst e e2; exact SqL.of ha) ?_ ?_
  · rintro c i x σ H' hx ⟨rfl, rfl, ⟨o, rfl⟩, hall⟩
    rw [List.getElem?_map] at hx
    obtain ⟨z, hz, rfl⟩ := Option.map_eq_some_iff.mp hx
    have hi := (List.getElem?_eq_some_iff.mp hz).1
    walk_at "rd"
    rw [← st_succ hz]
    by_cases c : bad ≤ st lo more zs (i + 1)
    · rw [brk_yes hi c] at q
      exact iteY (by omega) q
    · refine iteN (by omega) ⟨rfl, fun j hj => ?_⟩
      rcases Nat.lt_succ_iff_lt_or_eq.mp hj with c' | rfl
      · exact hall j c'
      · exact c
  · rintro c σ H' ⟨rfl, rfl, ⟨o, rfl⟩, hall⟩
    rw [List.length_map] at hall
    walk_at "rd"
    rw [brk_no hall] at q
    exact q
def dt (zss : List (List Int)) (n : Nat) : Option Nat → PyData
  | none => .tuple [.str "held", .int n, .none]
  | some i => .tuple [.str "breach", .int ((i + 1 : Nat) : Int), .list ((zss.getD i []).map PyData.int)]
theorem den_told {K : PySem.W.Frag} {H : Hp} {t : Addr} {as : List Addr} {zss : List (List Int)} {p : Nat → Bool} {o : Option Nat} (h : H t = some (.tup (told as zss.length o))) (hR : Rows H as zss) (ho : IsF p zss.length o) : Den K H (.ref t) (dt zss zss.length o) := by
  cases o with
  | none => exact .tup (SqT.of h) (.cons (.str _ (by decide +kernel)) (.cons (.int _) (.cons .non .nil)))
  | some i =>
    have hi : i < zss.length := ho.1
    have hl := hR.1
    have e1 : as[i]? = some (as[i]'(by omega)) := List.getElem?_eq_getElem _
    have e2 : zss[i]? = some zss[i] := List.getElem?_eq_getElem hi
    have e3 : as.getD i 0 = as[i]'(by omega) := by rw [List.getD_eq_getElem?_getD, e1]; rfl
    have e4 : zss.getD i [] = zss[i] := by rw [List.getD_eq_getElem?_getD, e2]; rfl
    have h3 := hR.2 i _ _ e1 e2
    rw [told, e3] at h
    rw [dt, e4]
    exact .tup (SqT.of h) (.cons (.str _ (by decide +kernel)) (.cons (.int _) (.cons (.lst (SqL.of h3) (Dens.ints _)) .nil)))
theorem depth_ints : ∀ l : List Int, PyData.depthAll (l.map PyData.int) = 0
  | [] => by simp [PyData.depthAll]
  | a :: l => by simp [PyData.depthAll, PyData.depth, depth_ints l]
theorem depth_dt (zss : List (List Int)) (n : Nat) (o : Option Nat) : (dt zss n o).depth ≤ 64 := by
  cases o with
  | none => simp [dt, PyData.depth, PyData.depthAll]
  | some i => simp only [dt, PyData.depth, PyData.depthAll, depth_ints]; omega
/-- all stays but tables -/
def Kt (H H' : Hp) : Prop := ∀ a o, (∀ ps, o ≠ .tbl ps) → H a = some o → H' a = some o
theorem Kt.trans {H H1 H2 : Hp} (a : Kt H H1) (b : Kt H1 H2) : Kt H H2 := fun c o n e => b c o n (a c o n e)
theorem kt_but {H H' : Hp} {P : Addr} {ps : Array Value} (hk : ∀ a o, a ≠ P → H a = some o → H' a = some o) (hP : H P = some (.tbl ps)) : Kt H H' := fun c o n e => hk c o (ne_of e hP (n _)) e
theorem Kt.nl {H H' : Hp} (h : Kt H H') : NL H H' := ⟨fun b xs e => h b _ (by intro ps z; cases z) e, fun b φ e => h b _ (by intro ps z; cases z) e⟩
theorem Kt.tup {H H' : Hp} (h : Kt H H') {a : Addr} {xs : List V} (e : H a = some (.tup xs)) : H' a = some (.tup xs) := h a _ (by intro ps z; cases z) e
end KW
set_option maxHeartbeats 8000000
namespace KW
open PySem L2

variable {g : Gx}
variable {src : List (Option Nat)} {te : TE} {σ : St} {H : Hp} {Q : VK}
variable {m : Nat}
local macro_rules | `(tactic| walk_at "gn") => `(tactic| simp only [gName, List.set_cons_zero, List.set_cons_succ])

local macro_rules | `(tactic| walk_at "rd") => `(tactic| simp (config := { failIfUnchanged := false, maxSteps := 10000000 }) only [L2.start, cxOf_K, nox_K, List.map_cons, List.map_nil, List.length_cons, List.length_nil, List.cons_append, List.nil_append, List.replicate_succ, List.replicate_zero, Nat.zero_add, Nat.reduceAdd, Nat.reduceSub, Nat.sub_self, tSeq, tIfS, tTest, tOp, tC, tVar, rI0, rI, rU, tUn, tRet, tRetN, tDrop, tNext, tBreak, tCont, tAsg, gName, gNil, gCons, tCons, tNil, tCB, tCall, tTry, tTryAs, tRaise, sFld, tFld, tMake, tMeth, Ends.gone, caught_K, tB, tAnd, tOr, tNot, tAndV, tOrV, tNotV, tIf, tChain, tNoPart, tPart, tSl, tNever, tAug, rIxL, rIxT, rSlL, tLst, tTup, gTup, tRev, tLZ, tConT, tDict0, tDNewT, tDGet, sDPut, rNotInD, rInD, tEither, tSlStep, rBits, rFind, rIn, tBM, tBM0, rAppend, rReverse, rEq, rNe, scal_ii, scal_ss, rCat, rSetL, gSub, ipI, capSt, List.getD_cons_zero, List.getD_cons_succ, decide_true, not_true_eq_false, not_false_eq_true,
  exists_eq_left', exists_eq_left, exists_eq', exists_eq, exists_and_left, and_assoc, Option.some.injEq, V.int.injEq, V.bl.injEq, V.ref.injEq, V.str.injEq, List.getElem?_cons_zero, List.getElem?_cons_succ, List.set_cons_zero, List.set_cons_succ, List.cons.injEq, and_true, true_and, List.append_nil, decide_eq_true_eq, Bool.not_eq_true', decide_eq_false_iff_not, Bool.not_not, Bool.not_true, Bool.not_false, Bool.true_eq_false, Bool.false_eq_true, if_true, if_false, ite_true, ite_false])
end KW
set_option maxHeartbeats 8000000
namespace KW
open PySem L2

variable {g : Gx}
variable {src : List (Option Nat)} {te : TE} {σ : St} {H : Hp} {Q : VK}
variable {m : Nat}
local macro_rules | `(tactic| walk_at "gn") => `(tactic| simp only [gName, List.set_cons_zero, List.set_cons_succ])

local macro_rules | `(tactic| walk_at "rd") => `(tactic| simp (config := { failIfUnchanged := false, maxSteps := 10000000 }) only [L2.start, cxOf_K, nox_K, List.map_cons, List.map_nil, List.length_cons, List.length_nil, List.cons_append, List.nil_append, List.replicate_succ, List.replicate_zero, Nat.zero_add, Nat.reduceAdd, Nat.reduceSub, Nat.sub_self, tSeq, tIfS, tTest, tOp, tC, tVar, rI0, rI, rU, tUn, tRet, tRetN, tDrop, tNext, tBreak, tCont, tAsg, gName, gNil, gCons, tCons, tNil, tCB, tCall, tTry, tTryAs, tRaise, sFld, tFld, tMake, tMeth, Ends.gone, caught_K, tB, tAnd, tOr, tNot, tAndV, tOrV, tNotV, tIf, tChain, tNoPart, tPart, tSl, tNever, tAug, rIxL, rIxT, rSlL, tLst, tTup, gTup, tRev, tLZ, tConT, tDict0, tDNewT, tDGet, sDPut, rNotInD, rInD, tEither, tSlStep, rBits, rFind, rIn, tBM, tBM0, rAppend, rReverse, rEq, rNe, scal_ii, scal_ss, rCat, rSetL, gSub, ipI, capSt, List.getD_cons_zero, List.getD_cons_succ, decide_true, not_true_eq_false, not_false_eq_true,
  exists_eq_left', exists_eq_left, exists_eq', exists_eq, exists_and_left, and_assoc, Option.some.injEq, V.int.injEq, V.bl.injEq, V.ref.injEq, V.str.injEq, List.getElem?_cons_zero, List.getElem?_cons_succ, List.set_cons_zero, List.set_cons_succ, List.cons.injEq, and_true, true_and, List.append_nil, decide_eq_true_eq, Bool.not_eq_true', decide_eq_false_iff_not, Bool.not_not, Bool.not_true, Bool.not_false, Bool.true_eq_false, Bool.false_eq_true, if_true, if_false, ite_true, ite_false])

theorem body_law {k : Nat} {C_Found : Addr} {C_Lister : Addr} {C_ManyMaker : Addr} {C_WholeMaker : Addr} {c_deed_judge P_deed_judge : Addr} {c_law_thing P_law_thing : Addr} (F_deed_judge : g.Fn k "deed_judge" ["begin", "done", "model_begin", "model_done"] (sp_deed_judge g P_deed_judge)) (F_all_values : g.FnD k "all_values" ["book", "shape", "size", "most"] [] (sp_all_values g.K)) (F_tried : g.FnD k "tried" ["book", "shape", "judge", "size", "most"] [] (sp_tried g)) (F_law_cell_at : g.Fn k "_law_cell_at" ["_law_script", "_law_k"] (sp_law_cell_at g.K)) (F_law_whole : g.Fn k "_law_whole" ["_law_found"] (sp_law_whole)) (F_law_thing : g.Fn k "_law_thing" ["_law_low", "_law_more", "_law_many", "_law_bad"] (sp_law_thing g P_law_thing)) (F_law_breach : g.Fn k "_law_breach" ["_law_low", "_law_more", "_law_bad", "_law_deeds"] (sp_breach g.K)) (b_isinstance : g.mg "isinstance" = none) (b_len : g.mg "len" = none) (b_range : g.mg "range" = none) (b_tuple : g.mg "tuple" = none) (hnd : ([P_deed_judge, P_law_thing] : List Addr).Nodup) : Body g k ["_law_script", "_law_low", "_law_part", "_law_size", "_law_more", "_law_bad", "_law_many", "_law_cell", "_law_one", "_law_other", "_law_judge", "_law_values", "_law_k", "_law_due", "_law_found"] "law" s_law (spTrueT g.K [("deed_judge", c_deed_judge, P_deed_judge), ("_law_thing", c_law_thing, P_law_thing)]) := by
  refine fun f_ cdv A outer s H vs Q E hr h => ?_
  obtain ⟨a, ns, rfl, hS, hl, ht, q⟩ := h
  refine ⟨_, (@pss_cons _ _ _ _ _ (@ps_set _ _ (1) _ _ _ _ sc_law.nd rfl (Or.inl rfl) (@pe_op _ _ _ _ _ _ _ _ op_sub (@pe_op _ _ _ _ _ _ _ _ op_mod (@pe_fn _ _ _ _ _ _ _ _ _ _ _ _ F_law_cell_at hr (@pa_cons _ _ _ _ _ (@pv _ 0 _ _ (by rfl) (by first | exact Or.inl rfl | exact Or.inr (Or.inl rfl) | exact Or.inr (Or.inr rfl)) (by decide) (by decide)) (@pa_cons _ _ _ _ _ pe_int pa_nil (by rfl)) (by rfl)) (by omega) (by rfl) (by rfl) (by decide) (by rfl) (by rfl)) (@pe_op _ _ _ _ _ _ _ _ op_pow pe_int pe_int)) (@pe_op _ _ _ _ _ _ _ _ op_mulC pe_int (@pe_op _ _ _ _ _ _ _ _ op_pow pe_int pe_int))) (by rfl) (by first | exact .inl rfl | exact .inr rfl | assumption)) (@pss_cons _ _ _ _ _ (@ps_set _ _ (2) _ _ _ _ sc_law.nd rfl (Or.inl rfl) (@pe_tup _ _ _ _ _ (@pa_cons _ _ _ _ _ pe_str (@pa_cons _ _ _ _ _ (@pv _ 1 _ _ (by rfl) (by first | exact Or.inl rfl | exact Or.inr (Or.inl rfl) | exact Or.inr (Or.inr rfl)) (by decide) (by decide)) (@pa_cons _ _ _ _ _ (@pe_op _ _ _ _ _ _ _ _ op_add (@pe_op _ _ _ _ _ _ _ _ op_add (@pv _ 1 _ _ (by rfl) (by first | exact Or.inl rfl | exact Or.inr (Or.inl rfl) | exact Or.inr (Or.inr rfl)) (by decide) (by decide)) pe_int) (@pe_op _ _ _ _ _ _ _ _ op_mod (@pe_fn _ _ _ _ _ _ _ _ _ _ _ _ F_law_cell_at hr (@pa_cons _ _ _ _ _ (@pv _ 0 _ _ (by rfl) (by first | exact Or.inl rfl | exact Or.inr (Or.inl rfl) | exact Or.inr (Or.inr rfl)) (by decide) (by decide)) (@pa_cons _ _ _ _ _ pe_int pa_nil (by rfl)) (by rfl)) (by omega) (by rfl) (by rfl) (by decide) (by rfl) (by rfl)) pe_int)) pa_nil (by rfl)) (by rfl)) (by rfl))) (by rfl) (by first | exact .inl rfl | exact .inr rfl | assumption)) (@pss_cons _ _ _ _ _ (@ps_set _ _ (3) _ _ _ _ sc_law.nd rfl (Or.inl rfl) (@pe_op _ _ _ _ _ _ _ _ op_mod (@pe_fn _ _ _ _ _ _ _ _ _ _ _ _ F_law_cell_at hr (@pa_cons _ _ _ _ _ (@pv _ 0 _ _ (by rfl) (by first | exact Or.inl rfl | exact Or.inr (Or.inl rfl) | exact Or.inr (Or.inr rfl)) (by decide) (by decide)) (@pa_cons _ _ _ _ _ pe_int pa_nil (by rfl)) (by rfl)) (by omega) (by rfl) (by rfl) (by decide) (by rfl) (by rfl)) pe_int) (by rfl) (by first | exact .inl rfl | exact .inr rfl | assumption)) (@pss_cons _ _ _ _ _ (@ps_set _ _ (4) _ _ _ _ sc_law.nd rfl (Or.inl rfl) (@pe_op _ _ _ _ _ _ _ _ op_mod (@pe_fn _ _ _ _ _ _ _ _ _ _ _ _ F_law_cell_at hr (@pa_cons _ _ _ _ _ (@pv _ 0 _ _ (by rfl) (by first | exact Or.inl rfl | exact Or.inr (Or.inl rfl) | exact Or.inr (Or.inr rfl)) (by decide) (by decide)) (@pa_cons _ _ _ _ _ pe_int pa_nil (by rfl)) (by rfl)) (by omega) (by rfl) (by rfl) (by decide) (by rfl) (by rfl)) pe_int) (by rfl) (by first | exact .inl rfl | exact .inr rfl | assumption)) (@pss_cons _ _ _ _ _ (@ps_set _ _ (5) _ _ _ _ sc_law.nd rfl (Or.inl rfl) (@pe_op _ _ _ _ _ _ _ _ op_add pe_int (@pe_op _ _ _ _ _ _ _ _ op_mod (@pe_fn _ _ _ _ _ _ _ _ _ _ _ _ F_law_cell_at hr (@pa_cons _ _ _ _ _ (@pv _ 0 _ _ (by rfl) (by first | exact Or.inl rfl | exact Or.inr (Or.inl rfl) | exact Or.inr (Or.inr rfl)) (by decide) (by decide)) (@pa_cons _ _ _ _ _ pe_int pa_nil (by rfl)) (by rfl)) (by omega) (by rfl) (by rfl) (by decide) (by rfl) (by rfl)) pe_int)) (by rfl) (by first | exact .inl rfl | exact .inr rfl | assumption)) (@pss_cons _ _ _ _ _ (@ps_set _ _ (6) _ _ _ _ sc_law.nd rfl (Or.inl rfl) (@pe_op _ _ _ _ _ _ _ _ op_add pe_int (@pe_op _ _ _ _ _ _ _ _ op_mod (@pe_fn _ _ _ _ _ _ _ _ _ _ _ _ F_law_cell_at hr (@pa_cons _ _ _ _ _ (@pv _ 0 _ _ (by rfl) (by first | exact Or.inl rfl | exact Or.inr (Or.inl rfl) | exact Or.inr (Or.inr rfl)) (by decide) (by decide)) (@pa_cons _ _ _ _ _ pe_int pa_nil (by rfl)) (by rfl)) (by omega) (by rfl) (by rfl) (by decide) (by rfl) (by rfl)) pe_int)) (by rfl) (by first | exact .inl rfl | exact .inr rfl | assumption)) (@pss_cons _ _ _ _ _ (@ps_for _ _ _ _ _ _ _ _ PassesOwn.never rfl (@pi_list _ _ _ _ (@pe_slice _ _ _ _ _ _ _ _ _ _ sl_list (@pv _ 0 _ _ (by rfl) (by first | exact Or.inl rfl | exact Or.inr (Or.inl rfl) | exact Or.inr (Or.inr rfl)) (by decide) (by decide)) (@po_some _ _ _ pe_int) po_none)) (@pg_name _ _ (7) _ sc_law.nd rfl (Or.inl rfl) (by first | exact .inl rfl | exact .inr rfl | assumption)) (@pss_one _ _ _ (@ps_set _ _ (5) _ _ _ _ sc_law.nd rfl (Or.inl rfl) (@pe_op _ _ _ _ _ _ _ _ op_add pe_int (@pe_op _ _ _ _ _ _ _ _ op_mod (@pe_op _ _ _ _ _ _ _ _ op_add (@pe_op _ _ _ _ _ _ _ _ op_mulC (@pv _ 5 _ _ (by rfl) (by first | exact Or.inl rfl | exact Or.inr (Or.inl rfl) | exact Or.inr (Or.inr rfl)) (by decide) (by decide)) pe_int) (@pv _ 7 _ _ (by rfl) (by first | exact Or.inl rfl | exact Or.inr (Or.inl rfl) | exact Or.inr (Or.inr rfl)) (by decide) (by decide))) pe_int)) (by rfl) (by first | exact .inl rfl | exact .inr rfl | assumption))) (by intro _; rfl)) (@pss_cons _ _ _ _ _ (@ps_set _ _ (8) _ _ _ _ sc_law.nd rfl (Or.inl rfl) (@pe_fn _ _ _ _ _ _ _ _ _ _ _ _ F_law_thing hr (@pa_cons _ _ _ _ _ (@pv _ 1 _ _ (by rfl) (by first | exact Or.inl rfl | exact Or.inr (Or.inl rfl) | exact Or.inr (Or.inr rfl)) (by decide) (by decide)) (@pa_cons _ _ _ _ _ (@pv _ 4 _ _ (by rfl) (by first | exact Or.inl rfl | exact Or.inr (Or.inl rfl) | exact Or.inr (Or.inr rfl)) (by decide) (by decide)) (@pa_cons _ _ _ _ _ (@pv _ 6 _ _ (by rfl) (by first | exact Or.inl rfl | exact Or.inr (Or.inl rfl) | exact Or.inr (Or.inr rfl)) (by decide) (by decide)) (@pa_cons _ _ _ _ _ (@pe_op _ _ _ _ _ _ _ _ op_pow pe_int pe_int) pa_nil (by rfl)) (by rfl)) (by rfl)) (by rfl)) (by omega) (by rfl) (by rfl) (by decide) (by rfl) (by rfl)) (by rfl) (by first | exact .inl rfl | exact .inr rfl | assumption)) (@pss_cons _ _ _ _ _ (@ps_set _ _ (9) _ _ _ _ sc_law.nd rfl (Or.inl rfl) (@pe_fn _ _ _ _ _ _ _ _ _ _ _ _ F_law_thing hr (@pa_cons _ _ _ _ _ (@pv _ 1 _ _ (by rfl) (by first | exact Or.inl rfl | exact Or.inr (Or.inl rfl) | exact Or.inr (Or.inr rfl)) (by decide) (by decide)) (@pa_cons _ _ _ _ _ (@pv _ 4 _ _ (by rfl) (by first | exact Or.inl rfl | exact Or.inr (Or.inl rfl) | exact Or.inr (Or.inr rfl)) (by decide) (by decide)) (@pa_cons _ _ _ _ _ (@pv _ 6 _ _ (by rfl) (by first | exact Or.inl rfl | exact Or.inr (Or.inl rfl) | exact Or.inr (Or.inr rfl)) (by decide) (by decide)) (@pa_cons _ _ _ _ _ (@pv _ 5 _ _ (by rfl) (by first | exact Or.inl rfl | exact Or.inr (Or.inl rfl) | exact Or.inr (Or.inr rfl)) (by decide) (by decide)) pa_nil (by rfl)) (by rfl)) (by rfl)) (by rfl)) (by omega) (by rfl) (by rfl) (by decide) (by rfl) (by rfl)) (by rfl) (by first | exact .inl rfl | exact .inr rfl | assumption)) (@pss_cons _ _ _ _ _ (@ps_set _ _ (10) _ _ _ _ sc_law.nd rfl (Or.inl rfl) (@pe_fn _ _ _ _ _ _ _ _ _ _ _ _ F_deed_judge hr (@pa_cons _ _ _ _ _ (@pe_ix _ _ _ _ _ _ _ ix_tup (@pv _ 8 _ _ (by rfl) (by first | exact Or.inl rfl | exact Or.inr (Or.inl rfl) | exact Or.inr (Or.inr rfl)) (by decide) (by decide)) pe_int (fun _ _ => rfl)) (@pa_cons _ _ _ _ _ (@pe_ix _ _ _ _ _ _ _ ix_tup (@pv _ 8 _ _ (by rfl) (by first | exact Or.inl rfl | exact Or.inr (Or.inl rfl) | exact Or.inr (Or.inr rfl)) (by decide) (by decide)) pe_int (fun _ _ => rfl)) (@pa_cons _ _ _ _ _ (@pe_ix _ _ _ _ _ _ _ ix_tup (@pv _ 9 _ _ (by rfl) (by first | exact Or.inl rfl | exact Or.inr (Or.inl rfl) | exact Or.inr (Or.inr rfl)) (by decide) (by decide)) pe_int (fun _ _ => rfl)) (@pa_cons _ _ _ _ _ (@pe_ix _ _ _ _ _ _ _ ix_tup (@pv _ 9 _ _ (by rfl) (by first | exact Or.inl rfl | exact Or.inr (Or.inl rfl) | exact Or.inr (Or.inr rfl)) (by decide) (by decide)) pe_int (fun _ _ => rfl)) pa_nil (by rfl)) (by rfl)) (by rfl)) (by rfl)) (by omega) (by rfl) (by rfl) (by decide) (by rfl) (by rfl)) (by rfl) (by first | exact .inl rfl | exact .inr rfl | assumption)) (@pss_cons _ _ _ _ _ (@ps_set _ _ (11) _ _ _ _ sc_law.nd rfl (Or.inl rfl) (@pe_lst _ _ _ _ pa_nil) (by rfl) (by first | exact .inl rfl | exact .inr rfl | assumption)) (@pss_cons _ _ _ _ _ (@ps_for _ _ _ _ _ _ _ _ PassesOwn.never rfl (@pi_range1 _ _ _ _ _ _ rfl b_range (@pa_cons _ _ _ _ _ (@pe_op _ _ _ _ _ _ _ _ op_add (@pv _ 3 _ _ (by rfl) (by first | exact Or.inl rfl | exact Or.inr (Or.inl rfl) | exact Or.inr (Or.inr rfl)) (by decide) (by decide)) pe_int) pa_nil (by rfl)) (by rfl)) (@pg_name _ _ (12) _ sc_law.nd rfl (Or.inl rfl) (by first | exact .inl rfl | exact .inr rfl | assumption)) (@pss_one _ _ _ (@ps_set _ _ (11) _ _ _ _ sc_law.nd rfl (Or.inl rfl) (@pe_op _ _ _ _ _ _ _ _ op_cat (@pv _ 11 _ _ (by rfl) (by first | exact Or.inl rfl | exact Or.inr (Or.inl rfl) | exact Or.inr (Or.inr rfl)) (by decide) (by decide)) (@pe_fnD _ _ _ _ _ _ _ _ _ _ _ _ _ F_all_values hr (@pa_cons _ _ _ _ _ (@pe_lst _ _ _ _ pa_nil) (@pa_cons _ _ _ _ _ (@pe_tup _ _ _ _ _ (@pa_cons _ _ _ _ _ pe_str (@pa_cons _ _ _ _ _ (@pv _ 2 _ _ (by rfl) (by first | exact Or.inl rfl | exact Or.inr (Or.inl rfl) | exact Or.inr (Or.inr rfl)) (by decide) (by decide)) pa_nil (by rfl)) (by rfl))) (@pa_cons _ _ _ _ _ (@pv _ 12 _ _ (by rfl) (by first | exact Or.inl rfl | exact Or.inr (Or.inl rfl) | exact Or.inr (Or.inr rfl)) (by decide) (by decide)) (@pa_cons _ _ _ _ _ pe_int pa_nil (by rfl)) (by rfl)) (star_tup _ _ _ _ _)) (star_lst _ _ _ _)) (by omega) (by rfl) (by rfl) (by decide) (by rfl) (by rfl))) (by rfl) (by first | exact .inl rfl | exact .inr rfl | assumption))) (by intro _; rfl)) (@pss_cons _ _ _ _ _ (@ps_set _ _ (13) _ _ _ _ sc_law.nd rfl (Or.inl rfl) (@pe_tup _ _ _ _ _ (@pa_cons _ _ _ _ _ pe_str (@pa_cons _ _ _ _ _ (@pe_bf _ _ _ _ _ _ _ _ _ _ b_len call_len_seq (@pa_cons _ _ _ _ _ (@pv _ 11 _ _ (by rfl) (by first | exact Or.inl rfl | exact Or.inr (Or.inl rfl) | exact Or.inr (Or.inr rfl)) (by decide) (by decide)) pa_nil (by rfl)) (by decide +kernel) (by rfl) (by rfl) (by decide) (by decide) (by rfl) (by rfl)) (@pa_cons _ _ _ _ _ pe_non pa_nil (by rfl)) (by rfl)) (by rfl))) (by rfl) (by first | exact .inl rfl | exact .inr rfl | assumption)) (@pss_cons _ _ _ _ _ (@ps_for _ _ _ _ _ _ _ _ PassesOwn.never rfl (@pi_range1 _ _ _ _ _ _ rfl b_range (@pa_cons _ _ _ _ _ (@pe_bf _ _ _ _ _ _ _ _ _ _ b_len call_len_seq (@pa_cons _ _ _ _ _ (@pv _ 11 _ _ (by rfl) (by first | exact Or.inl rfl | exact Or.inr (Or.inl rfl) | exact Or.inr (Or.inr rfl)) (by decide) (by decide)) pa_nil (by rfl)) (by decide +kernel) (by rfl) (by rfl) (by decide) (by decide) (by rfl) (by rfl)) pa_nil (by rfl)) (by rfl)) (@pg_name _ _ (12) _ sc_law.nd rfl (Or.inl rfl) (by first | exact .inl rfl | exact .inr rfl | assumption)) (@pss_one _ _ _ (@ps_if _ _ _ _ _ _ _ _ (@pw_and _ _ _ _ _ _ _ (@pt_cmpR _ _ _ _ _ _ _ _ op_eq (@pe_ix _ _ _ _ _ _ _ ix_tup (@pv _ 13 _ _ (by rfl) (by first | exact Or.inl rfl | exact Or.inr (Or.inl rfl) | exact Or.inr (Or.inr rfl)) (by decide) (by decide)) pe_int (fun _ _ => rfl)) pe_str (nomark _)) (@pw_and1 _ _ _ _ (@pt_val _ _ _ (@pe_fn _ _ _ _ _ _ _ _ _ _ _ _ F_law_breach hr (@pa_cons _ _ _ _ _ (@pv _ 1 _ _ (by rfl) (by first | exact Or.inl rfl | exact Or.inr (Or.inl rfl) | exact Or.inr (Or.inr rfl)) (by decide) (by decide)) (@pa_cons _ _ _ _ _ (@pv _ 4 _ _ (by rfl) (by first | exact Or.inl rfl | exact Or.inr (Or.inl rfl) | exact Or.inr (Or.inr rfl)) (by decide) (by decide)) (@pa_cons _ _ _ _ _ (@pv _ 5 _ _ (by rfl) (by first | exact Or.inl rfl | exact Or.inr (Or.inl rfl) | exact Or.inr (Or.inr rfl)) (by decide) (by decide)) (@pa_cons _ _ _ _ _ (@pe_ix _ _ _ _ _ _ _ ix_list (@pv _ 11 _ _ (by rfl) (by first | exact Or.inl rfl | exact Or.inr (Or.inl rfl) | exact Or.inr (Or.inr rfl)) (by decide) (by decide)) (@pv _ 12 _ _ (by rfl) (by first | exact Or.inl rfl | exact Or.inr (Or.inl rfl) | exact Or.inr (Or.inr rfl)) (by decide) (by decide)) (fun _ _ => rfl)) pa_nil (by rfl)) (by rfl)) (by rfl)) (by rfl)) (by omega) (by rfl) (by rfl) (by decide) (by rfl) (by rfl)) (by intro _; rfl)))).pt (@pss_one _ _ _ (@ps_set _ _ (13) _ _ _ _ sc_law.nd rfl (Or.inl rfl) (@pe_tup _ _ _ _ _ (@pa_cons _ _ _ _ _ pe_str (@pa_cons _ _ _ _ _ (@pe_op _ _ _ _ _ _ _ _ op_add (@pv _ 12 _ _ (by rfl) (by first | exact Or.inl rfl | exact Or.inr (Or.inl rfl) | exact Or.inr (Or.inr rfl)) (by decide) (by decide)) pe_int) (@pa_cons _ _ _ _ _ (@pe_ix _ _ _ _ _ _ _ ix_list (@pv _ 11 _ _ (by rfl) (by first | exact Or.inl rfl | exact Or.inr (Or.inl rfl) | exact Or.inr (Or.inr rfl)) (by decide) (by decide)) (@pv _ 12 _ _ (by rfl) (by first | exact Or.inl rfl | exact Or.inr (Or.inl rfl) | exact Or.inr (Or.inr rfl)) (by decide) (by decide)) (fun _ _ => rfl)) pa_nil (by rfl)) (by rfl)) (by rfl))) (by rfl) (by first | exact .inl rfl | exact .inr rfl | assumption))) pss_nil)) (by intro _; rfl)) (@pss_cons _ _ _ _ _ (@ps_set _ _ (14) _ _ _ _ sc_law.nd rfl (Or.inl rfl) (@pe_fnD _ _ _ _ _ _ _ _ _ _ _ _ _ F_tried hr (@pa_cons _ _ _ _ _ (@pe_lst _ _ _ _ pa_nil) (@pa_cons _ _ _ _ _ (@pe_tup _ _ _ _ _ (@pa_cons _ _ _ _ _ pe_str (@pa_cons _ _ _ _ _ (@pv _ 2 _ _ (by rfl) (by first | exact Or.inl rfl | exact Or.inr (Or.inl rfl) | exact Or.inr (Or.inr rfl)) (by decide) (by decide)) pa_nil (by rfl)) (by rfl))) (@pa_cons _ _ _ _ _ (@pv _ 10 _ _ (by rfl) (by first | exact Or.inl rfl | exact Or.inr (Or.inl rfl) | exact Or.inr (Or.inr rfl)) (by decide) (by decide)) (@pa_cons _ _ _ _ _ (@pv _ 3 _ _ (by rfl) (by first | exact Or.inl rfl | exact Or.inr (Or.inl rfl) | exact Or.inr (Or.inr rfl)) (by decide) (by decide)) (@pa_cons _ _ _ _ _ pe_int pa_nil (by rfl)) (by rfl)) (by rfl)) (star_tup _ _ _ _ _)) (star_lst _ _ _ _)) (by omega) (by rfl) (by rfl) (by decide) (by rfl) (by rfl)) (by rfl) (by first | exact .inl rfl | exact .inr rfl | assumption)) (@pss_cons _ _ _ _ _ (@ps_if _ _ _ _ _ _ _ _ (@pw_or _ _ _ _ _ _ _ (@pt_not _ _ _ _ (@pt_val _ _ _ (@pe_bf _ _ _ _ _ _ _ _ _ _ b_isinstance call_isinst (@pa_cons _ _ _ _ _ (@pv _ 14 _ _ (by rfl) (by first | exact Or.inl rfl | exact Or.inr (Or.inl rfl) | exact Or.inr (Or.inr rfl)) (by decide) (by decide)) (@pa_cons _ _ _ _ _ (@pe_bn _ _ _ _ ("tuple") b_tuple (by decide +kernel) (by rfl) (by rfl) (by decide) (by decide)) pa_nil (by rfl)) (by rfl)) (by decide +kernel) (by rfl) (by rfl) (by decide) (by decide) (by rfl) (by rfl)) (by intro _; rfl))) (@pw_or _ _ _ _ _ _ _ (@pt_cmpR _ _ _ _ _ _ _ _ op_ne (@pe_bf _ _ _ _ _ _ _ _ _ _ b_len call_len_seq (@pa_cons _ _ _ _ _ (@pv _ 14 _ _ (by rfl) (by first | exact Or.inl rfl | exact Or.inr (Or.inl rfl) | exact Or.inr (Or.inr rfl)) (by decide) (by decide)) pa_nil (by rfl)) (by decide +kernel) (by rfl) (by rfl) (by decide) (by decide) (by rfl) (by rfl)) pe_int (nomark _)) (@pw_or1 _ _ _ _ (@pt_not _ _ _ _ (@pt_val _ _ _ (@pe_fn _ _ _ _ _ _ _ _ _ _ _ _ F_law_whole hr (@pa_cons _ _ _ _ _ (@pe_ix _ _ _ _ _ _ _ ix_tup (@pv _ 14 _ _ (by rfl) (by first | exact Or.inl rfl | exact Or.inr (Or.inl rfl) | exact Or.inr (Or.inr rfl)) (by decide) (by decide)) pe_int (fun _ _ => rfl)) pa_nil (by rfl)) (by omega) (by rfl) (by rfl) (by decide) (by rfl) (by rfl)) (by intro _; rfl)))))).pt (@pss_one _ _ _ (@ps_ret _ _ _ _ pe_bl)) pss_nil) (@pss_one _ _ _ (@ps_ret _ _ _ _ (@pe_cmpR _ _ _ _ _ _ _ _ (op_eqD hr.units) (@pv _ 14 _ _ (by rfl) (by first | exact Or.inl rfl | exact Or.inr (Or.inl rfl) | exact Or.inr (Or.inr rfl)) (by decide) (by decide)) (@pv _ 13 _ _ (by rfl) (by first | exact Or.inl rfl | exact Or.inr (Or.inl rfl) | exact Or.inr (Or.inr rfl)) (by decide) (by decide)) (nomark _)))))))))))))))))))), ?_⟩
  have hTJ : H P_deed_judge = some (.tbl #[]) := ht _ (.head _)
  have hTT : H P_law_thing = some (.tbl #[]) := ht _ (.tail _ (.head _))
  have nTJ : P_law_thing ≠ P_deed_judge := fun z => by simp [z] at hnd
  refine cut5 (fun σ H' => ∃ (Pt : Addr) (lo more bad : Int) (span size : Nat), σ = [some (.ref a), some (.int lo), some (.ref Pt), some (.int size), some (.int more), some (.int bad), none, none, none, none, none, none, none, none, none] ∧ Same H H' ∧ H' Pt = some (.tup [.str "whole", .int lo, .int (lo + span)]) ∧ span < 4 ∧ size < 7 ∧ 0 ≤ more ∧ more ≤ 2 ∧ 1 ≤ bad ∧ bad ≤ 14) ?_ (fun N hN => ?_)
  rotate_left
  · walk_at "rd"
    have p1 : 0 ≤ ns.getD 1 0 % 3 := Int.emod_nonneg _ (by decide)
    have p1' : ns.getD 1 0 % 3 < 3 := Int.emod_lt_of_pos _ (by decide)
    have p2 : 0 ≤ ns.getD 2 0 % 7 := Int.emod_nonneg _ (by decide)
    have p2' : ns.getD 2 0 % 7 < 7 := Int.emod_lt_of_pos _ (by decide)
    have p3 : 0 ≤ ns.getD 3 0 % 3 := Int.emod_nonneg _ (by decide)
    have p3' : ns.getD 3 0 % 3 < 3 := Int.emod_lt_of_pos _ (by decide)
    have p4 : 0 ≤ ns.getD 4 0 % 14 := Int.emod_nonneg _ (by decide)
    have p4' : ns.getD 4 0 % 14 < 14 := Int.emod_lt_of_pos _ (by decide)
    refine ⟨a, ns, 0, rfl, hS, hl, cpow, _, rfl, by decide +kernel, cpow, .inl (cm (m := 3) (n := 197) (by decide +kernel) (by decide +kernel)), a, ns, 1, rfl, hS, hl, _, rfl, by decide, few (by decide), fun Pt hPt => ?_⟩
    have w := fun o => Same.upd_new hPt o
    refine ⟨a, ns, 2, rfl, (w _).seq hS, hl, _, rfl, by decide, a, ns, 3, rfl, (w _).seq hS, hl, _, rfl, by decide, a, ns, 4, rfl, (w _).seq hS, hl, _, rfl, by decide, hN _ _ ⟨Pt, _, _, _, (1 + ns.getD 1 0 % 3).toNat, (ns.getD 2 0 % 7).toNat, by rw [Int.toNat_of_nonneg p2], w _, ?_, by omega, by omega, p3, by omega, by omega, by omega⟩⟩
    rw [upd_same, Int.toNat_of_nonneg (by omega), Int.add_assoc]
  rintro σ H1 ⟨Pt, lo, more, bad, span, size, rfl, s1, hPt, hsp, hsz, hm0, hm2, hb1, hb2⟩
  refine cut2 (fun σ H' => ∃ (bad many : Int) (o : Option V), σ = [some (.ref a), some (.int lo), some (.ref Pt), some (.int size), some (.int more), some (.int bad), some (.int many), o, none, none, none, none, none, none, none] ∧ Same H1 H' ∧ 0 < many ∧ many ≤ 6) ?_ (fun N hN => ?_)
  rotate_left
  · walk_at "rd"
    refine ⟨a, ns, 5, rfl, s1.seq hS, hl, _, rfl, by decide, ?_⟩
    have p5 : 0 ≤ ns.getD 5 0 % 6 := Int.emod_nonneg _ (by decide)
    have p5' : ns.getD 5 0 % 6 < 6 := Int.emod_lt_of_pos _ (by decide)
    refine tFor_listN (K := g.K) (xs := (ns.drop 6).map V.int) (fun c i σ H' => (∃ (bad many : Int) (o : Option V), σ = [some (.ref a), some (.int lo), some (.ref Pt), some (.int size), some (.int more), some (.int bad), some (.int many), o, none, none, none, none, none, none, none] ∧ 1 ≤ bad ∧ bad ≤ 14 ∧ 0 < many ∧ many ≤ 6) ∧ Same H1 H' ∧ H' c = some (.lst ((ns.drop 6).map V.int))) (fun R r => ?_) (fun c i σ H' _ ⟨_, _, h⟩ => SqL.of h) ?_ ?_
    · walk_at "rd"
      have e6 : cutV (ns.map V.int) (some 6) none = (ns.drop 6).map V.int := by
        rw [show (6 : Int) = ((6 : Nat) : Int) from rfl, cutV_lo, List.map_drop]
      refine ⟨_, s1.seq hS, fun p g1 => ?_⟩
      rw [e6]
      exact r p _ ⟨⟨_, _, _, rfl, hb1, hb2, by omega, by omega⟩, .upd_new g1 _, upd_same⟩
    · rintro c i x σ H' hx ⟨⟨bad, many, o, rfl, hb1, hb2, hy0, hy6⟩, s2, hc⟩
      rw [List.getElem?_map] at hx
      obtain ⟨z, hz, rfl⟩ := Option.map_eq_some_iff.mp hx
      have c0 := Int.emod_nonneg (bad * 7 + z) (show (14 : Int) ≠ 0 by decide)
      have c1 := Int.emod_lt_of_pos (bad * 7 + z) (show (0 : Int) < 14 by decide)
      walk_at "rd"
      exact ⟨.inl (cm (m := 4) (n := 3) (by omega) (by decide)), by decide, by omega, by omega, hy0, hy6, s2, hc⟩
    · rintro c σ H' ⟨⟨bad, many, o, rfl, hb1, hb2, hy0, hy6⟩, s2, hc⟩
      walk_at "rd"
      exact hN _ _ ⟨bad, many, o, rfl, s2, hy0, hy6⟩
  rintro σ H2 ⟨bad, many, oc, rfl, s2, hy0, hy6⟩
  refine cut3 (fun σ H' => ∃ (t1 t2 jf : Addr), σ = [some (.ref a), some (.int lo), some (.ref Pt), some (.int size), some (.int more), some (.int bad), some (.int many), oc, some (.ref t1), some (.ref t2), some (.ref jf), none, none, none, none] ∧ Kt H2 H' ∧ JudgeOk g H' jf lo more bad) ?_ (fun N hN => ?_)
  rotate_left
  · walk_at "rd"
    have e6 : (10 : Int) ^ Int.toNat 6 = 1000000 := by decide +kernel
    rw [e6]
    have s12 := s1.trans s2
    refine ⟨cpow, lo, more, many, 1000000, rfl, hy0, hy6, .inl (s12 _ _ hTT), fun t1 b1 f1 H3 r1 r2 r3 r4 r5 => ?_⟩
    have kt3 := kt_but r5 (s12 _ _ hTT)
    obtain ⟨ps3, hps3⟩ := r4.tbl
    refine ⟨lo, more, many, bad, rfl, hy0, hy6, r4, fun t2 b2 f2 H4 u1 u2 u3 u4 u5 => ?_⟩
    have kt4 := kt_but u5 hps3
    have hJ4 : H4 P_deed_judge = some (.tbl #[]) := u5 _ _ (Ne.symm nTJ) (r5 _ _ (Ne.symm nTJ) (s12 _ _ hTJ))
    have q1 := kt4.tup r3
    refine ⟨_, rfl, _, SqT.of q1, _, rfl, _, rfl, _, SqT.of q1, _, rfl, _, rfl, _, SqT.of u3, _, rfl, _, rfl, _, SqT.of u3, _, rfl, b1, f1, b2, f2, lo, more, many, bad, rfl, r1.nl kt4.nl, r2.nl kt4.nl, u1, u2, hJ4, fun jf H5 jok kj => ?_⟩
    exact hN _ _ ⟨t1, t2, jf, rfl, (kt3.trans kt4).trans (kt_but kj hJ4), jok⟩
  rintro σ H3 ⟨t1, t2, jf, rfl, kt3, hj⟩
  have hPt3 := kt3.tup (s2 _ _ hPt)
  refine cut2 (fun σ H' => ∃ (Vs : Addr) (as : List Addr) (ok : Option V), σ = [some (.ref a), some (.int lo), some (.ref Pt), some (.int size), some (.int more), some (.int bad), some (.int many), oc, some (.ref t1), some (.ref t2), some (.ref jf), some (.ref Vs), ok, none, none] ∧ Same H3 H' ∧ H' Vs = some (.lst (as.map V.ref)) ∧ Rows H' as (vz lo span (size + 1))) ?_ (fun N hN => ?_)
  rotate_left
  · walk_at "rd"
    refine ⟨few (by decide), fun V0 g0 => ?_⟩
    refine tFor_range1 (n := size + 1) (fun i σ H' => ∃ (Vs : Addr) (as : List Addr) (ok : Option V), σ = [some (.ref a), some (.int lo), some (.ref Pt), some (.int size), some (.int more), some (.int bad), some (.int many), oc, some (.ref t1), some (.ref t2), some (.ref jf), some (.ref Vs), ok, none, none] ∧ Same H3 H' ∧ H' Vs = some (.lst (as.map V.ref)) ∧ Rows H' as (vz lo span i)) (fun R r => by walk_at "rd"; exact r) (by omega) ⟨V0, [], none, rfl, .upd_new g0 _, upd_same, ⟨rfl, fun i a zs e => by simp at e⟩⟩ ?_ ?_
    · rintro i σ H' hi ⟨Vs, as, ok, rfl, s4, hVs, hR⟩
      have hmc := mc_few hsp (show i < 7 by omega)
      have hlen := vz_len lo hsp i (by omega)
      walk_at "rd"
      refine ⟨few (by decide), fun E0' gE => ⟨few (by decide), fun Sh gS => ?_⟩⟩
      have wE := Same.upd_new gE (.lst [])
      have wS := Same.upd_new gS (.tup [.str "many", .ref Pt])
      have w := wE.trans wS
      refine ⟨Sh, .ref E0', lo, span, i, rfl, ⟨Pt, upd_same, w _ _ (s4 _ _ hPt3)⟩, by omega, all_big hsp, by omega, fun D bs H5 s5 gD hD hbl hbs => ?_⟩
      have w5 := w.trans s5
      refine ⟨_, rfl, _, w5 _ _ hVs, _, hD, few (by rw [List.length_map, List.length_map, hR.1, hbl]; omega), fun V2 g2 => ?_⟩
      have w2 := Same.upd_new g2 (.lst (as.map V.ref ++ bs.map V.ref))
      refine ⟨(s4.trans w5).trans w2, as ++ bs, by rw [upd_same, List.map_append], ?_⟩
      rw [vz_succ]
      exact ((hR.keep w5).app (rows_zk hbl fun j z e => (hbs j z e).2)).keep w2
    · rintro σ H' ⟨Vs, as, ok, rfl, s4, hVs, hR⟩
      walk_at "rd"
      exact hN _ _ ⟨Vs, as, ok, rfl, s4, hVs, hR⟩
  rintro σ H4 ⟨Vs, as, ok, rfl, s4, hVs, hR⟩
  have hzl := vz_len lo hsp (size + 1) (by omega)
  obtain ⟨zss, hzss⟩ : ∃ zss, zss = vz lo span (size + 1) := ⟨_, rfl⟩
  rw [← hzss] at hR hzl
  have hal := hR.1
  refine cut2 (fun σ H' => ∃ (t : Addr) (ok : Option V) (o : Option Nat), σ = [some (.ref a), some (.int lo), some (.ref Pt), some (.int size), some (.int more), some (.int bad), some (.int many), oc, some (.ref t1), some (.ref t2), some (.ref jf), some (.ref Vs), ok, some (.ref t), none] ∧ Same H4 H' ∧ H' t = some (.tup (told as zss.length o)) ∧ IsF (pj lo more bad zss) zss.length o) ?_ (fun N hN => ?_)
  rotate_left
  · walk_at "rd"
    refine ⟨_, .inl (SqL.of hVs), few (by decide), fun t0 g0 => ?_⟩
    rw [List.length_map, hal]
    refine tFor_range1 (n := zss.length) (fun i σ H' => ∃ (t : Addr) (ok : Option V) (o : Option Nat), σ = [some (.ref a), some (.int lo), some (.ref Pt), some (.int size), some (.int more), some (.int bad), some (.int many), oc, some (.ref t1), some (.ref t2), some (.ref jf), some (.ref Vs), ok, some (.ref t), none] ∧ Same H4 H' ∧ H' t = some (.tup (told as zss.length o)) ∧ IsF (pj lo more bad zss) i o) (fun R r => by walk_at "rd"; exact ⟨_, .inl (SqL.of ((Same.upd_new g0 _) _ _ hVs)), by rw [List.length_map, hal]; exact r⟩) (by omega) ⟨t0, ok, none, rfl, .upd_new g0 _, upd_same, fun j hj => by omega⟩ ?_ ?_
    · rintro i σ H' hi ⟨t, ok, o, rfl, s5, ht, ho⟩
      have ha : as[i]? = some (as[i]'(by omega)) := List.getElem?_eq_getElem _
      have hzi : zss[i]? = some zss[i] := List.getElem?_eq_getElem hi
      have hra := s5 _ _ (hR.2 i _ _ ha hzi)
      have hva : (as.map V.ref)[i]? = some (.ref (as[i]'(by omega))) := by rw [List.getElem?_map, ha]; rfl
      have hpj : pj lo more bad zss i = !brk lo more bad zss[i] := by
        show (!brk lo more bad (zss.getD i [])) = _
        rw [List.getD_eq_getElem?_getD, hzi]; rfl
      walk_at "rd"
      cases o with
      | none =>
        refine ⟨_, SqT.of ht, _, rfl, scal_ss _ _, iteY rfl ⟨_, SqL.of (s5 _ _ hVs), _, atI_nat hva, lo, more, bad, _, _, rfl, hra, _, rfl, ?_⟩⟩
        cases hb : brk lo more bad zss[i] with
        | true =>
          refine iteY rfl ⟨_, SqL.of (s5 _ _ hVs), _, atI_nat hva, few (by decide), fun t2 g2 => ?_⟩
          have w2 := Same.upd_new g2 (.tup [.str "breach", .int ((i : Int) + 1), .ref (as[i]'(by omega))])
          refine ⟨s5.trans w2, some i, ?_, by omega, by rw [hpj, hb]; rfl, ho⟩
          rw [upd_same, told, List.getD_eq_getElem?_getD, ha]; rfl
        | false =>
          refine iteN (by decide) ⟨s5, none, ht, fun j hj => ?_⟩
          rcases Nat.lt_succ_iff_lt_or_eq.mp hj with c | rfl
          · exact ho j c
          · rw [hpj, hb]; rfl
      | some i' =>
        refine ⟨_, SqT.of ht, _, rfl, scal_ss _ _, iteN (by decide +kernel) ⟨s5, some i', ht, by have := ho.1; omega, ho.2⟩⟩
    · rintro σ H' ⟨t, ok, o, rfl, s5, ht, ho⟩
      walk_at "rd"
      exact hN _ _ ⟨t, ok, o, rfl, s5, ht, ho⟩
  rintro σ H5 ⟨t, ok', o, rfl, s5, ht5, ho⟩
  walk_at "rd"
  refine ⟨few (by decide), fun E0' gE => ⟨few (by decide), fun Sh gS => ?_⟩⟩
  have wE := Same.upd_new gE (.lst [])
  have wS := Same.upd_new gS (.tup [.str "many", .ref Pt])
  have w := wE.trans wS
  have w35 := (s4.trans s5).trans w
  refine ⟨jf, Sh, .ref E0', lo, more, bad, span, size, rfl, ⟨Pt, upd_same, w35 _ _ hPt3⟩, hsp, hsz, hm0, hm2, hj.nl (nl_of w35), fun o' t' as' H6 ho' hR' ht' s6 => ?_⟩
  rw [← hzss] at ho' hR' ht'
  have := isF_one ho ho'
  subst this
  have w6 := w.trans s6
  have d1 : Den g.K H6 (.ref t') _ := den_told ht' hR' ho
  have d2 : Den g.K H6 (.ref t) _ := den_told (w6 _ _ ht5) (hR.keep (s5.trans w6)) ho
  have h3 : (told as' zss.length o).length = 3 := by cases o <;> rfl
  have h1 : ∃ i : Int, atI (told as' zss.length o) 1 = some (.int i) := by cases o <;> exact ⟨_, rfl⟩
  obtain ⟨i1, hi1⟩ := h1
  refine ⟨_, rfl, _, .tup ht', true, rfl, iteN (by decide) ⟨_, rfl, _, .inr (SqT.of ht'), iteN (by rw [h3]; decide) ⟨_, rfl, _, SqT.of ht', _, hi1, i1, rfl, _, rfl, iteN (by decide) ⟨_, d1, _, d2, depth_dt _ _ _, ?_⟩⟩⟩⟩
  rw [PySem.SeqAt.eqv_refl _ d1.lay]
  exact q H6
end KW
set_option maxHeartbeats 8000000
namespace KW
open PySem L2

variable {g : Gx}
variable {src : List (Option Nat)} {te : TE} {σ : St} {H : Hp} {Q : VK}
variable {m : Nat}
local macro_rules | `(tactic| walk_at "gn") => `(tactic| simp only [gName, List.set_cons_zero, List.set_cons_succ])

local macro_rules | `(tactic| walk_at "rd") => `(tactic| simp (config := { failIfUnchanged := false, maxSteps := 10000000 }) only [L2.start, cxOf_K, nox_K, List.map_cons, List.map_nil, List.length_cons, List.length_nil, List.cons_append, List.nil_append, List.replicate_succ, List.replicate_zero, Nat.zero_add, Nat.reduceAdd, Nat.reduceSub, Nat.sub_self, tSeq, tIfS, tTest, tOp, tC, tVar, rI0, rI, rU, tUn, tRet, tRetN, tDrop, tNext, tBreak, tCont, tAsg, gName, gNil, gCons, tCons, tNil, tCB, tCall, tTry, tTryAs, tRaise, sFld, tFld, tMake, tMeth, Ends.gone, caught_K, tB, tAnd, tOr, tNot, tAndV, tOrV, tNotV, tIf, tChain, tNoPart, tPart, tSl, tNever, tAug, rIxL, rIxT, rSlL, tLst, tTup, gTup, tRev, tLZ, tConT, tDict0, tDNewT, tDGet, sDPut, rNotInD, rInD, tEither, tSlStep, rBits, rFind, rIn, tBM, tBM0, rAppend, rReverse, rEq, rNe, scal_ii, scal_ss, rCat, rSetL, gSub, ipI, capSt, List.getD_cons_zero, List.getD_cons_succ, decide_true, not_true_eq_false, not_false_eq_true,
  exists_eq_left', exists_eq_left, exists_eq', exists_eq, exists_and_left, and_assoc, Option.some.injEq, V.int.injEq, V.bl.injEq, V.ref.injEq, V.str.injEq, List.getElem?_cons_zero, List.getElem?_cons_succ, List.set_cons_zero, List.set_cons_succ, List.cons.injEq, and_true, true_and, List.append_nil, decide_eq_true_eq, Bool.not_eq_true', decide_eq_false_iff_not, Bool.not_not, Bool.not_true, Bool.not_false, Bool.true_eq_false, Bool.false_eq_true, if_true, if_false, ite_true, ite_false])

structure Top (K : PySem.W.Frag) (mg : Str → Option Value) (C_Found : Addr) (C_Lister : Addr) (C_ManyMaker : Addr) (C_WholeMaker : Addr) (c_deed_judge P_deed_judge : Addr) (c_law_thing P_law_thing : Addr) : Prop where
  f_law_whole : ∀ P w base, (Gx.mk P w K mg base).Raw "_law_whole" "_law_whole" s_law_whole ["_law_found"]
  f_law_cell_at : ∀ P w base, (Gx.mk P w K mg base).Raw "_law_cell_at" "_law_cell_at" s_law_cell_at ["_law_script", "_law_k"]
  f_Maker___init__ : ∀ P w base, (Gx.mk P w K mg base).RawC "Maker" "__init__" "Maker.__init__" s_Maker___init__ ["self"]
  f_WholeMaker___init__ : ∀ P w base, (Gx.mk P w K mg base).RawI "WholeMaker" C_WholeMaker "WholeMaker.__init__" s_WholeMaker___init__ ["self", "low", "high"]
  f_least_distance : ∀ P w base, (Gx.mk P w K mg base).Raw "least_distance" "least_distance" s_least_distance ["size"]
  f_WholeMaker_reckoned : ∀ P w base, (Gx.mk P w K mg base).RawM C_WholeMaker "reckoned" "WholeMaker.reckoned" s_WholeMaker_reckoned ["self", "size"]
  f_WholeMaker_count_at : ∀ P w base, (Gx.mk P w K mg base).RawM C_WholeMaker "count_at" "Maker.count_at" s_WholeMaker_count_at ["self", "size"]
  f_ways_of : ∀ P w base, (Gx.mk P w K mg base).Raw "ways_of" "ways_of" s_ways_of ["blocks"]
  f_ManyMaker_blocks_at : ∀ P w base, (Gx.mk P w K mg base).RawM C_ManyMaker "blocks_at" "ManyMaker.blocks_at" s_ManyMaker_blocks_at ["self", "left"]
  f_ManyMaker_reckoned : ∀ P w base, (Gx.mk P w K mg base).RawM C_ManyMaker "reckoned" "ManyMaker.reckoned" s_ManyMaker_reckoned ["self", "size"]
  f_ManyMaker_count_at : ∀ P w base, (Gx.mk P w K mg base).RawM C_ManyMaker "count_at" "Maker.count_at" s_ManyMaker_count_at ["self", "size"]
  f_ManyMaker___init__ : ∀ P w base, (Gx.mk P w K mg base).RawI "ManyMaker" C_ManyMaker "ManyMaker.__init__" s_ManyMaker___init__ ["self", "part"]
  f_Lister___init__ : ∀ P w base, (Gx.mk P w K mg base).RawI "Lister" C_Lister "Lister.__init__" s_Lister___init__ ["self", "book"]
  f_parts_of : ∀ P w base, (Gx.mk P w K mg base).Raw "parts_of" "parts_of" s_parts_of ["shape"]
  f_Lister_new_maker : ∀ P w base, (Gx.mk P w K mg base).RawM C_Lister "new_maker" "Lister.new_maker" s_Lister_new_maker ["self", "shape"]
  f_Lister_maker_of : ∀ P w base, (Gx.mk P w K mg base).RawM C_Lister "maker_of" "Lister.maker_of" s_Lister_maker_of ["self", "shape"]
  f_maker_for : ∀ P w base, (Gx.mk P w K mg base).Raw "maker_for" "maker_for" s_maker_for ["book", "shape"]
  f_Found___init__ : ∀ P w base, (Gx.mk P w K mg base).RawI "Found" C_Found "Found.__init__" s_Found___init__ ["self", "place", "choice", "rest"]
  f_found_in : ∀ P w base, (Gx.mk P w K mg base).Raw "found_in" "found_in" s_found_in ["blocks", "number"]
  f_WholeMaker_value_at : ∀ P w base, (Gx.mk P w K mg base).RawM C_WholeMaker "value_at" "WholeMaker.value_at" s_WholeMaker_value_at ["self", "size", "number"]
  f_ManyMaker_value_at : ∀ P w base, (Gx.mk P w K mg base).RawM C_ManyMaker "value_at" "ManyMaker.value_at" s_ManyMaker_value_at ["self", "size", "number"]
  f_all_made : ∀ P w base, (Gx.mk P w K mg base).Raw "all_made" "all_made" s_all_made ["maker", "size"]
  f_refuse_too_many : ∀ P w base, (Gx.mk P w K mg base).Raw "refuse_too_many" "refuse_too_many" s_refuse_too_many ["count", "most"]
  f_all_values : ∀ P w base, (Gx.mk P w K mg base).RawD "all_values" "all_values" s_all_values ["book", "shape", "size", "most"] []
  f_copied : ∀ P w base, (Gx.mk P w K mg base).Raw "copied" "copied" s_copied ["thing"]
  f_is_whole_number : ∀ P w base, (Gx.mk P w K mg base).Raw "is_whole_number" "is_whole_number" s_is_whole_number ["thing"]
  f_is_truth : ∀ P w base, (Gx.mk P w K mg base).Raw "is_truth" "is_truth" s_is_truth ["thing"]
  f_same : ∀ P w base, (Gx.mk P w K mg base).Raw "same" "same" s_same ["one", "other"]
  f_apart : ∀ P w base, (Gx.mk P w K mg base).Raw "apart" "apart" s_apart ["begin", "done", "model_begin", "model_done", "deeds"]
  f_law_thing : ∀ P w base, (Gx.mk P w K mg base).RawT "_law_thing" "_law_thing" s_law_thing ["_law_low", "_law_more", "_law_many", "_law_bad"] c_law_thing
  f_deed_judge : ∀ P w base, (Gx.mk P w K mg base).RawT "deed_judge" "deed_judge" s_deed_judge ["begin", "done", "model_begin", "model_done"] c_deed_judge
  f_holds : ∀ P w base, (Gx.mk P w K mg base).Raw "holds" "holds" s_holds ["judge", "value"]
  f_tried_on : ∀ P w base, (Gx.mk P w K mg base).Raw "tried_on" "tried_on" s_tried_on ["judge", "values"]
  f_tried : ∀ P w base, (Gx.mk P w K mg base).RawD "tried" "tried" s_tried ["book", "shape", "judge", "size", "most"] []
  f_law_breach : ∀ P w base, (Gx.mk P w K mg base).Raw "_law_breach" "_law_breach" s_law_breach ["_law_low", "_law_more", "_law_bad", "_law_deeds"]
  cl_Found : Cls K C_Found
  n_Found_place : NoAttr K C_Found "place"
  n_Found_choice : NoAttr K C_Found "choice"
  n_Found_rest : NoAttr K C_Found "rest"
  cl_Lister : Cls K C_Lister
  n_Lister_book : NoAttr K C_Lister "book"
  n_Lister_makers : NoAttr K C_Lister "makers"
  cl_ManyMaker : Cls K C_ManyMaker
  n_ManyMaker_counts : NoAttr K C_ManyMaker "counts"
  n_ManyMaker_part : NoAttr K C_ManyMaker "part"
  cl_WholeMaker : Cls K C_WholeMaker
  n_WholeMaker_counts : NoAttr K C_WholeMaker "counts"
  n_WholeMaker_low : NoAttr K C_WholeMaker "low"
  n_WholeMaker_span : NoAttr K C_WholeMaker "span"
  c_OF_ONE_PART : ∀ P w base, (Gx.mk P w K mg base).ConT "OF_ONE_PART" ([.str "many", .str "rising", .str "unlike"])
  b_bool : mg "bool" = none
  b_dict : mg "dict" = none
  b_enumerate : mg "enumerate" = none
  b_int : mg "int" = none
  b_isinstance : mg "isinstance" = none
  b_len : mg "len" = none
  b_list : mg "list" = none
  b_max : mg "max" = none
  b_min : mg "min" = none
  b_range : mg "range" = none
  b_sum : mg "sum" = none
  b_tuple : mg "tuple" = none
theorem law_body {K : PySem.W.Frag} {mg : Str → Option Value} {C_Found : Addr} {C_Lister : Addr} {C_ManyMaker : Addr} {C_WholeMaker : Addr} {c_deed_judge P_deed_judge : Addr} {c_law_thing P_law_thing : Addr}  (t : Top K mg C_Found C_Lister C_ManyMaker C_WholeMaker c_deed_judge P_deed_judge c_law_thing P_law_thing) (P : Program) (w : World) (base : Heap) (hB : Bm mg base) (hC_deed_judge : PySem.W.CodeHd base c_deed_judge P_deed_judge) (hC_law_thing : PySem.W.CodeHd base c_law_thing P_law_thing) (hnd : ([P_deed_judge, P_law_thing] : List Addr).Nodup) :
    Body (Gx.mk P w K mg base) 19 ["_law_script", "_law_low", "_law_part", "_law_size", "_law_more", "_law_bad", "_law_many", "_law_cell", "_law_one", "_law_other", "_law_judge", "_law_values", "_law_k", "_law_due", "_law_found"] "law" s_law (spTrueT K [("deed_judge", c_deed_judge, P_deed_judge), ("_law_thing", c_law_thing, P_law_thing)]) := by
  have G_law_whole := ok_law_whole (g := Gx.mk P w K mg base) (C_Found := C_Found) (C_Lister := C_Lister) (C_ManyMaker := C_ManyMaker) (C_WholeMaker := C_WholeMaker) (c_deed_judge := c_deed_judge) (P_deed_judge := P_deed_judge) (c_law_thing := c_law_thing) (P_law_thing := P_law_thing) (t.f_law_whole P w base) t.b_bool t.b_int t.b_isinstance
  have G_law_cell_at := ok_law_cell_at (g := Gx.mk P w K mg base) (C_Found := C_Found) (C_Lister := C_Lister) (C_ManyMaker := C_ManyMaker) (C_WholeMaker := C_WholeMaker) (c_deed_judge := c_deed_judge) (P_deed_judge := P_deed_judge) (c_law_thing := c_law_thing) (P_law_thing := P_law_thing) (t.f_law_cell_at P w base) t.b_len
  have G_Maker___init__ := ok_Maker___init__ (g := Gx.mk P w K mg base) (C_Found := C_Found) (C_Lister := C_Lister) (C_ManyMaker := C_ManyMaker) (C_WholeMaker := C_WholeMaker) (c_deed_judge := c_deed_judge) (P_deed_judge := P_deed_judge) (c_law_thing := c_law_thing) (P_law_thing := P_law_thing) (t.f_Maker___init__ P w base) t.cl_ManyMaker t.n_ManyMaker_counts t.n_ManyMaker_part t.cl_WholeMaker t.n_WholeMaker_counts t.n_WholeMaker_low t.n_WholeMaker_span
  have G_WholeMaker___init__ := ok_WholeMaker___init__ (g := Gx.mk P w K mg base) (k := 1) (C_Found := C_Found) (C_Lister := C_Lister) (C_ManyMaker := C_ManyMaker) (C_WholeMaker := C_WholeMaker) (c_deed_judge := c_deed_judge) (P_deed_judge := P_deed_judge) (c_law_thing := c_law_thing) (P_law_thing := P_law_thing) (t.f_WholeMaker___init__ P w base) (G_Maker___init__.mono (by decide)) t.cl_WholeMaker t.n_WholeMaker_counts t.n_WholeMaker_low t.n_WholeMaker_span
  have G_least_distance := ok_least_distance (g := Gx.mk P w K mg base) (C_Found := C_Found) (C_Lister := C_Lister) (C_ManyMaker := C_ManyMaker) (C_WholeMaker := C_WholeMaker) (c_deed_judge := c_deed_judge) (P_deed_judge := P_deed_judge) (c_law_thing := c_law_thing) (P_law_thing := P_law_thing) (t.f_least_distance P w base) 
  have G_WholeMaker_reckoned := ok_WholeMaker_reckoned (g := Gx.mk P w K mg base) (k := 1) (C_Found := C_Found) (C_Lister := C_Lister) (C_ManyMaker := C_ManyMaker) (C_WholeMaker := C_WholeMaker) (c_deed_judge := c_deed_judge) (P_deed_judge := P_deed_judge) (c_law_thing := c_law_thing) (P_law_thing := P_law_thing) (t.f_WholeMaker_reckoned P w base) (G_least_distance.mono (by decide)) t.b_max t.b_min t.cl_WholeMaker t.n_WholeMaker_counts t.n_WholeMaker_low t.n_WholeMaker_span
  have G_WholeMaker_count_at := ok_WholeMaker_count_at (g := Gx.mk P w K mg base) (k := 2) (C_Found := C_Found) (C_Lister := C_Lister) (C_ManyMaker := C_ManyMaker) (C_WholeMaker := C_WholeMaker) (c_deed_judge := c_deed_judge) (P_deed_judge := P_deed_judge) (c_law_thing := c_law_thing) (P_law_thing := P_law_thing) (t.f_WholeMaker_count_at P w base) (G_WholeMaker_reckoned.mono (by decide)) t.b_len t.cl_WholeMaker t.n_WholeMaker_counts t.n_WholeMaker_low t.n_WholeMaker_span
  have G_ways_of := ok_ways_of (g := Gx.mk P w K mg base) (C_Found := C_Found) (C_Lister := C_Lister) (C_ManyMaker := C_ManyMaker) (C_WholeMaker := C_WholeMaker) (c_deed_judge := c_deed_judge) (P_deed_judge := P_deed_judge) (c_law_thing := c_law_thing) (P_law_thing := P_law_thing) (t.f_ways_of P w base) t.b_sum
  have G_ManyMaker_blocks_at_1 := ok_ManyMaker_blocks_at (g := Gx.mk P w K mg base) (m := 0) (k := 3) (C_Found := C_Found) (C_Lister := C_Lister) (C_ManyMaker := C_ManyMaker) (C_WholeMaker := C_WholeMaker) (c_deed_judge := c_deed_judge) (P_deed_judge := P_deed_judge) (c_law_thing := c_law_thing) (P_law_thing := P_law_thing) (t.f_ManyMaker_blocks_at P w base) (G_WholeMaker_count_at.mono (by decide)) ((t.f_ManyMaker_count_at P w base).none (fun _ _ _ _ h => no_Mcount h)) t.b_range t.cl_ManyMaker t.n_ManyMaker_counts t.n_ManyMaker_part t.cl_WholeMaker t.n_WholeMaker_counts t.n_WholeMaker_low t.n_WholeMaker_span
  have G_ManyMaker_reckoned_1 := ok_ManyMaker_reckoned (g := Gx.mk P w K mg base) (m := 0) (k := 3) (C_Found := C_Found) (C_Lister := C_Lister) (C_ManyMaker := C_ManyMaker) (C_WholeMaker := C_WholeMaker) (c_deed_judge := c_deed_judge) (P_deed_judge := P_deed_judge) (c_law_thing := c_law_thing) (P_law_thing := P_law_thing) (t.f_ManyMaker_reckoned P w base) (G_ways_of.mono (by decide)) ((t.f_ManyMaker_blocks_at P w base).none (fun _ _ _ _ h => no_Mblocks h)) t.cl_ManyMaker t.n_ManyMaker_counts t.n_ManyMaker_part
  have G_ManyMaker_count_at_1 := ok_ManyMaker_count_at (g := Gx.mk P w K mg base) (m := 0) (k := 3) (C_Found := C_Found) (C_Lister := C_Lister) (C_ManyMaker := C_ManyMaker) (C_WholeMaker := C_WholeMaker) (c_deed_judge := c_deed_judge) (P_deed_judge := P_deed_judge) (c_law_thing := c_law_thing) (P_law_thing := P_law_thing) (t.f_ManyMaker_count_at P w base) ((t.f_ManyMaker_reckoned P w base).none (fun _ _ _ _ h => no_Mreck h)) t.b_len t.cl_ManyMaker t.n_ManyMaker_counts t.n_ManyMaker_part
  have G_ManyMaker_blocks_at_2 := ok_ManyMaker_blocks_at (g := Gx.mk P w K mg base) (m := 1) (k := 4) (C_Found := C_Found) (C_Lister := C_Lister) (C_ManyMaker := C_ManyMaker) (C_WholeMaker := C_WholeMaker) (c_deed_judge := c_deed_judge) (P_deed_judge := P_deed_judge) (c_law_thing := c_law_thing) (P_law_thing := P_law_thing) (t.f_ManyMaker_blocks_at P w base) (G_WholeMaker_count_at.mono (by decide)) (G_ManyMaker_count_at_1.mono (by decide)) t.b_range t.cl_ManyMaker t.n_ManyMaker_counts t.n_ManyMaker_part t.cl_WholeMaker t.n_WholeMaker_counts t.n_WholeMaker_low t.n_WholeMaker_span
  have G_ManyMaker_reckoned_2 := ok_ManyMaker_reckoned (g := Gx.mk P w K mg base) (m := 1) (k := 4) (C_Found := C_Found) (C_Lister := C_Lister) (C_ManyMaker := C_ManyMaker) (C_WholeMaker := C_WholeMaker) (c_deed_judge := c_deed_judge) (P_deed_judge := P_deed_judge) (c_law_thing := c_law_thing) (P_law_thing := P_law_thing) (t.f_ManyMaker_reckoned P w base) (G_ways_of.mono (by decide)) (G_ManyMaker_blocks_at_1.mono (by decide)) t.cl_ManyMaker t.n_ManyMaker_counts t.n_ManyMaker_part
  have G_ManyMaker_count_at_2 := ok_ManyMaker_count_at (g := Gx.mk P w K mg base) (m := 1) (k := 4) (C_Found := C_Found) (C_Lister := C_Lister) (C_ManyMaker := C_ManyMaker) (C_WholeMaker := C_WholeMaker) (c_deed_judge := c_deed_judge) (P_deed_judge := P_deed_judge) (c_law_thing := c_law_thing) (P_law_thing := P_law_thing) (t.f_ManyMaker_count_at P w base) (G_ManyMaker_reckoned_1.mono (by decide)) t.b_len t.cl_ManyMaker t.n_ManyMaker_counts t.n_ManyMaker_part
  have G_ManyMaker_blocks_at_3 := ok_ManyMaker_blocks_at (g := Gx.mk P w K mg base) (m := 2) (k := 5) (C_Found := C_Found) (C_Lister := C_Lister) (C_ManyMaker := C_ManyMaker) (C_WholeMaker := C_WholeMaker) (c_deed_judge := c_deed_judge) (P_deed_judge := P_deed_judge) (c_law_thing := c_law_thing) (P_law_thing := P_law_thing) (t.f_ManyMaker_blocks_at P w base) (G_WholeMaker_count_at.mono (by decide)) (G_ManyMaker_count_at_2.mono (by decide)) t.b_range t.cl_ManyMaker t.n_ManyMaker_counts t.n_ManyMaker_part t.cl_WholeMaker t.n_WholeMaker_counts t.n_WholeMaker_low t.n_WholeMaker_span
  have G_ManyMaker_reckoned_3 := ok_ManyMaker_reckoned (g := Gx.mk P w K mg base) (m := 2) (k := 5) (C_Found := C_Found) (C_Lister := C_Lister) (C_ManyMaker := C_ManyMaker) (C_WholeMaker := C_WholeMaker) (c_deed_judge := c_deed_judge) (P_deed_judge := P_deed_judge) (c_law_thing := c_law_thing) (P_law_thing := P_law_thing) (t.f_ManyMaker_reckoned P w base) (G_ways_of.mono (by decide)) (G_ManyMaker_blocks_at_2.mono (by decide)) t.cl_ManyMaker t.n_ManyMaker_counts t.n_ManyMaker_part
  have G_ManyMaker_count_at_3 := ok_ManyMaker_count_at (g := Gx.mk P w K mg base) (m := 2) (k := 5) (C_Found := C_Found) (C_Lister := C_Lister) (C_ManyMaker := C_ManyMaker) (C_WholeMaker := C_WholeMaker) (c_deed_judge := c_deed_judge) (P_deed_judge := P_deed_judge) (c_law_thing := c_law_thing) (P_law_thing := P_law_thing) (t.f_ManyMaker_count_at P w base) (G_ManyMaker_reckoned_2.mono (by decide)) t.b_len t.cl_ManyMaker t.n_ManyMaker_counts t.n_ManyMaker_part
  have G_ManyMaker_blocks_at := ok_ManyMaker_blocks_at (g := Gx.mk P w K mg base) (m := 3) (k := 6) (C_Found := C_Found) (C_Lister := C_Lister) (C_ManyMaker := C_ManyMaker) (C_WholeMaker := C_WholeMaker) (c_deed_judge := c_deed_judge) (P_deed_judge := P_deed_judge) (c_law_thing := c_law_thing) (P_law_thing := P_law_thing) (t.f_ManyMaker_blocks_at P w base) (G_WholeMaker_count_at.mono (by decide)) (G_ManyMaker_count_at_3.mono (by decide)) t.b_range t.cl_ManyMaker t.n_ManyMaker_counts t.n_ManyMaker_part t.cl_WholeMaker t.n_WholeMaker_counts t.n_WholeMaker_low t.n_WholeMaker_span
  have G_ManyMaker_reckoned := ok_ManyMaker_reckoned (g := Gx.mk P w K mg base) (m := 3) (k := 6) (C_Found := C_Found) (C_Lister := C_Lister) (C_ManyMaker := C_ManyMaker) (C_WholeMaker := C_WholeMaker) (c_deed_judge := c_deed_judge) (P_deed_judge := P_deed_judge) (c_law_thing := c_law_thing) (P_law_thing := P_law_thing) (t.f_ManyMaker_reckoned P w base) (G_ways_of.mono (by decide)) (G_ManyMaker_blocks_at_3.mono (by decide)) t.cl_ManyMaker t.n_ManyMaker_counts t.n_ManyMaker_part
  have G_ManyMaker_count_at := ok_ManyMaker_count_at (g := Gx.mk P w K mg base) (m := 3) (k := 6) (C_Found := C_Found) (C_Lister := C_Lister) (C_ManyMaker := C_ManyMaker) (C_WholeMaker := C_WholeMaker) (c_deed_judge := c_deed_judge) (P_deed_judge := P_deed_judge) (c_law_thing := c_law_thing) (P_law_thing := P_law_thing) (t.f_ManyMaker_count_at P w base) (G_ManyMaker_reckoned_3.mono (by decide)) t.b_len t.cl_ManyMaker t.n_ManyMaker_counts t.n_ManyMaker_part
  have G_ManyMaker___init__ := ok_ManyMaker___init__ (g := Gx.mk P w K mg base) (k := 1) (C_Found := C_Found) (C_Lister := C_Lister) (C_ManyMaker := C_ManyMaker) (C_WholeMaker := C_WholeMaker) (c_deed_judge := c_deed_judge) (P_deed_judge := P_deed_judge) (c_law_thing := c_law_thing) (P_law_thing := P_law_thing) (t.f_ManyMaker___init__ P w base) (G_Maker___init__.mono (by decide)) t.cl_ManyMaker t.n_ManyMaker_counts t.n_ManyMaker_part
  have G_Lister___init__ := ok_Lister___init__ (g := Gx.mk P w K mg base) (C_Found := C_Found) (C_Lister := C_Lister) (C_ManyMaker := C_ManyMaker) (C_WholeMaker := C_WholeMaker) (c_deed_judge := c_deed_judge) (P_deed_judge := P_deed_judge) (c_law_thing := c_law_thing) (P_law_thing := P_law_thing) (t.f_Lister___init__ P w base) t.cl_Lister t.n_Lister_book t.n_Lister_makers
  have G_parts_of := ok_parts_of (g := Gx.mk P w K mg base) (C_Found := C_Found) (C_Lister := C_Lister) (C_ManyMaker := C_ManyMaker) (C_WholeMaker := C_WholeMaker) (c_deed_judge := c_deed_judge) (P_deed_judge := P_deed_judge) (c_law_thing := c_law_thing) (P_law_thing := P_law_thing) (t.f_parts_of P w base) (t.c_OF_ONE_PART P w base)
  have G_Lister_new_maker_1 := ok_Lister_new_maker (g := Gx.mk P w K mg base) (m := 0) (k := 3) (C_Found := C_Found) (C_Lister := C_Lister) (C_ManyMaker := C_ManyMaker) (C_WholeMaker := C_WholeMaker) (c_deed_judge := c_deed_judge) (P_deed_judge := P_deed_judge) (c_law_thing := c_law_thing) (P_law_thing := P_law_thing) (t.f_Lister_new_maker P w base) (G_parts_of.mono (by decide)) ((t.f_Lister_maker_of P w base).none (fun _ _ _ _ h => no_maker_of h)) G_WholeMaker___init__ (by decide) G_ManyMaker___init__ (by decide) t.cl_Lister t.n_Lister_book t.n_Lister_makers
  have G_Lister_maker_of_1 := ok_Lister_maker_of (g := Gx.mk P w K mg base) (m := 0) (k := 3) (C_Found := C_Found) (C_Lister := C_Lister) (C_ManyMaker := C_ManyMaker) (C_WholeMaker := C_WholeMaker) (c_deed_judge := c_deed_judge) (P_deed_judge := P_deed_judge) (c_law_thing := c_law_thing) (P_law_thing := P_law_thing) (t.f_Lister_maker_of P w base) ((t.f_Lister_new_maker P w base).none (fun _ _ _ _ h => no_new h)) t.cl_Lister t.n_Lister_book t.n_Lister_makers
  have G_Lister_new_maker_2 := ok_Lister_new_maker (g := Gx.mk P w K mg base) (m := 1) (k := 4) (C_Found := C_Found) (C_Lister := C_Lister) (C_ManyMaker := C_ManyMaker) (C_WholeMaker := C_WholeMaker) (c_deed_judge := c_deed_judge) (P_deed_judge := P_deed_judge) (c_law_thing := c_law_thing) (P_law_thing := P_law_thing) (t.f_Lister_new_maker P w base) (G_parts_of.mono (by decide)) (G_Lister_maker_of_1.mono (by decide)) G_WholeMaker___init__ (by decide) G_ManyMaker___init__ (by decide) t.cl_Lister t.n_Lister_book t.n_Lister_makers
  have G_Lister_maker_of_2 := ok_Lister_maker_of (g := Gx.mk P w K mg base) (m := 1) (k := 4) (C_Found := C_Found) (C_Lister := C_Lister) (C_ManyMaker := C_ManyMaker) (C_WholeMaker := C_WholeMaker) (c_deed_judge := c_deed_judge) (P_deed_judge := P_deed_judge) (c_law_thing := c_law_thing) (P_law_thing := P_law_thing) (t.f_Lister_maker_of P w base) (G_Lister_new_maker_1.mono (by decide)) t.cl_Lister t.n_Lister_book t.n_Lister_makers
  have G_Lister_new_maker_3 := ok_Lister_new_maker (g := Gx.mk P w K mg base) (m := 2) (k := 5) (C_Found := C_Found) (C_Lister := C_Lister) (C_ManyMaker := C_ManyMaker) (C_WholeMaker := C_WholeMaker) (c_deed_judge := c_deed_judge) (P_deed_judge := P_deed_judge) (c_law_thing := c_law_thing) (P_law_thing := P_law_thing) (t.f_Lister_new_maker P w base) (G_parts_of.mono (by decide)) (G_Lister_maker_of_2.mono (by decide)) G_WholeMaker___init__ (by decide) G_ManyMaker___init__ (by decide) t.cl_Lister t.n_Lister_book t.n_Lister_makers
  have G_Lister_maker_of_3 := ok_Lister_maker_of (g := Gx.mk P w K mg base) (m := 2) (k := 5) (C_Found := C_Found) (C_Lister := C_Lister) (C_ManyMaker := C_ManyMaker) (C_WholeMaker := C_WholeMaker) (c_deed_judge := c_deed_judge) (P_deed_judge := P_deed_judge) (c_law_thing := c_law_thing) (P_law_thing := P_law_thing) (t.f_Lister_maker_of P w base) (G_Lister_new_maker_2.mono (by decide)) t.cl_Lister t.n_Lister_book t.n_Lister_makers
  have G_Lister_new_maker := ok_Lister_new_maker (g := Gx.mk P w K mg base) (m := 3) (k := 6) (C_Found := C_Found) (C_Lister := C_Lister) (C_ManyMaker := C_ManyMaker) (C_WholeMaker := C_WholeMaker) (c_deed_judge := c_deed_judge) (P_deed_judge := P_deed_judge) (c_law_thing := c_law_thing) (P_law_thing := P_law_thing) (t.f_Lister_new_maker P w base) (G_parts_of.mono (by decide)) (G_Lister_maker_of_3.mono (by decide)) G_WholeMaker___init__ (by decide) G_ManyMaker___init__ (by decide) t.cl_Lister t.n_Lister_book t.n_Lister_makers
  have G_Lister_maker_of := ok_Lister_maker_of (g := Gx.mk P w K mg base) (m := 3) (k := 6) (C_Found := C_Found) (C_Lister := C_Lister) (C_ManyMaker := C_ManyMaker) (C_WholeMaker := C_WholeMaker) (c_deed_judge := c_deed_judge) (P_deed_judge := P_deed_judge) (c_law_thing := c_law_thing) (P_law_thing := P_law_thing) (t.f_Lister_maker_of P w base) (G_Lister_new_maker_3.mono (by decide)) t.cl_Lister t.n_Lister_book t.n_Lister_makers
  have G_maker_for := ok_maker_for (g := Gx.mk P w K mg base) (k := 7) (C_Found := C_Found) (C_Lister := C_Lister) (C_ManyMaker := C_ManyMaker) (C_WholeMaker := C_WholeMaker) (c_deed_judge := c_deed_judge) (P_deed_judge := P_deed_judge) (c_law_thing := c_law_thing) (P_law_thing := P_law_thing) (t.f_maker_for P w base) G_Lister___init__ (by decide) (G_Lister_maker_of.mono (by decide)) t.cl_Lister t.n_Lister_book t.n_Lister_makers
  have G_Found___init__ := ok_Found___init__ (g := Gx.mk P w K mg base) (C_Found := C_Found) (C_Lister := C_Lister) (C_ManyMaker := C_ManyMaker) (C_WholeMaker := C_WholeMaker) (c_deed_judge := c_deed_judge) (P_deed_judge := P_deed_judge) (c_law_thing := c_law_thing) (P_law_thing := P_law_thing) (t.f_Found___init__ P w base) t.cl_Found t.n_Found_place t.n_Found_choice t.n_Found_rest
  have G_found_in := ok_found_in (g := Gx.mk P w K mg base) (k := 2) (C_Found := C_Found) (C_Lister := C_Lister) (C_ManyMaker := C_ManyMaker) (C_WholeMaker := C_WholeMaker) (c_deed_judge := c_deed_judge) (P_deed_judge := P_deed_judge) (c_law_thing := c_law_thing) (P_law_thing := P_law_thing) (t.f_found_in P w base) G_Found___init__ (by decide)
  have G_WholeMaker_value_at := ok_WholeMaker_value_at (g := Gx.mk P w K mg base) (k := 1) (C_Found := C_Found) (C_Lister := C_Lister) (C_ManyMaker := C_ManyMaker) (C_WholeMaker := C_WholeMaker) (c_deed_judge := c_deed_judge) (P_deed_judge := P_deed_judge) (c_law_thing := c_law_thing) (P_law_thing := P_law_thing) (t.f_WholeMaker_value_at P w base) (G_least_distance.mono (by decide)) t.cl_WholeMaker t.n_WholeMaker_counts t.n_WholeMaker_low t.n_WholeMaker_span
  have G_ManyMaker_value_at := ok_ManyMaker_value_at (g := Gx.mk P w K mg base) (k := 7) (C_Found := C_Found) (C_Lister := C_Lister) (C_ManyMaker := C_ManyMaker) (C_WholeMaker := C_WholeMaker) (c_deed_judge := c_deed_judge) (P_deed_judge := P_deed_judge) (c_law_thing := c_law_thing) (P_law_thing := P_law_thing) (t.f_ManyMaker_value_at P w base) (G_found_in.mono (by decide)) (G_WholeMaker_value_at.mono (by decide)) (G_ManyMaker_blocks_at.mono (by decide)) t.cl_Found t.n_Found_place t.n_Found_choice t.n_Found_rest t.cl_ManyMaker t.n_ManyMaker_counts t.n_ManyMaker_part t.cl_WholeMaker t.n_WholeMaker_counts t.n_WholeMaker_low t.n_WholeMaker_span
  have G_all_made := ok_all_made (g := Gx.mk P w K mg base) (k := 8) (C_Found := C_Found) (C_Lister := C_Lister) (C_ManyMaker := C_ManyMaker) (C_WholeMaker := C_WholeMaker) (c_deed_judge := c_deed_judge) (P_deed_judge := P_deed_judge) (c_law_thing := c_law_thing) (P_law_thing := P_law_thing) (t.f_all_made P w base) (G_ManyMaker_value_at.mono (by decide)) (G_ManyMaker_count_at.mono (by decide)) t.b_range t.cl_ManyMaker t.n_ManyMaker_counts t.n_ManyMaker_part
  have G_refuse_too_many := ok_refuse_too_many (g := Gx.mk P w K mg base) (C_Found := C_Found) (C_Lister := C_Lister) (C_ManyMaker := C_ManyMaker) (C_WholeMaker := C_WholeMaker) (c_deed_judge := c_deed_judge) (P_deed_judge := P_deed_judge) (c_law_thing := c_law_thing) (P_law_thing := P_law_thing) (t.f_refuse_too_many P w base) 
  have G_all_values := ok_all_values (g := Gx.mk P w K mg base) (k := 9) (C_Found := C_Found) (C_Lister := C_Lister) (C_ManyMaker := C_ManyMaker) (C_WholeMaker := C_WholeMaker) (c_deed_judge := c_deed_judge) (P_deed_judge := P_deed_judge) (c_law_thing := c_law_thing) (P_law_thing := P_law_thing) (t.f_all_values P w base) (G_maker_for.mono (by decide)) (G_refuse_too_many.mono (by decide)) (G_all_made.mono (by decide)) (G_ManyMaker_count_at.mono (by decide)) t.cl_ManyMaker t.n_ManyMaker_counts t.n_ManyMaker_part
  have G_copied_1 := ok_copied (g := Gx.mk P w K mg base) (m := 0) (k := 0) (C_Found := C_Found) (C_Lister := C_Lister) (C_ManyMaker := C_ManyMaker) (C_WholeMaker := C_WholeMaker) (c_deed_judge := c_deed_judge) (P_deed_judge := P_deed_judge) (c_law_thing := c_law_thing) (P_law_thing := P_law_thing) (t.f_copied P w base) ((t.f_copied P w base).none (fun _ _ _ _ h => no_copied h)) t.b_dict t.b_isinstance t.b_list t.b_tuple
  have G_copied := ok_copied (g := Gx.mk P w K mg base) (m := 1) (k := 1) (C_Found := C_Found) (C_Lister := C_Lister) (C_ManyMaker := C_ManyMaker) (C_WholeMaker := C_WholeMaker) (c_deed_judge := c_deed_judge) (P_deed_judge := P_deed_judge) (c_law_thing := c_law_thing) (P_law_thing := P_law_thing) (t.f_copied P w base) (G_copied_1.mono (by decide)) t.b_dict t.b_isinstance t.b_list t.b_tuple
  have G_is_whole_number := ok_is_whole_number (g := Gx.mk P w K mg base) (C_Found := C_Found) (C_Lister := C_Lister) (C_ManyMaker := C_ManyMaker) (C_WholeMaker := C_WholeMaker) (c_deed_judge := c_deed_judge) (P_deed_judge := P_deed_judge) (c_law_thing := c_law_thing) (P_law_thing := P_law_thing) (t.f_is_whole_number P w base) t.b_bool t.b_int t.b_isinstance
  have G_is_truth := ok_is_truth (g := Gx.mk P w K mg base) (C_Found := C_Found) (C_Lister := C_Lister) (C_ManyMaker := C_ManyMaker) (C_WholeMaker := C_WholeMaker) (c_deed_judge := c_deed_judge) (P_deed_judge := P_deed_judge) (c_law_thing := c_law_thing) (P_law_thing := P_law_thing) (t.f_is_truth P w base) t.b_bool t.b_isinstance
  have G_same := ok_same (g := Gx.mk P w K mg base) (k := 1) (C_Found := C_Found) (C_Lister := C_Lister) (C_ManyMaker := C_ManyMaker) (C_WholeMaker := C_WholeMaker) (c_deed_judge := c_deed_judge) (P_deed_judge := P_deed_judge) (c_law_thing := c_law_thing) (P_law_thing := P_law_thing) (t.f_same P w base) (G_is_whole_number.mono (by decide)) (G_is_truth.mono (by decide))
  have G_apart := ok_apart (g := Gx.mk P w K mg base) (k := 8) (C_Found := C_Found) (C_Lister := C_Lister) (C_ManyMaker := C_ManyMaker) (C_WholeMaker := C_WholeMaker) (c_deed_judge := c_deed_judge) (P_deed_judge := P_deed_judge) (c_law_thing := c_law_thing) (P_law_thing := P_law_thing) (t.f_apart P w base) (G_copied.mono (by decide)) (G_same.mono (by decide)) (by decide) t.b_enumerate
  have G_law_thing := ok_law_thing (g := Gx.mk P w K mg base) (C_Found := C_Found) (C_Lister := C_Lister) (C_ManyMaker := C_ManyMaker) (C_WholeMaker := C_WholeMaker) (c_deed_judge := c_deed_judge) (P_deed_judge := P_deed_judge) (c_law_thing := c_law_thing) (P_law_thing := P_law_thing) (t.f_law_thing P w base) hB hC_law_thing t.b_int
  have G_deed_judge := ok_deed_judge (g := Gx.mk P w K mg base) (k := 9) (C_Found := C_Found) (C_Lister := C_Lister) (C_ManyMaker := C_ManyMaker) (C_WholeMaker := C_WholeMaker) (c_deed_judge := c_deed_judge) (P_deed_judge := P_deed_judge) (c_law_thing := c_law_thing) (P_law_thing := P_law_thing) (t.f_deed_judge P w base) hB hC_deed_judge (G_apart.mono (by decide))
  have G_holds := ok_holds (g := Gx.mk P w K mg base) (k := 16) (C_Found := C_Found) (C_Lister := C_Lister) (C_ManyMaker := C_ManyMaker) (C_WholeMaker := C_WholeMaker) (c_deed_judge := c_deed_judge) (P_deed_judge := P_deed_judge) (c_law_thing := c_law_thing) (P_law_thing := P_law_thing) (t.f_holds P w base) (G_copied.mono (by decide)) (by decide)
  have G_tried_on := ok_tried_on (g := Gx.mk P w K mg base) (k := 17) (C_Found := C_Found) (C_Lister := C_Lister) (C_ManyMaker := C_ManyMaker) (C_WholeMaker := C_WholeMaker) (c_deed_judge := c_deed_judge) (P_deed_judge := P_deed_judge) (c_law_thing := c_law_thing) (P_law_thing := P_law_thing) (t.f_tried_on P w base) (G_holds.mono (by decide)) t.b_enumerate t.b_len
  have G_tried := ok_tried (g := Gx.mk P w K mg base) (k := 18) (C_Found := C_Found) (C_Lister := C_Lister) (C_ManyMaker := C_ManyMaker) (C_WholeMaker := C_WholeMaker) (c_deed_judge := c_deed_judge) (P_deed_judge := P_deed_judge) (c_law_thing := c_law_thing) (P_law_thing := P_law_thing) (t.f_tried P w base) (G_maker_for.mono (by decide)) (G_refuse_too_many.mono (by decide)) (G_all_made.mono (by decide)) (G_tried_on.mono (by decide)) (G_ManyMaker_count_at.mono (by decide)) t.b_list t.b_range t.b_sum t.cl_ManyMaker t.n_ManyMaker_counts t.n_ManyMaker_part
  have G_law_breach := ok_law_breach (g := Gx.mk P w K mg base) (C_Found := C_Found) (C_Lister := C_Lister) (C_ManyMaker := C_ManyMaker) (C_WholeMaker := C_WholeMaker) (c_deed_judge := c_deed_judge) (P_deed_judge := P_deed_judge) (c_law_thing := c_law_thing) (P_law_thing := P_law_thing) (t.f_law_breach P w base) 
  exact body_law (g := Gx.mk P w K mg base) (k := 19) (C_Found := C_Found) (C_Lister := C_Lister) (C_ManyMaker := C_ManyMaker) (C_WholeMaker := C_WholeMaker) (c_deed_judge := c_deed_judge) (P_deed_judge := P_deed_judge) (c_law_thing := c_law_thing) (P_law_thing := P_law_thing) (G_deed_judge.mono (by decide)) (G_all_values.mono (by decide)) (G_tried.mono (by decide)) (G_law_cell_at.mono (by decide)) (G_law_whole.mono (by decide)) (G_law_thing.mono (by decide)) (G_law_breach.mono (by decide)) t.b_isinstance t.b_len t.b_range t.b_tuple hnd
end KW
def PySem.W.Fast.tw6059425750264583760 : Nat := 0
def PySem.W.Fast.tw13521569075276137704 : Nat := 0
def PySem.W.Fast.tw9064421477839070572 : Nat := 0
def PySem.W.Fast.tw12978529692826246243 : Nat := 0
def PySem.W.Fast.tw10877938679514426251 : Nat := 0
def PySem.W.Fast.tw13928615886383442501 : Nat := 0
def PySem.W.Fast.tw18307994664726844695 : Nat := 0
def PySem.W.Fast.tw12011097332498054306 : Nat := 0
def PySem.W.Fast.tw7519150412252264761 : Nat := 0
def PySem.W.Fast.tw10519071713315264286 : Nat := 0
def PySem.W.Fast.tw3399942676198253309 : Nat := 0
def PySem.W.Fast.tw5323920105534029113 : Nat := 0
def PySem.W.Fast.tw1137666866217620 : Nat := 0
def PySem.W.Fast.tw18141523483533432544 : Nat := 0
def PySem.W.Fast.tw17342766679849870626 : Nat := 0
def PySem.W.Fast.tw11771820722271178876 : Nat := 0
def PySem.W.Fast.tw5862101751263603496 : Nat := 0
def PySem.W.Fast.tw12832512340079966610 : Nat := 0
def PySem.W.Fast.tw4395383773530922145 : Nat := 0
def PySem.W.Fast.tw3827483816238033302 : Nat := 0
def PySem.W.Fast.tw16103893576000160444 : Nat := 0
def PySem.W.Fast.tw952169037132694664 : Nat := 0
def PySem.W.Fast.tw11906461486396041190 : Nat := 0
def PySem.W.Fast.tw14384751814770037639 : Nat := 0
def PySem.W.Fast.tw17221537705255518616 : Nat := 0
def PySem.W.Fast.tw17872254259667280559 : Nat := 0
def PySem.W.Fast.tw3039437454465093066 : Nat := 0
def PySem.W.Fast.tw17806778679824892911 : Nat := 0
def PySem.W.Fast.tw7661019043082227674 : Nat := 0
def PySem.W.Fast.tw1407928872198590824 : Nat := 0
def PySem.W.Fast.tw566653765729585722 : Nat := 0
def PySem.W.Fast.tw10781914030875139493 : Nat := 0
def PySem.W.Fast.tw1410037833370191287 : Nat := 0
def PySem.W.Fast.tw11462894723596227355 : Nat := 0
def PySem.W.Fast.tw5084477244623585523 : Nat := 0
def PySem.W.Fast.tw16659089006896082757 : Nat := 0
def PySem.W.Fast.tw15369785488556517079 : Nat := 0
def PySem.W.Fast.tw22206253008827536 : Nat := 0
def PySem.W.Fast.tw16435366015689122842 : Nat := 0
def PySem.W.Fast.tw5465393300474947308 : Nat := 0
def PySem.W.Fast.tw13268956733801734709 : Nat := 0
def PySem.W.Fast.tw1336261147535916133 : Nat := 0
open PySem PySem.W PyProof.Rows
set_option maxRecDepth 100000 in
set_option maxHeartbeats 0 in
theorem PySem.Challenge.cw_countgen_k82_a_deed_judge_tried_holds : PySem.Challenge.rw_countgen_k82_a_deed_judge_tried.Holds := by
  w_on; o_law; k_head; (case hw => w_witness2)
  k_fill
  refine' L2.walk_gxT (l := PySem.Challenge.rw_countgen_k82_a_deed_judge_tried) (tabs := [("deed_judge", 138, 134), ("_law_thing", 774, 770)]) 19 "_law_script" KW.s_law ["_law_script", "_law_low", "_law_part", "_law_size", "_law_more", "_law_bad", "_law_many", "_law_cell", "_law_one", "_law_other", "_law_judge", "_law_values", "_law_k", "_law_due", "_law_found"] rfl rfl ⟨rfl, by decide, by decide⟩ KW.sc_law (fun w h Y => by first | exact PySem.W.kIn_of Y | exact PySem.W.km_in_of Y) ?tR ?tT ?tN ?F
  case tR => intro p hp; simp only [List.mem_cons, List.not_mem_nil, or_false] at hp; rcases hp with rfl | rfl <;> exact ⟨_, rfl⟩
  case tT => intro w p hp; simp only [List.mem_cons, List.not_mem_nil, or_false] at hp; rcases hp with rfl | rfl <;> kernel_rfl
  case tN => intro w p hp; simp only [List.mem_cons, List.not_mem_nil, or_false] at hp; rcases hp with rfl | rfl <;> kernel_rfl
  case F =>
    intro w mg h KX G
    refine' ⟨L2.lawRaw_mk KX G ?a ?l ?c ?k (fun _ _ _ _ _ _ _ _ => .of_eq rfl), fun base hB hC => KW.law_body ⟨?f_law_whole, ?f_law_cell_at, ?f_Maker___init__, ?f_WholeMaker___init__, ?f_least_distance, ?f_WholeMaker_reckoned, ?f_WholeMaker_count_at, ?f_ways_of, ?f_ManyMaker_blocks_at, ?f_ManyMaker_reckoned, ?f_ManyMaker_count_at, ?f_ManyMaker___init__, ?f_Lister___init__, ?f_parts_of, ?f_Lister_new_maker, ?f_Lister_maker_of, ?f_maker_for, ?f_Found___init__, ?f_found_in, ?f_WholeMaker_value_at, ?f_ManyMaker_value_at, ?f_all_made, ?f_refuse_too_many, ?f_all_values, ?f_copied, ?f_is_whole_number, ?f_is_truth, ?f_same, ?f_apart, ?f_law_thing, ?f_deed_judge, ?f_holds, ?f_tried_on, ?f_tried, ?f_law_breach, ?cl_Found, ?n_Found_place, ?n_Found_choice, ?n_Found_rest, ?cl_Lister, ?n_Lister_book, ?n_Lister_makers, ?cl_ManyMaker, ?n_ManyMaker_counts, ?n_ManyMaker_part, ?cl_WholeMaker, ?n_WholeMaker_counts, ?n_WholeMaker_low, ?n_WholeMaker_span, ?c_OF_ONE_PART, ?b_bool, ?b_dict, ?b_enumerate, ?b_int, ?b_isinstance, ?b_len, ?b_list, ?b_max, ?b_min, ?b_range, ?b_sum, ?b_tuple⟩ _ w base hB (hC _ (.head _)) (hC _ (.tail _ (.head _))) (by decide)⟩
    (case a => k_is)
    (case l => k_is)
    (case c => k_is)
    (case k => k_is)
    case f_WholeMaker___init__ =>
      refine' L2.rawI_mk KX G ["self", "low", "high"] ?aC ?mk ?kc ?a ?i ?l ?c ?k (fun _ _ _ _ _ _ us hl => match us, hl with | [_, _, _], _ => rfl)
      (case aC => k_is)
      (case mk => k_is)
      (case kc => k_is)
      (case a => k_is)
      (case i => k_is)
      (case l => k_is)
      (case c => k_is)
      (case k => k_is)
    case f_ManyMaker___init__ =>
      refine' L2.rawI_mk KX G ["self", "part"] ?aC ?mk ?kc ?a ?i ?l ?c ?k (fun _ _ _ _ _ _ us hl => match us, hl with | [_, _], _ => rfl)
      (case aC => k_is)
      (case mk => k_is)
      (case kc => k_is)
      (case a => k_is)
      (case i => k_is)
      (case l => k_is)
      (case c => k_is)
      (case k => k_is)
    case f_Lister___init__ =>
      refine' L2.rawI_mk KX G ["self", "book"] ?aC ?mk ?kc ?a ?i ?l ?c ?k (fun _ _ _ _ _ _ us hl => match us, hl with | [_, _], _ => rfl)
      (case aC => k_is)
      (case mk => k_is)
      (case kc => k_is)
      (case a => k_is)
      (case i => k_is)
      (case l => k_is)
      (case c => k_is)
      (case k => k_is)
    case f_Found___init__ =>
      refine' L2.rawI_mk KX G ["self", "place", "choice", "rest"] ?aC ?mk ?kc ?a ?i ?l ?c ?k (fun _ _ _ _ _ _ us hl => match us, hl with | [_, _, _, _], _ => rfl)
      (case aC => k_is)
      (case mk => k_is)
      (case kc => k_is)
      (case a => k_is)
      (case i => k_is)
      (case l => k_is)
      (case c => k_is)
      (case k => k_is)
    case f_law_whole =>
      refine' L2.raw_mk KX G ["_law_found"] ?a ?l ?c ?k (fun _ _ _ _ _ _ us hl => match us, hl with | [_], _ => rfl)
      (case a => k_is)
      (case l => k_is)
      (case c => k_is)
      (case k => k_is)
    case f_law_cell_at =>
      refine' L2.raw_mk KX G ["_law_script", "_law_k"] ?a ?l ?c ?k (fun _ _ _ _ _ _ us hl => match us, hl with | [_, _], _ => rfl)
      (case a => k_is)
      (case l => k_is)
      (case c => k_is)
      (case k => k_is)
    case f_Maker___init__ =>
      refine' L2.rawC_mk KX G ["self"] ?aB ?ga ?rd ?a ?l ?c ?k (fun _ _ _ _ _ _ us hl => match us, hl with | [_], _ => rfl)
      (case aB => k_is)
      (case ga => k_is)
      (case rd => k_is)
      (case a => k_is)
      (case l => k_is)
      (case c => k_is)
      (case k => k_is)
    case f_least_distance =>
      refine' L2.raw_mk KX G ["size"] ?a ?l ?c ?k (fun _ _ _ _ _ _ us hl => match us, hl with | [_], _ => rfl)
      (case a => k_is)
      (case l => k_is)
      (case c => k_is)
      (case k => k_is)
    case f_WholeMaker_reckoned =>
      refine' L2.rawM_mk KX G ["self", "size"] ?a ?i ?l ?c ?k (fun _ _ _ _ _ _ us hl => match us, hl with | [_, _], _ => rfl)
      (case a => k_is)
      (case i => k_is)
      (case l => k_is)
      (case c => k_is)
      (case k => k_is)
    case f_WholeMaker_count_at =>
      refine' L2.rawM_mk KX G ["self", "size"] ?a ?i ?l ?c ?k (fun _ _ _ _ _ _ us hl => match us, hl with | [_, _], _ => rfl)
      (case a => k_is)
      (case i => k_is)
      (case l => k_is)
      (case c => k_is)
      (case k => k_is)
    case f_ways_of =>
      refine' L2.raw_mk KX G ["blocks"] ?a ?l ?c ?k (fun _ _ _ _ _ _ us hl => match us, hl with | [_], _ => rfl)
      (case a => k_is)
      (case l => k_is)
      (case c => k_is)
      (case k => k_is)
    case f_ManyMaker_blocks_at =>
      refine' L2.rawM_mk KX G ["self", "left"] ?a ?i ?l ?c ?k (fun _ _ _ _ _ _ us hl => match us, hl with | [_, _], _ => rfl)
      (case a => k_is)
      (case i => k_is)
      (case l => k_is)
      (case c => k_is)
      (case k => k_is)
    case f_ManyMaker_reckoned =>
      refine' L2.rawM_mk KX G ["self", "size"] ?a ?i ?l ?c ?k (fun _ _ _ _ _ _ us hl => match us, hl with | [_, _], _ => rfl)
      (case a => k_is)
      (case i => k_is)
      (case l => k_is)
      (case c => k_is)
      (case k => k_is)
    case f_ManyMaker_count_at =>
      refine' L2.rawM_mk KX G ["self", "size"] ?a ?i ?l ?c ?k (fun _ _ _ _ _ _ us hl => match us, hl with | [_, _], _ => rfl)
      (case a => k_is)
      (case i => k_is)
      (case l => k_is)
      (case c => k_is)
      (case k => k_is)
    case f_parts_of =>
      refine' L2.raw_mk KX G ["shape"] ?a ?l ?c ?k (fun _ _ _ _ _ _ us hl => match us, hl with | [_], _ => rfl)
      (case a => k_is)
      (case l => k_is)
      (case c => k_is)
      (case k => k_is)
    case f_Lister_new_maker =>
      refine' L2.rawM_mk KX G ["self", "shape"] ?a ?i ?l ?c ?k (fun _ _ _ _ _ _ us hl => match us, hl with | [_, _], _ => rfl)
      (case a => k_is)
      (case i => k_is)
      (case l => k_is)
      (case c => k_is)
      (case k => k_is)
    case f_Lister_maker_of =>
      refine' L2.rawM_mk KX G ["self", "shape"] ?a ?i ?l ?c ?k (fun _ _ _ _ _ _ us hl => match us, hl with | [_, _], _ => rfl)
      (case a => k_is)
      (case i => k_is)
      (case l => k_is)
      (case c => k_is)
      (case k => k_is)
    case f_maker_for =>
      refine' L2.raw_mk KX G ["book", "shape"] ?a ?l ?c ?k (fun _ _ _ _ _ _ us hl => match us, hl with | [_, _], _ => rfl)
      (case a => k_is)
      (case l => k_is)
      (case c => k_is)
      (case k => k_is)
    case f_found_in =>
      refine' L2.raw_mk KX G ["blocks", "number"] ?a ?l ?c ?k (fun _ _ _ _ _ _ us hl => match us, hl with | [_, _], _ => rfl)
      (case a => k_is)
      (case l => k_is)
      (case c => k_is)
      (case k => k_is)
    case f_WholeMaker_value_at =>
      refine' L2.rawM_mk KX G ["self", "size", "number"] ?a ?i ?l ?c ?k (fun _ _ _ _ _ _ us hl => match us, hl with | [_, _, _], _ => rfl)
      (case a => k_is)
      (case i => k_is)
      (case l => k_is)
      (case c => k_is)
      (case k => k_is)
    case f_ManyMaker_value_at =>
      refine' L2.rawM_mk KX G ["self", "size", "number"] ?a ?i ?l ?c ?k (fun _ _ _ _ _ _ us hl => match us, hl with | [_, _, _], _ => rfl)
      (case a => k_is)
      (case i => k_is)
      (case l => k_is)
      (case c => k_is)
      (case k => k_is)
    case f_all_made =>
      refine' L2.raw_mk KX G ["maker", "size"] ?a ?l ?c ?k (fun _ _ _ _ _ _ us hl => match us, hl with | [_, _], _ => rfl)
      (case a => k_is)
      (case l => k_is)
      (case c => k_is)
      (case k => k_is)
    case f_refuse_too_many =>
      refine' L2.raw_mk KX G ["count", "most"] ?a ?l ?c ?k (fun _ _ _ _ _ _ us hl => match us, hl with | [_, _], _ => rfl)
      (case a => k_is)
      (case l => k_is)
      (case c => k_is)
      (case k => k_is)
    case f_all_values =>
      refine' L2.rawD0_mk KX G ["book", "shape", "size", "most"] ?a ?l ?c ?k ?t ?s ?b
      (case a => k_is)
      (case l => k_is)
      (case c => k_is)
      (case k => k_is)
      (case t => k_is)
      (case s => rfl)
      (case b => exact fun us hl => match us, hl with | [_, _, _, _], _ => ⟨_, rfl, rfl⟩)
    case f_copied =>
      refine' L2.raw_mk KX G ["thing"] ?a ?l ?c ?k (fun _ _ _ _ _ _ us hl => match us, hl with | [_], _ => rfl)
      (case a => k_is)
      (case l => k_is)
      (case c => k_is)
      (case k => k_is)
    case f_is_whole_number =>
      refine' L2.raw_mk KX G ["thing"] ?a ?l ?c ?k (fun _ _ _ _ _ _ us hl => match us, hl with | [_], _ => rfl)
      (case a => k_is)
      (case l => k_is)
      (case c => k_is)
      (case k => k_is)
    case f_is_truth =>
      refine' L2.raw_mk KX G ["thing"] ?a ?l ?c ?k (fun _ _ _ _ _ _ us hl => match us, hl with | [_], _ => rfl)
      (case a => k_is)
      (case l => k_is)
      (case c => k_is)
      (case k => k_is)
    case f_same =>
      refine' L2.raw_mk KX G ["one", "other"] ?a ?l ?c ?k (fun _ _ _ _ _ _ us hl => match us, hl with | [_, _], _ => rfl)
      (case a => k_is)
      (case l => k_is)
      (case c => k_is)
      (case k => k_is)
    case f_apart =>
      refine' L2.raw_mk KX G ["begin", "done", "model_begin", "model_done", "deeds"] ?a ?l ?c ?k (fun _ _ _ _ _ _ us hl => match us, hl with | [_, _, _, _, _], _ => rfl)
      (case a => k_is)
      (case l => k_is)
      (case c => k_is)
      (case k => k_is)
    case f_law_thing =>
      refine' L2.rawT_mk KX G ["_law_low", "_law_more", "_law_many", "_law_bad"] ?a ?l ?c ?k ?e (fun _ _ _ _ _ _ us hl => match us, hl with | [_, _, _, _], _ => rfl)
      (case a => k_is)
      (case l => k_is)
      (case c => k_is)
      (case k => k_is)
      (case e => rfl)
    case f_deed_judge =>
      refine' L2.rawT_mk KX G ["begin", "done", "model_begin", "model_done"] ?a ?l ?c ?k ?e (fun _ _ _ _ _ _ us hl => match us, hl with | [_, _, _, _], _ => rfl)
      (case a => k_is)
      (case l => k_is)
      (case c => k_is)
      (case k => k_is)
      (case e => rfl)
    case f_holds =>
      refine' L2.raw_mk KX G ["judge", "value"] ?a ?l ?c ?k (fun _ _ _ _ _ _ us hl => match us, hl with | [_, _], _ => rfl)
      (case a => k_is)
      (case l => k_is)
      (case c => k_is)
      (case k => k_is)
    case f_tried_on =>
      refine' L2.raw_mk KX G ["judge", "values"] ?a ?l ?c ?k (fun _ _ _ _ _ _ us hl => match us, hl with | [_, _], _ => rfl)
      (case a => k_is)
      (case l => k_is)
      (case c => k_is)
      (case k => k_is)
    case f_tried =>
      refine' L2.rawD0_mk KX G ["book", "shape", "judge", "size", "most"] ?a ?l ?c ?k ?t ?s ?b
      (case a => k_is)
      (case l => k_is)
      (case c => k_is)
      (case k => k_is)
      (case t => k_is)
      (case s => rfl)
      (case b => exact fun us hl => match us, hl with | [_, _, _, _, _], _ => ⟨_, rfl, rfl⟩)
    case f_law_breach =>
      refine' L2.raw_mk KX G ["_law_low", "_law_more", "_law_bad", "_law_deeds"] ?a ?l ?c ?k (fun _ _ _ _ _ _ us hl => match us, hl with | [_, _, _, _], _ => rfl)
      (case a => k_is)
      (case l => k_is)
      (case c => k_is)
      (case k => k_is)
    case cl_Found =>
      refine' ⟨?a, ?b, ?c, ?d⟩
      (case a => k_is)
      (case b => k_is)
      (case c => k_is)
      (case d => k_is)
    case n_Found_place =>
      refine' L2.noattr_mk ?a
      (case a => k_is)
    case n_Found_choice =>
      refine' L2.noattr_mk ?a
      (case a => k_is)
    case n_Found_rest =>
      refine' L2.noattr_mk ?a
      (case a => k_is)
    case cl_Lister =>
      refine' ⟨?a, ?b, ?c, ?d⟩
      (case a => k_is)
      (case b => k_is)
      (case c => k_is)
      (case d => k_is)
    case n_Lister_book =>
      refine' L2.noattr_mk ?a
      (case a => k_is)
    case n_Lister_makers =>
      refine' L2.noattr_mk ?a
      (case a => k_is)
    case cl_ManyMaker =>
      refine' ⟨?a, ?b, ?c, ?d⟩
      (case a => k_is)
      (case b => k_is)
      (case c => k_is)
      (case d => k_is)
    case n_ManyMaker_counts =>
      refine' L2.noattr_mk ?a
      (case a => k_is)
    case n_ManyMaker_part =>
      refine' L2.noattr_mk ?a
      (case a => k_is)
    case cl_WholeMaker =>
      refine' ⟨?a, ?b, ?c, ?d⟩
      (case a => k_is)
      (case b => k_is)
      (case c => k_is)
      (case d => k_is)
    case n_WholeMaker_counts =>
      refine' L2.noattr_mk ?a
      (case a => k_is)
    case n_WholeMaker_low =>
      refine' L2.noattr_mk ?a
      (case a => k_is)
    case n_WholeMaker_span =>
      refine' L2.noattr_mk ?a
      (case a => k_is)
    case c_OF_ONE_PART =>
      refine' L2.conT_mk KX G ?a ?l ?z ?r
      (case a => k_is)
      (case l => k_is)
      (case z => decide)
      (case r => exact (.cons ⟨_, rfl⟩ (.cons ⟨_, rfl⟩ (.cons ⟨_, rfl⟩ .nil))))
    case b_bool =>
      refine' PySem.W.mg_none_of KX G ?a
      (case a => k_is)
    case b_dict =>
      refine' PySem.W.mg_none_of KX G ?a
      (case a => k_is)
    case b_enumerate =>
      refine' PySem.W.mg_none_of KX G ?a
      (case a => k_is)
    case b_int =>
      refine' PySem.W.mg_none_of KX G ?a
      (case a => k_is)
    case b_isinstance =>
      refine' PySem.W.mg_none_of KX G ?a
      (case a => k_is)
    case b_len =>
      refine' PySem.W.mg_none_of KX G ?a
      (case a => k_is)
    case b_list =>
      refine' PySem.W.mg_none_of KX G ?a
      (case a => k_is)
    case b_max =>
      refine' PySem.W.mg_none_of KX G ?a
      (case a => k_is)
    case b_min =>
      refine' PySem.W.mg_none_of KX G ?a
      (case a => k_is)
    case b_range =>
      refine' PySem.W.mg_none_of KX G ?a
      (case a => k_is)
    case b_sum =>
      refine' PySem.W.mg_none_of KX G ?a
      (case a => k_is)
    case b_tuple =>
      refine' PySem.W.mg_none_of KX G ?a
      (case a => k_is)
