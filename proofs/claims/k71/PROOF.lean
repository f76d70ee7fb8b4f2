import PyProof.Rows.All
import Wide.All
import OpenK.AllK
import Wide.FinOn
import Lean
import PyProof.EqAt
import PyProof.EqKinds
import PyProof.TupleCall
import PyProof.NeData
import KE.KTryMore
import PyProof.ExcBaseAll.ValueError
import PyProof.ExcArgsOwn
import KE.KIntText
import PyProof.Rows.SetFrom
import PyProof.SetRoads
import PyProof.StrWalks
import PyProof.ListStr
import PyProof.Rows.StrSplitCount
import PyProof.MeetsStr
import PyProof.MeetsStr2
import PyProof.StrOps2
import PySem.Challenge.RW_countgen_k71_steps_of_rows
set_option Elab.async false
set_option linter.all false
set_option maxRecDepth 100000
/-! THE HAND LAYER, for ints, bools, texts, own classes, LISTS and tuples (index, slices, in, append, pop ..), calls, loops. Paste it whole ahead of your own text; what your proof does not reach may be deleted. -/
namespace L2
open PySem PySem.Spec PyProof.Rows

/-- a key: an int or a str -/
abbrev Key := Sum Int Str
def keyIs : Key → Value → Bool
  | .inl k, v => Value.isInt k v
  | .inr x, v => Value.isStrOf x v
def keyH (w : World) : Key → Int
  | .inl k => hashInt k
  | .inr x => hashStr w x
theorem keyIs_shape : ∀ {k : Key} {v : Value}, keyIs k v = true → (∃ i t, k = Sum.inl i ∧ v = Value.int i t) ∨ (∃ x t, k = Sum.inr x ∧ v = Value.str x t)
  | .inl i, v, h => by
    obtain ⟨t, e⟩ := Value.isInt_shape (k := i) (v := v) h
    exact .inl ⟨i, t, rfl, e⟩
  | .inr x, v, h => by
    obtain ⟨t, e⟩ := Value.isStrOf_shape (x := x) (v := v) h
    exact .inr ⟨x, t, rfl, e⟩
theorem key_ll (a b : Int) : decide ((Sum.inl a : Key) = Sum.inl b) = (a == b) := by
  by_cases e : a = b
  · subst e; simp
  · have h : ¬ (Sum.inl a : Key) = Sum.inl b := fun q => e (Sum.inl.inj q)
    rw [decide_eq_false h]
    exact (beq_eq_false_iff_ne.mpr e).symm
theorem key_rr (a b : Str) : decide ((Sum.inr a : Key) = Sum.inr b) = decide (a = b) := by
  by_cases e : a = b
  · subst e; simp
  · have h : ¬ (Sum.inr a : Key) = Sum.inr b := fun q => e (Sum.inr.inj q)
    rw [decide_eq_false h, decide_eq_false e]
theorem key_lr (a : Int) (b : Str) : decide ((Sum.inl a : Key) = Sum.inr b) = false := decide_eq_false (fun q => nomatch q)
theorem key_rl (a : Str) (b : Int) : decide ((Sum.inr a : Key) = Sum.inl b) = false := decide_eq_false (fun q => nomatch q)

def mixKind (prog : Program) (w : World) : PySem.KeyKind prog w Key where
  is := keyIs
  hash := keyH w
  inj := fun v a b ha hb => by
    rcases keyIs_shape ha with ⟨i, t, rfl, rfl⟩ | ⟨x, t, rfl, rfl⟩
    · rcases keyIs_shape hb with ⟨j, u, rfl, e⟩ | ⟨y, u, rfl, e⟩
      · injection e with e1 _; rw [e1]
      · exact nomatch e
    · rcases keyIs_shape hb with ⟨j, u, rfl, e⟩ | ⟨y, u, rfl, e⟩
      · exact nomatch e
      · injection e with e1 _; rw [e1]
  byValue := fun k v h => by
    rcases keyIs_shape h with ⟨i, t, rfl, rfl⟩ | ⟨x, t, rfl, rfl⟩ <;> rfl
  pyHash := fun hv h => by
    rcases keyIs_shape hv with ⟨i, t, rfl, rfl⟩ | ⟨x, t, rfl, rfl⟩
    · exact wpAny_pyHash_int h
    · exact wpAny_pyHash_str h
  eqBool := fun hu hv h => by
    rcases keyIs_shape hu with ⟨i, t, rfl, rfl⟩ | ⟨x, t, rfl, rfl⟩
    · rcases keyIs_shape hv with ⟨j, u, rfl, rfl⟩ | ⟨y, u, rfl, rfl⟩
      · rw [key_ll] at h; exact wpAny_eqBool_int h
      · rw [key_lr] at h; exact SeqAt.EqAt.int_str i t y u _ _ _ _ h
    · rcases keyIs_shape hv with ⟨j, u, rfl, rfl⟩ | ⟨y, u, rfl, rfl⟩
      · rw [key_rl] at h; exact SeqAt.EqAt.str_int x t j u _ _ _ _ h
      · rw [key_rr] at h; exact wpAny_eqBool_str h
  «strs» := fun k x t v h => by
    rcases keyIs_shape h with ⟨i, u, rfl, e⟩ | ⟨y, u, rfl, e⟩
    · exact nomatch e
    · injection e with e1 _
      subst e1
      cases v <;> rfl

end L2

namespace L2
open PySem PySem.Spec PyProof.Rows

/-- a value, without the heap -/
inductive V where
  | non | bl (b : Bool) | int (i : Int) | str (x : Str) | byt (b : Array UInt8) | flt (b : UInt64) | ref (a : Addr) | ty (n : String)
  deriving DecidableEq

def RelV : V → Value → Prop
  | .non, u => u = Value.none
  | .bl b, u => u = Value.bool b
  | .int i, u => ∃ t, u = Value.int i t
  | .str x, u => ∃ t, u = Value.str x t
  | .byt b, u => ∃ t, u = Value.bytes b t
  | .flt b, u => ∃ t, u = Value.float b t
  | .ref a, u => u = Value.ref a
  | .ty n, u => u = Value.type n

abbrev Vals : List V → List Value → Prop := Paired RelV
theorem Vals.length {xs : List V} {us : List Value} (r : Vals xs us) : xs.length = us.length := Paired.length r
theorem Vals.get : ∀ {xs : List V} {us : List Value} {i : Nat} {x : V}, Vals xs us → xs[i]? = some x → ∃ u, us[i]? = some u ∧ RelV x u
  | _, _, _, _, .nil, e => by simp at e
  | _, _, 0, _, .cons r _, e => by simp at e; subst e; exact ⟨_, rfl, r⟩
  | _, _, i + 1, x, .cons _ t, e => by
    obtain ⟨u, h1, h2⟩ := Vals.get (i := i) (x := x) t (by simpa using e)
    exact ⟨u, by simpa using h1, h2⟩
theorem Vals.append : ∀ {xs ys : List V} {us ws : List Value}, Vals xs us → Vals ys ws → Vals (xs ++ ys) (us ++ ws)
  | _, _, _, _, .nil, s => s
  | _, _, _, _, .cons r t, s => .cons r (Vals.append t s)
theorem Vals.take : ∀ {xs : List V} {us : List Value} (n : Nat), Vals xs us → Vals (xs.take n) (us.take n)
  | _, _, 0, _ => .nil
  | _, _, _ + 1, .nil => .nil
  | _, _, n + 1, .cons r t => .cons r (Vals.take n t)
theorem Vals.drop : ∀ {xs : List V} {us : List Value} (n : Nat), Vals xs us → Vals (xs.drop n) (us.drop n)
  | _, _, 0, r => r
  | _, _, _ + 1, .nil => .nil
  | _, _, n + 1, .cons _ t => Vals.drop n t
def RelO : Option V → Option Value → Prop
  | some v, some u => RelV v u
  | none, none => True
  | _, _ => False
def KV {κ : Type} : List (κ × V) → List (κ × Value) → Prop := Paired fun (p : κ × V) (q : κ × Value) => p.1 = q.1 ∧ RelV p.2 q.2

/-- a key of a dict (00_mix): an int or a text -/
def kV : Key → V
  | .inl i => .int i
  | .inr x => .str x

/-- what stands at a tracked address -/
inductive HO where
  /-- a list -/
  | lst (xs : List V)
  /-- a tuple (never changes) -/
  | tup (xs : List V)
  /-- a dict whose keys are ints and texts; one whose keys are tuples of ints and texts (the empty one is both) -/
  | dK (kvs : List (Key × V)) | dT (kvs : List (List Key × V))
  /-- a set of ints: its members, its size -/
  | set (S : Int → Bool) (n : Nat)
  /-- an instance of the class at C, its dict at dx, its attributes -/
  | ins (C dx : Addr) (fs : List (Str × V))
  /-- the dict of the instance at x -/
  | own (x : Addr)
  /-- the dict of an exception -/
  | xd (fs : List (Str × V))
  /-- a bound method, f of x -/
  | met (f x : Addr)
  /-- a range object lo, lo + 1, .. below hi -/
  | rng (lo hi : Int)
  /-- a thing that is known to the object (the script; a dict while a loop walks it): read, never written while it is so -/
  | frz (o : Obj) (u : HO)
  /-- a code object's table -/
  | tbl (ps : Array Value)
  /-- any other thing, by what is true of its one object (a def of one's own: SetO a S n := HO.ext fun h => ..) -/
  | ext (φ : Heap → Prop)

abbrev Hp := Addr → Option HO
def upd (H : Hp) (a : Addr) (o : HO) : Hp := fun b => if b = a then some o else H b
theorem upd_same {H : Hp} {a : Addr} {o : HO} : upd H a o a = some o := by unfold upd; rw [if_pos rfl]
theorem upd_ne {H : Hp} {a b : Addr} {o : HO} (h : b ≠ a) : upd H a o b = H b := by unfold upd; rw [if_neg h]
/-- two objects of different content stand apart -/
theorem ne_of {H : Hp} {a b : Addr} {o u : HO} (h : H a = some o) (h' : H b = some u) (d : o ≠ u) : a ≠ b := by
  intro e; subst e; rw [h] at h'; exact d (Option.some.inj h')
theorem ne_of_none {H : Hp} {a b : Addr} {o : HO} (h : H a = some o) (h' : H b = none) : a ≠ b := by
  intro e; subst e; rw [h] at h'; cases h'

section
variable (P : Program) (w : World)
def ObjOk (H : Hp) (h : Heap) (a : Addr) : HO → Prop
  | .lst xs => xs.length ≤ sizeLine ∧ ∃ (its : List Value) (n : Nat), Vals xs its ∧ h.get? a = some { cls := .type "list", data := .seq its.toArray n }
  | .tup xs => xs.length ≤ sizeLine ∧ ∃ its : List Value, Vals xs its ∧ IsTup h a its.toArray
  | .dK kvs => kvs.length ≤ sizeLine ∧ (a == sysModules) = false ∧ ∃ vs, KV kvs vs ∧ h.DictOf (mixKind P w) a vs
  | .dT kvs => kvs.length ≤ sizeLine ∧ (a == sysModules) = false ∧ ∃ xs : List (List Key × Addr × Value),
      Paired (fun (p : List Key × V) (q : List Key × Addr × Value) => p.1 = q.1 ∧ H q.2.1 = some (.tup (p.1.map kV)) ∧ RelV p.2 q.2.2) kvs xs ∧
      ∃ o es ep, h.get? a = some o ∧ o.ExactDict ∧ o.data = .dict es ep ∧ es.toList = xs.map (entryOfKey (tupleKind (mixKind P w))) ∧ (xs.map (·.1)).Nodup
  | .set S n => h.SetOf (intKind P w) a S n
  | .ins C dx fs => H dx = some (.own a) ∧ fs.length ≤ 1000 ∧ dx ≠ a ∧ h.get? a = some (PySem.W.instObj C dx) ∧
      ∃ mA, h.Ns1 dx mA ∧ (∀ f, RelO (fs.lookup f) (mA f)) ∧ PySem.Within mA (fs.map (·.1))
  | .own _ => ∃ o, h.get? a = some o
  | .xd fs => ∃ mA, h.Ns1 a mA ∧ ∀ f, RelO (fs.lookup f) (mA f)
  | .rng lo hi => ∃ t u v, h.get? a = some { cls := .type "range", data := .fields #[.int lo t, .int hi u, .int 1 v] }
  | .frz o u => h.get? a = some o ∧ ObjOk H h a u
  | .tbl ps => h.get? a = some { cls := .none, data := .fields ps }
  | .met f x => h.get? a = some (PySem.W.methodObj (.ref f) (.ref x))
  | .ext φ => φ h ∧ (∃ o, h.get? a = some o) ∧ ∀ h1 h2 : Heap, φ h1 → (∀ o, h1.get? a = some o → h2.get? a = some o) → φ h2
/-- the abstract heap is held -/
def HOk (H : Hp) (h : Heap) : Prop := ∀ a o, H a = some o → ObjOk P w H h a o
end

section
variable {P : Program} {w : World} {H H' : Hp} {h h' : Heap} {a : Addr} {o : HO}
theorem ObjOk.lt (x : ObjOk P w H h a o) : a < h.objs.size := by
  cases o with
  | lst xs => obtain ⟨_, _, _, _, e⟩ := x; exact Heap.lt_size e
  | tup xs => obtain ⟨_, _, _, p⟩ := x; exact p.lt
  | dK kvs => obtain ⟨_, _, _, _, o, _, _, e, _⟩ := x; exact Heap.lt_size e
  | dT kvs => obtain ⟨_, _, _, _, o, _, _, e, _⟩ := x; exact Heap.lt_size e
  | set S n => obtain ⟨o, _, _, _, e, _⟩ := x; exact Heap.lt_size e
  | ins C dx fs => obtain ⟨_, _, _, e, _⟩ := x; exact Heap.lt_size e
  | own y => obtain ⟨_, e⟩ := x; exact Heap.lt_size e
  | xd fs => obtain ⟨_, ⟨_, _, _, e, _⟩, _⟩ := x; exact Heap.lt_size e
  | rng lo hi => obtain ⟨_, _, _, e⟩ := x; exact Heap.lt_size e
  | frz ob u => obtain ⟨e, _⟩ := x; exact Heap.lt_size e
  | tbl ps => exact Heap.lt_size (show h.get? a = some _ from x)
  | met f y => exact Heap.lt_size (show h.get? a = some _ from x)
  | ext φ => obtain ⟨_, ⟨_, e⟩, _⟩ := x; exact Heap.lt_size e
theorem Paired.mapP {α β : Type} {F G : α → β → Prop} : ∀ {l₁ : List α} {l₂ : List β}, Paired F l₁ l₂ → (∀ a b, F a b → G a b) → Paired G l₁ l₂
  | _, _, .nil, _ => .nil
  | _, _, .cons r t, f => .cons (f _ _ r) (Paired.mapP t f)
/-- what an object's description leans on: its own object, its own dict, the tuples -/
theorem ObjOk.stay (x : ObjOk P w H h a o) (k : ∀ b u, (b = a ∨ H b = some (.own a)) → h.get? b = some u → h'.get? b = some u)
    (ho : ∀ b, H b = some (.own a) → H' b = some (.own a)) (ht : ∀ b xs, H b = some (.tup xs) → H' b = some (.tup xs)) : ObjOk P w H' h' a o := by
  induction o with
  | lst xs => obtain ⟨z, its, n, r, e⟩ := x; exact ⟨z, its, n, r, k _ _ (.inl rfl) e⟩
  | tup xs => obtain ⟨z, its, r, ob, e, c⟩ := x; exact ⟨z, its, r, ob, k _ _ (.inl rfl) e, c⟩
  | dK kvs => obtain ⟨z, y, vs, r, ob, es, ep, e, c⟩ := x; exact ⟨z, y, vs, r, ob, es, ep, k _ _ (.inl rfl) e, c⟩
  | dT kvs =>
    obtain ⟨z, y, xs, r, ob, es, ep, e, c⟩ := x
    exact ⟨z, y, xs, Paired.mapP r fun p q z => ⟨z.1, ht _ _ z.2.1, z.2.2⟩, ob, es, ep, k _ _ (.inl rfl) e, c⟩
  | set S n => obtain ⟨ob, es, ep, t, e, c⟩ := x; exact ⟨ob, es, ep, t, k _ _ (.inl rfl) e, c⟩
  | ins C dx fs =>
    obtain ⟨d, z, ne, e, mA, ⟨od, es, ep, e2, c⟩, r⟩ := x
    exact ⟨ho _ d, z, ne, k _ _ (.inl rfl) e, mA, ⟨od, es, ep, k _ _ (.inr d) e2, c⟩, r⟩
  | own y => obtain ⟨ob, e⟩ := x; exact ⟨ob, k _ _ (.inl rfl) e⟩
  | xd fs => obtain ⟨mA, ⟨od, es, ep, e, c⟩, r⟩ := x; exact ⟨mA, ⟨od, es, ep, k _ _ (.inl rfl) e, c⟩, r⟩
  | rng lo hi => obtain ⟨t, u, v, e⟩ := x; exact ⟨t, u, v, k _ _ (.inl rfl) e⟩
  | frz ob u ih => obtain ⟨e, q⟩ := x; exact ⟨k _ _ (.inl rfl) e, ih q⟩
  | tbl ps =>
    have e : h.get? a = some { cls := .none, data := .fields ps } := x
    show h'.get? a = some { cls := .none, data := .fields ps }
    exact k a _ (.inl rfl) e
  | met f y =>
    have e : h.get? a = some (PySem.W.methodObj (.ref f) (.ref y)) := x
    show h'.get? a = some (PySem.W.methodObj (.ref f) (.ref y))
    exact k a _ (.inl rfl) e
  | ext φ => obtain ⟨p, ⟨o, e⟩, st⟩ := x; exact ⟨st _ _ p fun o q => k _ _ (.inl rfl) q, ⟨o, k _ _ (.inl rfl) e⟩, st⟩
theorem HOk.lt (x : HOk P w H h) (e : H a = some o) : a < h.objs.size := (x a o e).lt
theorem HOk.fresh (x : HOk P w H h) (e : h.objs.size ≤ a) : H a = none := by
  cases q : H a with
  | none => rfl
  | some u => exact absurd (Nat.lt_of_lt_of_le (x.lt q) e) (Nat.lt_irrefl _)
/-- every object of the heap is kept -/
theorem HOk.kept (x : HOk P w H h) (k : ∀ b u, h.get? b = some u → h'.get? b = some u) : HOk P w H h' := fun a o e =>
  (x a o e).stay (fun b u _ q => k b u q) (fun _ q => q) fun _ _ q => q
/-- a new object is laid and tracked -/
theorem HOk.laid (x : HOk P w H h) (k : ∀ b u, h.get? b = some u → h'.get? b = some u) (hp : h.objs.size ≤ a) (new : ObjOk P w (upd H a o) h' a o) : HOk P w (upd H a o) h' := fun b u e => by
  have hn := x.fresh hp
  by_cases hb : b = a
  · subst hb; rw [upd_same] at e; cases e; exact new
  · rw [upd_ne hb] at e
    exact (x b u e).stay (fun c v _ q => k c v q) (fun c q => by rw [upd_ne (ne_of_none q hn)]; exact q) fun c xs q => by rw [upd_ne (ne_of_none q hn)]; exact q
end

/-- what may be read as u: it is u, or a known u -/
def Rd (H : Hp) (a : Addr) (u : HO) : Prop := H a = some u ∨ ∃ o, H a = some (.frz o u)
theorem Rd.ok {P : Program} {w : World} {H : Hp} {h : Heap} {a : Addr} {u : HO} (r : Rd H a u) (x : HOk P w H h) : ObjOk P w H h a u := by
  rcases r with r | ⟨o, r⟩
  · exact x a u r
  · obtain ⟨_, q⟩ := x a _ r
    exact q
/-- what may be written -/
def Mut : Option HO → Prop
  | some (.lst _) => True
  | some (.dK _) => True
  | some (.dT _) => True
  | some (.set _ _) => True
  | some (.ins _ _ _) => True
  | some (.ext _) => True
  | _ => False
section
variable {P : Program} {w : World} {H : Hp} {h h' : Heap} {x e : Addr} {o' : HO}
/-- the object at e is changed: x itself, or the dict of the instance x -/
theorem HOk.write (ok : HOk P w H h) (mu : Mut (H x)) (he : e = x ∨ H e = some (.own x)) (k : ∀ b u, b ≠ e → h.get? b = some u → h'.get? b = some u) (heo : ∃ u, h'.get? e = some u)
    (new : ObjOk P w (upd H x o') h' x o') : HOk P w (upd H x o') h' := fun b u q => by
  have nown : ∀ c y, H c = some (.own y) → c ≠ x := fun c y r z => by subst z; rw [r] at mu; exact mu
  have ntup : ∀ c xs, H c = some (.tup xs) → c ≠ x := fun c xs r z => by subst z; rw [r] at mu; exact mu
  by_cases hb : b = x
  · subst hb; rw [upd_same] at q; cases q; exact new
  · rw [upd_ne hb] at q
    by_cases hbe : b = e
    · have q' : H b = some (.own x) := by
        rcases he with z | z
        · exact absurd (hbe.trans z) hb
        · rw [hbe]; exact z
      rw [q] at q'; cases q'
      obtain ⟨v, hv⟩ := heo
      exact ⟨v, by rw [hbe]; exact hv⟩
    · refine (ok b u q).stay (fun c v hc r => k c v ?_ r) (fun c r => by rw [upd_ne (nown c b r)]; exact r) fun c xs r => by rw [upd_ne (ntup c xs r)]; exact r
      rcases hc with rfl | hc
      · exact hbe
      · rintro rfl
        rcases he with z | z
        · exact nown c b hc z
        · rw [hc] at z; cases z; exact hb rfl
end

/-! ### kept unless tracked; of the frames at fs (the callers') the slots may change (an exception that passes writes there); of the records at ex (iterators) nothing is said -/
structure Un (fs ex : List Addr) (H H' : Hp) (h h' : Heap) : Prop where
  keep : ∀ b o, h.get? b = some o → H b = none → b ∉ fs → b ∉ ex → h'.get? b = some o
  slot : ∀ b o, h.get? b = some o → H b = none → b ∈ fs → b ∉ ex → ∃ sl, h'.get? b = some { o with slots := sl }
  free : ∀ b o, h.get? b = some o → H b = none → b ∉ ex → H' b = none
  there : ∀ b o, h.get? b = some o → b ∉ ex → ∃ o', h'.get? b = some o'
  tups : ∀ b xs, H b = some (.tup xs) → H' b = some (.tup xs)
  frzs : ∀ b o u, H b = some (.frz o u) → H' b = some (.frz o u)
  tbls : ∀ b ps, H b = some (.tbl ps) → ∃ more, H' b = some (.tbl (ps ++ more))
section
variable {fs fs' ex ex' : List Addr} {H H1 H2 : Hp} {h h1 h2 h' : Heap} {a x e : Addr} {o : HO}
theorem Un.any (u : Un fs ex H H1 h h1) {b : Addr} {ob : Obj} (q : h.get? b = some ob) (n : H b = none) (hx : b ∉ ex) : ∃ sl, h1.get? b = some { ob with slots := sl } := by
  by_cases hb : b ∈ fs
  · exact u.slot b ob q n hb hx
  · exact ⟨ob.slots, u.keep b ob q n hb hx⟩
theorem Un.kept (k : ∀ b u, h.get? b = some u → h'.get? b = some u) : Un fs ex H H h h' :=
  ⟨fun b ob q _ _ _ => k b ob q, fun b ob q _ _ _ => ⟨ob.slots, k b ob q⟩, fun _ _ _ n _ => n, fun b ob q _ => ⟨ob, k b ob q⟩, fun _ _ q => q, fun _ _ _ q => q, fun _ ps q => ⟨#[], by rw [q]; simp⟩⟩
theorem Un.refl : Un fs ex H H h h := Un.kept fun _ _ q => q
theorem Un.laid (k : ∀ b u, h.get? b = some u → h'.get? b = some u) (hp : h.objs.size ≤ a) (hn : H a = none) : Un fs ex H (upd H a o) h h' where
  keep := fun b u q _ _ _ => k b u q
  slot := fun b u q _ _ _ => ⟨u.slots, k b u q⟩
  free := fun b u q n _ => by rw [upd_ne (Nat.ne_of_lt (Nat.lt_of_lt_of_le (Heap.lt_size q) hp))]; exact n
  there := fun b u q _ => ⟨u, k b u q⟩
  tups := fun b xs q => by rw [upd_ne (ne_of_none q hn)]; exact q
  frzs := fun b u xs q => by rw [upd_ne (ne_of_none q hn)]; exact q
  tbls := fun b ps q => ⟨#[], by rw [upd_ne (ne_of_none q hn), q]; simp⟩
theorem Un.write (mu : Mut (H x)) (he : e = x ∨ H e = some (.own x)) (k : ∀ b u, b ≠ e → h.get? b = some u → h'.get? b = some u) (heo : ∃ u, h'.get? e = some u) : Un fs ex H (upd H x o) h h' := by
  have hx : ∀ b, H b = none → b ≠ x := fun b n z => by subst z; rw [n] at mu; exact mu
  have hb : ∀ b, H b = none → b ≠ e := fun b n z => by
    subst z
    rcases he with r | r
    · exact hx b n r
    · rw [n] at r; cases r
  have hm : ∀ b u, H b = some u → ¬ Mut (some u) → b ≠ x := fun b u q nm z => by subst z; rw [q] at mu; exact nm mu
  refine ⟨fun b u q n _ _ => k b u (hb b n) q, fun b u q n _ _ => ⟨u.slots, k b u (hb b n) q⟩, fun b u q n _ => by rw [upd_ne (hx b n)]; exact n, fun b u q _ => ?_,
    fun b xs q => by rw [upd_ne (hm b _ q fun z => z)]; exact q, fun b u xs q => by rw [upd_ne (hm b _ q fun z => z)]; exact q, fun b ps q => ⟨#[], by rw [upd_ne (hm b _ q fun z => z), q]; simp⟩⟩
  by_cases hbe : b = e
  · subst hbe; exact heo
  · exact ⟨u, k b u hbe q⟩
end

/-! ### the heap without what is tracked -/
def trk (h : Heap) (H : Hp) : List Addr := (List.range h.objs.size).filter fun a => (H a).isSome
def hidT (h : Heap) (H : Hp) : Heap := PySem.W.hideAll h (trk h H)
theorem hidT_size (h : Heap) (H : Hp) : (hidT h H).objs.size = h.objs.size := PySem.W.hideAll_size _ _
theorem hidT_get {h : Heap} {H : Hp} {b : Addr} {o : Obj} (e : h.get? b = some o) (n : H b = none) : (hidT h H).get? b = some o :=
  PySem.W.hideAll_get _ e fun hm => by
    have q : (H b).isSome = true := (List.mem_filter.mp hm).2
    rw [n] at q; simp at q
theorem of_hidT {h : Heap} {H : Hp} {b : Addr} {o : Obj} (e : (hidT h H).get? b = some o) : h.get? b = some o ∧ H b = none := by
  have e' : h.get? b = some o := PySem.W.of_hideAll (trk h H) e
  refine ⟨e', ?_⟩
  cases q : H b with
  | none => rfl
  | some x =>
    have hm : b ∈ trk h H := List.mem_filter.mpr ⟨List.mem_range.mpr (Heap.lt_size e'), by simp [q]⟩
    have z : (hidT h H).get? b = none := PySem.W.hideAll_none (trk h H) hm
    rw [z] at e; cases e

/-! ### OpenK's ledger, filled with every new object but one -/
def allNews (g h : Heap) (L : Addr) : List (Addr × Obj) := (List.range h.objs.size).filterMap fun a => if a = L ∨ (g.get? a).isSome = true then none else (h.get? a).map fun o => (a, o)
def rest (g h : Heap) (L d : Addr) : List (Addr × Obj) := (allNews g h L).filter fun p => decide (p.1 ≠ d)
end L2

namespace L2
open PySem PySem.Spec PyProof.Rows

/-- the module's facts, over the base: the heap at the law's entry without what is tracked there -/
structure Mod (K : PySem.W.Frag) (mg : Str → Option Value) (base : Heap) : Prop where
  kin : K.In base
  glob : base.Ns mainGlobals mg
  blt : ∃ mb, base.Ns builtinsNs mb ∧ ∀ x : Str, x ≠ "__name__" → mb x = bootBuiltins x
  nolimit : base.NoLimit

/-- the context: a def's body (or a comprehension's block) running. base: fixed through the whole law; s₀, H₀: the entry; outer: the frames whose slots others may change (a def's callers); stack: all frames that run;
   ex: iterators that were made ahead of the entry and are walked here (a comprehension's); fn: the names whose cells were made at the entry (a def: all; a comprehension's block: its own); calm: not within an except suite; pn: pins that every state bears; xe: what is wanted of an exception that leaves the code -/
structure Cx where
  prog : Program
  w : World
  K : PySem.W.Frag
  mg : Str → Option Value
  base : Heap
  A : Around
  N : List Str
  s₀ : Shared
  H₀ : Hp
  env : Env
  outer : List Env
  stack : List Env
  ex : List Addr
  fn : Str → Bool
  calm : Bool
  pn : List (Addr × Obj)
  xe : Value → Shared → Prop
/-- the callers' frames -/
def frs (l : List Env) : List Addr := l.filterMap (·.frame)
abbrev Cx.fs (X : Cx) : List Addr := frs X.outer

def Vis (sc : Scope) (x : Str) : Prop := sc.names.lookup x = some .local ∨ sc.names.lookup x = some .cell ∨ sc.names.lookup x = some .free
def Loc (sc : Scope) (x : Str) : Prop := sc.names.lookup x = some .local ∨ sc.names.lookup x = some .cell
def Look (env : Env) (h : Heap) (m : Str → Option Value) (x : Str) (u : Value) : Prop :=
  (env.kindOf x = some .local ∧ m x = some u) ∨ ((env.kindOf x = some .cell ∨ env.kindOf x = some .free) ∧ ∃ c, env.cells.lookup x = some c ∧ h.IsCell c (some u))

structure Cx.Ok (X : Cx) : Prop where
  mod : Mod X.K X.mg X.base
  kind : X.env.scope.kind = .function
  glob : X.env.globals = mainGlobals
  blt : X.env.builtins = builtinsNs
  above : X.s₀.heap.objs.size ≤ X.env.locals
  inj : ∀ x y c, X.env.cells.lookup x = some c → X.env.cells.lookup y = some c → x = y
  has : ∀ x, (X.env.kindOf x = some .cell ∨ X.env.kindOf x = some .free) → ∃ c, X.env.cells.lookup x = some c
  cab : ∀ x c, X.fn x = true → X.env.cells.lookup x = some c → X.s₀.heap.objs.size ≤ c
  hd : X.calm = true → X.A.handled = none
  frames : X.A.frames = some X.stack
  stk : X.stack = X.outer ∨ (X.stack = X.env :: X.outer ∧ X.env.frame = some X.env.locals)
  exf : ∀ b ∈ X.ex, b ≠ X.env.locals ∧ ∀ x c, X.env.cells.lookup x = some c → c ≠ b
  bs : ∀ b o, X.base.get? b = some o → X.s₀.heap.get? b = some o ∧ X.H₀ b = none
  bsz : X.base.objs.size ≤ X.s₀.heap.objs.size
  noex : ∀ b o, X.base.get? b = some o → b ∉ X.ex
  exfs : ∀ b ∈ X.ex, b ∉ X.fs
  funs : X.s₀.heap.FunFrames X.base X.outer
  frf : ∀ b ∈ X.fs, X.H₀ b = none

structure Inv (X : Cx) (pins : List (Addr × Obj)) (σ : List (Option V)) (H : Hp) (s : Shared) : Prop where
  ok : X.Ok
  os : s.os = X.s₀.os
  bare : AllBare s.gens
  base : Un X.fs X.ex X.H₀ H X.s₀.heap s.heap
  loc : ∃ m, s.heap.Ns X.env.locals m ∧ ∀ (i : Nat) (x : Str) (v : V), X.N[i]? = some x → σ[i]? = some (some v) → Vis X.env.scope x → ∃ u, RelV v u ∧ Look X.env s.heap m x u
  cell : ∀ x c, X.env.cells.lookup x = some c → ∃ v, s.heap.IsCell c v
  free : H X.env.locals = none
  freeC : ∀ x c, X.env.cells.lookup x = some c → H c = none
  pin : ∀ p ∈ X.pn ++ pins, s.heap.get? p.1 = some p.2 ∧ H p.1 = none ∧ p.1 ≠ X.env.locals ∧ p.1 ∉ X.fs ∧ ∀ v, p.2.data ≠ .cell v
  hok : HOk X.prog X.w H s.heap
  len : σ.length = X.N.length

section
variable {X : Cx} {pins : List (Addr × Obj)} {σ : List (Option V)} {H H' : Hp} {s : Shared} {h' : Heap}

theorem Cx.Ok.nofr (ok : X.Ok) {b : Addr} {o : Obj} (e : X.base.get? b = some o) : b ∉ X.fs := fun hb => by
  have := (ok.funs.mem hb).1
  rw [e] at this; cases this
theorem Inv.bs (I : Inv X pins σ H s) : ∀ b o, X.base.get? b = some o → s.heap.get? b = some o ∧ H b = none := fun b o e =>
  ⟨I.base.keep b o (I.ok.bs b o e).1 (I.ok.bs b o e).2 (I.ok.nofr e) (I.ok.noex b o e), I.base.free b o (I.ok.bs b o e).1 (I.ok.bs b o e).2 (I.ok.noex b o e)⟩
theorem Inv.bk (I : Inv X pins σ H s) : ∀ b o, X.base.get? b = some o → s.heap.get? b = some o := fun b o e => (I.bs b o e).1
theorem Inv.mod (I : Inv X pins σ H s) : Mod X.K X.mg X.base := I.ok.mod
theorem Inv.kIn (I : Inv X pins σ H s) : X.K.In s.heap := I.ok.mod.kin.keeps I.bk
theorem Inv.lt (I : Inv X pins σ H s) : X.env.locals < s.heap.objs.size := let ⟨_, hn, _⟩ := I.loc; hn.lt
theorem Inv.sz (I : Inv X pins σ H s) : X.s₀.heap.objs.size ≤ s.heap.objs.size := Nat.le_trans I.ok.above (Nat.le_of_lt I.lt)
theorem Inv.nofs (I : Inv X pins σ H s) {a : Addr} (h : s.heap.objs.size ≤ a) : a ∉ X.fs := fun hb => by
  obtain ⟨_, o, ho, _⟩ := I.ok.funs.mem hb
  exact absurd (Nat.lt_of_lt_of_le (Heap.lt_size ho) (Nat.le_trans I.sz h)) (Nat.lt_irrefl _)
theorem Inv.cne (I : Inv X pins σ H s) : ∀ x c, X.env.cells.lookup x = some c → c ≠ X.env.locals := fun x c e z => by
  obtain ⟨v, o, ho, hd⟩ := I.cell x c e
  obtain ⟨m, ⟨o', es, ep, ho', hd', _⟩, _⟩ := I.loc
  rw [z, ho'] at ho; cases ho; rw [hd'] at hd; cases hd
theorem Inv.funs (I : Inv X pins σ H s) : s.heap.FunFrames X.base X.outer := by
  have all : ∀ (l : List Env), (∀ b ∈ frs l, b ∈ X.fs) → X.s₀.heap.FunFrames X.base l → s.heap.FunFrames X.base l := by
    intro l
    induction l with
    | nil => intro _ _; trivial
    | cons env r ih =>
      intro hs hl
      obtain ⟨hk, ⟨L, o, hf, hn, ho, hd⟩, hr⟩ := hl
      have hL : L ∈ X.fs := hs L (by unfold frs; rw [List.filterMap_cons, hf]; exact List.mem_cons_self)
      obtain ⟨sl, e⟩ := I.base.slot L o ho (I.ok.frf L hL) hL fun z => I.ok.exfs L z hL
      exact ⟨hk, ⟨L, _, hf, hn, e, hd⟩, ih (fun b hb => hs b (by unfold frs; rw [List.filterMap_cons, hf]; exact List.mem_cons_of_mem _ hb)) hr⟩
  exact all X.outer (fun _ hb => hb) I.ok.funs

/-- the frames that run, for a call -/
theorem Inv.stack (I : Inv X pins σ H s) : s.heap.FunFrames X.base X.stack := by
  rcases I.ok.stk with e | ⟨e, hf⟩
  · rw [e]; exact I.funs
  · rw [e]
    obtain ⟨m, hn, _⟩ := I.loc
    refine .cons (by rw [I.ok.kind]; decide) hf hn ?_ I.funs
    exact Heap.get?_none_of_le (Nat.le_trans I.ok.bsz I.ok.above)
theorem Inv.stkSub (I : Inv X pins σ H s) : ∀ b ∈ frs X.stack, b ∈ X.env.locals :: X.fs := fun b hb => by
  rcases I.ok.stk with e | ⟨e, hf⟩
  · rw [e] at hb; exact List.mem_cons_of_mem _ hb
  · rw [e] at hb
    unfold frs at hb
    rw [List.filterMap_cons, hf] at hb
    exact hb
theorem Inv.stkFree (I : Inv X pins σ H s) : ∀ b ∈ frs X.stack, H b = none := fun b hb => by
  rcases List.mem_cons.mp (I.stkSub b hb) with e | hb
  · rw [e]; exact I.free
  · obtain ⟨_, o, ho, _⟩ := I.ok.funs.mem hb
    exact I.base.free b o ho (I.ok.frf b hb) fun z => I.ok.exfs b z hb

/-- THE STEP: the untracked objects but the frame and the records at ch are kept (the callers' frames up to slots), the frame's map is kept, the new abstract heap is held -/
theorem Inv.step {g' : Array GenState} {t' : Nat} {d' : Drawn} {ch : List Addr} (I : Inv X pins σ H s)
    (hch : ∀ b ∈ ch, (b ∈ X.ex ∨ X.s₀.heap.objs.size ≤ b) ∧ b ≠ X.env.locals ∧ (∀ x c, X.env.cells.lookup x = some c → c ≠ b) ∧ ∀ p ∈ X.pn ++ pins, p.1 ≠ b)
    (keep : ∀ b o, b ≠ X.env.locals → b ∉ X.fs → b ∉ ch → s.heap.get? b = some o → H b = none → h'.get? b = some o)
    (slot : ∀ b o, b ≠ X.env.locals → b ∈ X.fs → b ∉ ch → s.heap.get? b = some o → H b = none → ∃ sl, h'.get? b = some { o with slots := sl }) (free : ∀ b o, b ∉ ch → s.heap.get? b = some o → H b = none → H' b = none)
    (there : ∀ b o, b ∉ ch → s.heap.get? b = some o → ∃ o', h'.get? b = some o')
    (tups : ∀ b xs, H b = some (.tup xs) → H' b = some (.tup xs)) (frzs : ∀ b o u, H b = some (.frz o u) → H' b = some (.frz o u)) (tbls : ∀ b ps, H b = some (.tbl ps) → ∃ more, H' b = some (.tbl (ps ++ more)))
    (ns : ∀ m, s.heap.Ns X.env.locals m → h'.Ns X.env.locals m) (hok : HOk X.prog X.w H' h') (hg : AllBare g') :
    Inv X pins σ H' { s with heap := h', gens := g', drawn := d', toks := t' } := by
  have neL : ∀ b o, X.s₀.heap.get? b = some o → b ≠ X.env.locals := fun b o e => Nat.ne_of_lt (Nat.lt_of_lt_of_le (Heap.lt_size e) I.ok.above)
  have neC : ∀ b o, X.s₀.heap.get? b = some o → b ∉ X.ex → b ∉ ch := fun b o e hx hb => by
    rcases (hch b hb).1 with z | z
    · exact hx z
    · exact absurd (Nat.lt_of_lt_of_le (Heap.lt_size e) z) (Nat.lt_irrefl _)
  have cellK : ∀ x c, X.env.cells.lookup x = some c → ∀ v, s.heap.IsCell c v → h'.IsCell c v := fun x c e v ⟨o, ho, hd⟩ => by
    have nch : c ∉ ch := fun z => (hch c z).2.2.1 x c e rfl
    by_cases hc : c ∈ X.fs
    · obtain ⟨sl, q⟩ := slot c o (I.cne x c e) hc nch ho (I.freeC x c e)
      exact ⟨_, q, hd⟩
    · exact ⟨o, keep c o (I.cne x c e) hc nch ho (I.freeC x c e), hd⟩
  refine ⟨I.ok, I.os, hg, ⟨fun b o e n hb hx => ?_, fun b o e n hb hx => ?_, fun b o e n hx => ?_, fun b o e hx => ?_, fun b xs e => tups b xs (I.base.tups b xs e), fun b o xs e => frzs b o xs (I.base.frzs b o xs e), fun b ps e => ?_⟩, ?_, fun x c e => ?_, ?_, fun x c e => ?_, fun p hp => ?_, hok, I.len⟩
  · exact keep b o (neL b o e) hb (neC b o e hx) (I.base.keep b o e n hb hx) (I.base.free b o e n hx)
  · obtain ⟨sl, e1⟩ := I.base.slot b o e n hb hx
    obtain ⟨sl', e2⟩ := slot b _ (neL b o e) hb (neC b o e hx) e1 (I.base.free b o e n hx)
    exact ⟨sl', e2⟩
  · obtain ⟨o', e1⟩ := I.base.there b o e hx
    exact free b o' (neC b o e hx) e1 (I.base.free b o e n hx)
  · obtain ⟨o', e1⟩ := I.base.there b o e hx
    exact there b o' (neC b o e hx) e1
  · obtain ⟨m1, e1⟩ := I.base.tbls b ps e
    obtain ⟨m2, e2⟩ := tbls b _ e1
    exact ⟨m1 ++ m2, by rw [e2, Array.append_assoc]⟩
  · obtain ⟨m, hn, hl⟩ := I.loc
    refine ⟨m, ns m hn, fun i x v e1 e2 e3 => ?_⟩
    obtain ⟨u, r, l⟩ := hl i x v e1 e2 e3
    refine ⟨u, r, ?_⟩
    rcases l with l | ⟨k, c, e, z⟩
    · exact .inl l
    · exact .inr ⟨k, c, e, cellK x c e _ z⟩
  · obtain ⟨v, z⟩ := I.cell x c e
    exact ⟨v, cellK x c e v z⟩
  · obtain ⟨m, ⟨o, _, _, ho, _⟩, _⟩ := I.loc
    exact free _ o (fun z => (hch _ z).2.1 rfl) ho I.free
  · obtain ⟨v, o, ho, hd⟩ := I.cell x c e
    exact free c o (fun z => (hch c z).2.2.1 x c e rfl) ho (I.freeC x c e)
  · obtain ⟨e, n, ne, nf, d⟩ := I.pin p hp
    have nch : p.1 ∉ ch := fun z => (hch p.1 z).2.2.2 p hp rfl
    exact ⟨keep p.1 p.2 ne nf nch e n, free p.1 p.2 nch e n, ne, nf, d⟩
/-- .. where the frame's own object is kept too -/
theorem Inv.un {t' : Nat} (I : Inv X pins σ H s) (u : Un X.fs [] H H' s.heap h') (hok : HOk X.prog X.w H' h') : Inv X pins σ H' { s with heap := h', toks := t' } := by
  obtain ⟨m, ⟨o, es, ep, ho, r⟩, _⟩ := id I.loc
  obtain ⟨sl, hL⟩ := u.any ho I.free (by simp)
  exact I.step (g' := s.gens) (d' := s.drawn) (ch := []) (fun _ z => nomatch z) (fun b o _ hb _ e n => u.keep b o e n hb (by simp)) (fun b o _ hb _ e n => u.slot b o e n hb (by simp)) (fun b o _ e n => u.free b o e n (by simp)) (fun b o _ e => u.there b o e (by simp)) u.tups u.frzs u.tbls (fun m' hm => by
    obtain ⟨o', es', ep', ho', r'⟩ := hm
    rw [ho] at ho'; cases ho'
    exact ⟨_, es', ep', hL, r'⟩) hok I.bare
/-- behind a call (or a comprehension's block): the slots of this frame may have changed too, the records at ch may have turned -/
theorem Inv.call {g' : Array GenState} {t' : Nat} {d' : Drawn} {ch : List Addr} (I : Inv X pins σ H s) (u : Un (frs X.stack) ch H H' s.heap h') (hok : HOk X.prog X.w H' h') (hg : AllBare g')
    (hch : ∀ b ∈ ch, (b ∈ X.ex ∨ X.s₀.heap.objs.size ≤ b) ∧ b ≠ X.env.locals ∧ (∀ x c, X.env.cells.lookup x = some c → c ≠ b) ∧ ∀ p ∈ X.pn ++ pins, p.1 ≠ b) :
    Inv X pins σ H' { s with heap := h', gens := g', drawn := d', toks := t' } := by
  obtain ⟨m, ⟨o, es, ep, ho, r⟩, _⟩ := id I.loc
  obtain ⟨sl, hL⟩ := u.any ho I.free fun z => (hch _ z).2.1 rfl
  exact I.step (ch := ch) hch (fun b o hL hb hc e n => u.keep b o e n (fun z => (List.mem_cons.mp (I.stkSub b z)).elim hL hb) hc) (fun b o _ _ hc e n => u.any e n hc) (fun b o hc e n => u.free b o e n hc) (fun b o hc e => u.there b o e hc) u.tups u.frzs u.tbls (fun m' hm => by
    obtain ⟨o', es', ep', ho', r'⟩ := hm
    rw [ho] at ho'; cases ho'
    exact ⟨_, es', ep', hL, r'⟩) hok hg
/-- an untracked record of ours (an iterator) has turned -/
theorem Inv.turned {t' : Nat} {it : Addr} (I : Inv X pins σ H s) (k : ∀ b o, b ≠ it → s.heap.get? b = some o → h'.get? b = some o) (hn : H it = none) (hL : it ≠ X.env.locals)
    (h1 : it ∈ X.ex ∨ X.s₀.heap.objs.size ≤ it) (h2 : ∀ x c, X.env.cells.lookup x = some c → c ≠ it) (h3 : ∀ p ∈ X.pn ++ pins, p.1 ≠ it) : Inv X pins σ H { s with heap := h', toks := t' } := by
  have nit : ∀ b u, H b = some u → b ≠ it := fun b u e z => by rw [z, hn] at e; cases e
  refine I.step (g' := s.gens) (d' := s.drawn) (ch := [it]) (fun b hb => ?_) (fun b o _ _ hc e _ => k b o (fun z => hc (by simp [z])) e) (fun b o _ _ hc e _ => ⟨o.slots, k b o (fun z => hc (by simp [z])) e⟩) (fun _ _ _ _ n => n)
    (fun b o hc e => ⟨o, k b o (fun z => hc (by simp [z])) e⟩) (fun _ _ e => e) (fun _ _ _ e => e) (fun b ps e => ⟨#[], by rw [e]; simp⟩) (fun m hm => ?_) (fun b u e => ?_) I.bare
  · have e : b = it := by simpa using hb
    subst e
    exact ⟨h1, hL, h2, h3⟩
  · obtain ⟨o, es, ep, ho, r⟩ := hm
    exact ⟨o, es, ep, k _ o (Ne.symm hL) ho, r⟩
  · refine (I.hok b u e).stay (fun c v hc q => k c v ?_ q) (fun _ q => q) fun _ _ q => q
    rcases hc with z | z
    · rw [z]; exact nit b u e
    · exact nit c _ z
theorem Inv.tok (I : Inv X pins σ H s) (t : Nat) : Inv X pins σ H { s with toks := t } := I.un (h' := s.heap) (t' := t) Un.refl I.hok
/-- all objects kept -/
theorem Inv.kept {t' : Nat} (I : Inv X pins σ H s) (k : ∀ b u, s.heap.get? b = some u → h'.get? b = some u) : Inv X pins σ H { s with heap := h', toks := t' } := I.un (Un.kept k) (I.hok.kept k)
/-- a new object laid and tracked -/
theorem Inv.laid {a : Addr} {o : HO} {t' : Nat} (I : Inv X pins σ H s) (k : ∀ b u, s.heap.get? b = some u → h'.get? b = some u) (hp : s.heap.objs.size ≤ a) (new : ObjOk X.prog X.w (upd H a o) h' a o) :
    Inv X pins σ (upd H a o) { s with heap := h', toks := t' } := I.un (Un.laid k hp (I.hok.fresh hp)) (I.hok.laid k hp new)
/-- an object written -/
theorem Inv.write {x e : Addr} {o : HO} {t' : Nat} (I : Inv X pins σ H s) (mu : Mut (H x)) (he : e = x ∨ H e = some (.own x)) (k : ∀ b u, b ≠ e → s.heap.get? b = some u → h'.get? b = some u) (heo : ∃ u, h'.get? e = some u)
    (new : ObjOk X.prog X.w (upd H x o) h' x o) : Inv X pins σ (upd H x o) { s with heap := h', toks := t' } := I.un (Un.write mu he k heo) (I.hok.write mu he k heo new)
theorem Inv.pins_of {pins' : List (Addr × Obj)} (I : Inv X pins σ H s) (h : ∀ p ∈ pins', s.heap.get? p.1 = some p.2 ∧ H p.1 = none ∧ p.1 ≠ X.env.locals ∧ p.1 ∉ X.fs ∧ ∀ v, p.2.data ≠ .cell v) : Inv X pins' σ H s :=
  ⟨I.ok, I.os, I.bare, I.base, I.loc, I.cell, I.free, I.freeC, fun p hp => (List.mem_append.mp hp).elim (fun z => I.pin p (List.mem_append_left _ z)) (h p), I.hok, I.len⟩

theorem nodup_ix {N : List Str} (hN : N.Nodup) {i j : Nat} {x : Str} (a : N[i]? = some x) (b : N[j]? = some x) : i = j := by
  obtain ⟨h1, e1⟩ := List.getElem?_eq_some_iff.mp a
  obtain ⟨h2, e2⟩ := List.getElem?_eq_some_iff.mp b
  exact (List.getElem_inj hN).mp (e1.trans e2.symm)

/-- a name is stored; what changed -/
theorem store_ok2 {M : Model} {A : Around} {E : Value → Shared → Prop} {i : Nat} {x : Str} {v : V} {u : Value} {Q : Unit → Shared → Prop} (I : Inv X pins σ H s) (hN : X.N.Nodup) (hi : X.N[i]? = some x) (hx : Loc X.env.scope x) (r : RelV v u)
    (h : ∀ s', Inv X pins (σ.set i (some v)) H s' → (∃ a, Heap.SameBut a s.heap s'.heap ∧ (a = X.env.locals ∨ X.env.cells.lookup x = some a)) → Q () s') (hf : X.fn x = true ∨ X.env.scope.names.lookup x = some .local := by first | exact .inl rfl | exact .inr rfl | assumption) : wpAny M A (storeName X.env x u) Q E s := by
  obtain ⟨m, hn, hl⟩ := id I.loc
  have hcls : (X.env.scope.kind == .class || (X.env.scope.kind == .module && X.env.locals != X.env.globals)) = false := by rw [I.ok.kind]; rfl
  have hiσ : i < σ.length := by rw [I.len]; exact (List.getElem?_eq_some_iff.mp hi).1
  have cne := I.cne
  have tracked : ∀ {a : Addr} {h' : Heap}, (∃ o, s.heap.get? a = some o ∧ H a = none) → Heap.SameBut a s.heap h' → HOk X.prog X.w H h' := fun {a h'} ha hs b ob e => by
    obtain ⟨_, _, hfree⟩ := ha
    refine (I.hok b ob e).stay (fun c w' hc q => (hs.2 c ?_).trans q) (fun _ q => q) fun _ _ q => q
    rintro rfl
    rcases hc with rfl | hc
    · rw [hfree] at e; cases e
    · rw [hfree] at hc; cases hc
  rcases hx with hk | hk
  · refine wpAny_storeName_local hk hn (fun h' hn' hs => ?_) hcls
    obtain ⟨oL, _, _, hoL, _⟩ := id hn
    refine h _ ⟨I.ok, I.os, I.bare, ⟨fun b o e n hb hx => ?_, fun b o e n hb hx => ?_, I.base.free, fun b o e hx => ?_, I.base.tups, I.base.frzs, I.base.tbls⟩, ⟨_, hn', fun j y v' e1 e2 e3 => ?_⟩, fun y c e => ?_, I.free, I.freeC, fun p hp => ?_, tracked ⟨oL, hoL, I.free⟩ hs, by simpa using I.len⟩ ⟨_, hs, .inl rfl⟩
    · exact (hs.2 b (Nat.ne_of_lt (Nat.lt_of_lt_of_le (Heap.lt_size e) I.ok.above))).trans (I.base.keep b o e n hb hx)
    · obtain ⟨sl, e1⟩ := I.base.slot b o e n hb hx
      exact ⟨sl, (hs.2 b (Nat.ne_of_lt (Nat.lt_of_lt_of_le (Heap.lt_size e) I.ok.above))).trans e1⟩
    · obtain ⟨o', e1⟩ := I.base.there b o e hx
      exact ⟨o', (hs.2 b (Nat.ne_of_lt (Nat.lt_of_lt_of_le (Heap.lt_size e) I.ok.above))).trans e1⟩
    · by_cases hj : j = i
      · subst hj
        rw [hi] at e1; cases e1
        rw [List.getElem?_set_self hiσ] at e2
        cases e2
        exact ⟨u, r, .inl ⟨hk, by simp⟩⟩
      · rw [List.getElem?_set_ne (Ne.symm hj)] at e2
        obtain ⟨u', r', q⟩ := hl j y v' e1 e2 e3
        refine ⟨u', r', ?_⟩
        rcases q with ⟨k, e⟩ | ⟨k, c, e, z⟩
        · refine .inl ⟨k, ?_⟩
          have : y ≠ x := fun e => hj (nodup_ix hN e1 (e ▸ hi))
          simp [this, e]
        · exact .inr ⟨k, c, e, z.sameBut hs (cne y c e)⟩
    · obtain ⟨w', z⟩ := I.cell y c e
      exact ⟨w', z.sameBut hs (cne y c e)⟩
    · obtain ⟨e, n, ne, nf, d⟩ := I.pin p hp
      exact ⟨(hs.2 p.1 ne).trans e, n, ne, nf, d⟩
  · have hfn : X.fn x = true := by
      rcases hf with z | z
      · exact z
      · rw [z] at hk; cases hk
    obtain ⟨c, hc⟩ := I.ok.has x (.inl hk)
    obtain ⟨w', z⟩ := I.cell x c hc
    refine wpAny_storeName_cell I.ok.kind hk hc z (fun h' hc' hs => ?_)
    obtain ⟨oc, hoc, hocd⟩ := id z
    refine h { s with heap := h' } ⟨I.ok, I.os, I.bare, ⟨fun b o e n hb hx => ?_, fun b o e n hb hx => ?_, I.base.free, fun b o e hx => ?_, I.base.tups, I.base.frzs, I.base.tbls⟩, ⟨m, hn.sameBut hs (Ne.symm (cne x c hc)), fun j y v' e1 e2 e3 => ?_⟩, fun y c' e => ?_, I.free, I.freeC, fun p hp => ?_, tracked ⟨oc, hoc, I.freeC x c hc⟩ hs, by simpa using I.len⟩ ⟨c, hs, .inr hc⟩
    · exact (hs.2 b (Nat.ne_of_lt (Nat.lt_of_lt_of_le (Heap.lt_size e) (I.ok.cab x c hfn hc)))).trans (I.base.keep b o e n hb hx)
    · obtain ⟨sl, e1⟩ := I.base.slot b o e n hb hx
      exact ⟨sl, (hs.2 b (Nat.ne_of_lt (Nat.lt_of_lt_of_le (Heap.lt_size e) (I.ok.cab x c hfn hc)))).trans e1⟩
    · obtain ⟨o', e1⟩ := I.base.there b o e hx
      exact ⟨o', (hs.2 b (Nat.ne_of_lt (Nat.lt_of_lt_of_le (Heap.lt_size e) (I.ok.cab x c hfn hc)))).trans e1⟩
    · by_cases hj : j = i
      · subst hj
        rw [hi] at e1; cases e1
        rw [List.getElem?_set_self hiσ] at e2
        cases e2
        exact ⟨u, r, .inr ⟨.inl hk, c, hc, hc'⟩⟩
      · rw [List.getElem?_set_ne (Ne.symm hj)] at e2
        obtain ⟨u', r', q⟩ := hl j y v' e1 e2 e3
        refine ⟨u', r', ?_⟩
        rcases q with q | ⟨k, c', e, z'⟩
        · exact .inl q
        · refine .inr ⟨k, c', e, z'.sameBut hs ?_⟩
          rintro rfl
          exact hj (nodup_ix hN e1 (I.ok.inj _ _ _ e hc ▸ hi))
    · by_cases hcc : c' = c
      · subst hcc; exact ⟨_, hc'⟩
      · obtain ⟨w2, z2⟩ := I.cell y c' e
        exact ⟨w2, z2.sameBut hs hcc⟩
    · obtain ⟨e, n, ne, nf, d⟩ := I.pin p hp
      refine ⟨(hs.2 p.1 ?_).trans e, n, ne, nf, d⟩
      intro q
      rw [q, hoc] at e
      have q' : oc = p.2 := Option.some.inj e
      exact d w' (by rw [← q']; exact hocd)
theorem store_ok {M : Model} {A : Around} {E : Value → Shared → Prop} {i : Nat} {x : Str} {v : V} {u : Value} {Q : Unit → Shared → Prop} (I : Inv X pins σ H s) (hN : X.N.Nodup) (hi : X.N[i]? = some x) (hx : Loc X.env.scope x) (r : RelV v u)
    (h : ∀ s', Inv X pins (σ.set i (some v)) H s' → Q () s') (hf : X.fn x = true ∨ X.env.scope.names.lookup x = some .local := by first | exact .inl rfl | exact .inr rfl | assumption) : wpAny M A (storeName X.env x u) Q E s :=
  store_ok2 I hN hi hx r (fun s' I' _ => h s' I') hf
/-- behind a call or a block, the state as it is -/
theorem Inv.call' {s' : Shared} {ch : List Addr} (I : Inv X pins σ H s) (ho : s'.os = s.os) (u : Un (frs X.stack) ch H H' s.heap s'.heap) (hok : HOk X.prog X.w H' s'.heap) (hg : AllBare s'.gens)
    (hch : ∀ b ∈ ch, (b ∈ X.ex ∨ X.s₀.heap.objs.size ≤ b) ∧ b ≠ X.env.locals ∧ (∀ x c, X.env.cells.lookup x = some c → c ≠ b) ∧ ∀ p ∈ X.pn ++ pins, p.1 ≠ b) : Inv X pins σ H' s' := by
  obtain ⟨h', g', d', t', o'⟩ := s'
  have e : o' = s.os := ho
  subst e
  exact I.call (g' := g') (t' := t') (d' := d') u hok hg hch
end

/-! ### the judgements -/
/-- an exception: its class, its own dict's address (where it has one), the abstract heap behind it -/
abbrev XK := Value → Option Addr → Hp → Prop
abbrev St := List (Option V)
abbrev VK := V → Hp → Prop
/-- an expression's reading; a test's; an argument list's -/
abbrev TE := St → Hp → VK → Prop
abbrev TT := St → Hp → (Bool → Hp → Prop) → Prop
abbrev TA := St → Hp → (List V → Hp → Prop) → Prop
/-- what is wanted behind a statement -/
structure Ends where
  nx : St → Hp → Prop
  rt : VK
  bk : St → Hp → Prop := fun _ _ => False
  ct : St → Hp → Prop := fun _ _ => False
abbrev TS := Ends → St → Hp → Prop

def EP (X : Cx) (pins : List (Addr × Obj)) (σ : St) (Q : VK) (u : Value) (s' : Shared) : Prop := ∃ v H', Inv X pins σ H' s' ∧ RelV v u ∧ Q v H'
def TP (X : Cx) (pins : List (Addr × Obj)) (σ : St) (Q : Bool → Hp → Prop) (b : Bool) (s' : Shared) : Prop := ∃ H', Inv X pins σ H' s' ∧ Q b H'
def AP (X : Cx) (pins : List (Addr × Obj)) (σ : St) (Q : List V → Hp → Prop) (us : List Value) (s' : Shared) : Prop := ∃ vs H', Inv X pins σ H' s' ∧ Vals vs us ∧ Q vs H'
def SP (X : Cx) (pins : List (Addr × Obj)) (D : Ends) (f : Flow) (s' : Shared) : Prop :=
  match f with
  | .next => ∃ σ' H', Inv X pins σ' H' s' ∧ D.nx σ' H'
  | .brk => ∃ σ' H', Inv X pins σ' H' s' ∧ D.bk σ' H'
  | .cont => ∃ σ' H', Inv X pins σ' H' s' ∧ D.ct σ' H'
  | .ret u => ∃ v σ' H', Inv X pins σ' H' s' ∧ RelV v u ∧ D.rt v H'

def PE (X : Cx) (e : Expr) (t : TE) : Prop :=
  ∀ (pins : List (Addr × Obj)) (s : Shared) (σ : St) (H : Hp) (Q : VK), Inv X pins σ H s → t σ H Q → wpAny (model X.prog X.w) X.A (eval e X.env) (EP X pins σ Q) X.xe s
def PT (X : Cx) (e : Expr) (t : TT) : Prop :=
  ∀ (pins : List (Addr × Obj)) (s : Shared) (σ : St) (H : Hp) (Q : Bool → Hp → Prop), Inv X pins σ H s → t σ H Q → wpAny (model X.prog X.w) X.A (isTrue e X.env (eval e X.env)) (TP X pins σ Q) X.xe s
/-- a test whatever its 'whole' is (and, or) -/
def PW (X : Cx) (e : Expr) (t : TT) : Prop :=
  ∀ (whole : Sem Value) (pins : List (Addr × Obj)) (s : Shared) (σ : St) (H : Hp) (Q : Bool → Hp → Prop), Inv X pins σ H s → t σ H Q → wpAny (model X.prog X.w) X.A (isTrue e X.env whole) (TP X pins σ Q) X.xe s
theorem PW.pt {X : Cx} {e : Expr} {t : TT} (h : PW X e t) : PT X e t := h _
/-- an argument list (no star), from the left -/
def PA (X : Cx) (es : List Expr) (t : TA) : Prop :=
  ∀ (pos : Pos) (pins : List (Addr × Obj)) (s : Shared) (σ : St) (H : Hp) (Q : List V → Hp → Prop), Inv X pins σ H s → t σ H Q → wpAny (model X.prog X.w) X.A (spliced (backTo pos (starEach es X.env))) (AP X pins σ Q) X.xe s
def PS (X : Cx) (st : Stmt) (t : TS) : Prop :=
  ∀ (pins : List (Addr × Obj)) (s : Shared) (σ : St) (H : Hp) (D : Ends), Inv X pins σ H s → t D σ H → wpAny (model X.prog X.w) X.A (exec st X.env) (SP X pins D) X.xe s
def PSs (X : Cx) (st : List Stmt) (t : TS) : Prop :=
  ∀ (pins : List (Addr × Obj)) (s : Shared) (σ : St) (H : Hp) (D : Ends), Inv X pins σ H s → t D σ H → wpAny (model X.prog X.w) X.A (execs st X.env) (SP X pins D) X.xe s
/-- weaken the end -/
theorem thn {α : Type} {t : Sem α} {Q Q' : α → Shared → Prop} {M : Model} {A : Around} {E : Value → Shared → Prop} {s : Shared} (h : wpAny M A t Q E s) (hQ : ∀ a s, Q a s → Q' a s) : wpAny M A t Q' E s := wpAny_mono h hQ fun _ _ x => x
end L2

namespace L2
open PySem PySem.Spec PyProof.Rows
section
variable {X : Cx}

/-! ### names and constants -/
def tVar (i : Nat) : TE := fun σ H Q => ∃ v, σ[i]? = some (some v) ∧ Q v H
def tC (v : V) : TE := fun _ H Q => Q v H
theorem pe_var {i : Nat} {x : Str} {pos : Pos} (hN : X.N[i]? = some x) (hv : Vis X.env.scope x) (hd : (x == ("__debug__" : Str)) = false := by decide) (hcd : (x == ("__classdict__" : Str)) = false := by decide) : PE X (.Name x pos) (tVar i) := by
  intro pins s σ H Q I h
  obtain ⟨v, e, h⟩ := h
  obtain ⟨m, hn, hl⟩ := I.loc
  obtain ⟨u, r, l⟩ := hl i x v hN e hv
  have fin : EP X pins σ Q u s := ⟨v, H, I, r, h⟩
  rcases l with ⟨hk, hm⟩ | ⟨hk, c, hc, hcell⟩
  · exact wpAny_Name (wpAny_loadName_local I.ok.kind hk hn hm fin) hd
  · rcases hk with hk | hk
    · exact wpAny_Name (wpAny_loadName_cell I.ok.kind hk hc hcell fin) hd
    · exact wpAny_Name (wpAny_loadName_free I.ok.kind hk hc hcell fin hcd) hd
theorem pe_int {i j pos} : PE X (.Constant (.int i) j pos) (tC (.int i)) := fun _ _ _ H _ I h => wpAny_Constant_int ⟨.int i, H, I.tok _, ⟨_, rfl⟩, h⟩
theorem pe_bl {b j pos} : PE X (.Constant (.bool b) j pos) (tC (.bl b)) := fun _ _ _ H _ I h => Constant_bool ⟨.bl b, H, I, rfl, h⟩
theorem pe_non {j pos} : PE X (.Constant .none j pos) (tC .non) := fun _ _ _ H _ I h => Constant_none ⟨.non, H, I, rfl, h⟩
theorem pe_str {x j pos} : PE X (.Constant (.str x) j pos) (tC (.str x)) := fun _ _ _ H _ I h => Calls.Constant_str ⟨.str x, H, I.tok _, ⟨_, rfl⟩, h⟩

/-- a global name of the def -/
def Gl (X : Cx) (x : Str) : Prop := X.env.kindOf x = some .globalImplicit
theorem ld_glob {E : Value → Shared → Prop} {pins : List (Addr × Obj)} {s : Shared} {σ : St} {H : Hp} {x : Str} {u : Value} {pos : Pos} {Q : Value → Shared → Prop} (I : Inv X pins σ H s) (hg : Gl X x) (hm : X.mg x = some u) (h : Q u s)
    (hd : (x == ("__debug__" : Str)) = false := by decide) : wpAny (model X.prog X.w) X.A (eval (.Name x pos) X.env) Q E s :=
  Calls.Name_function_global I.ok.kind hg (Calls.loadGlobal_global (by rw [I.ok.glob]; exact I.mod.glob.keeps I.bk) hm h) hd
theorem ld_blt {E : Value → Shared → Prop} {pins : List (Addr × Obj)} {s : Shared} {σ : St} {H : Hp} {x : Str} {u : Value} {pos : Pos} {Q : Value → Shared → Prop} (I : Inv X pins σ H s) (hg : Gl X x) (hm : X.mg x = none) (hv : bootBuiltins x = some u) (h : Q u s)
    (hn : x ≠ "__name__" := by decide) (hd : (x == ("__debug__" : Str)) = false := by decide) : wpAny (model X.prog X.w) X.A (eval (.Name x pos) X.env) Q E s := by
  obtain ⟨mb, h1, h2⟩ := I.mod.blt
  exact Calls.Name_function_global I.ok.kind hg (Calls.loadGlobal_builtin (by rw [I.ok.glob]; exact I.mod.glob.keeps I.bk) hm (by rw [I.ok.blt]; exact h1.keeps I.bk) ((h2 x hn).trans hv) h) hd
/-- a module's constant, a class, a function, as a value -/
theorem pe_glob {x : Str} {v : V} {u : Value} {pos : Pos} (hg : Gl X x) (hm : X.mg x = some u) (r : RelV v u) (hd : (x == ("__debug__" : Str)) = false := by decide) : PE X (.Name x pos) (tC v) :=
  fun _ _ _ H _ I h => ld_glob I hg hm ⟨v, H, I, r, h⟩ hd
theorem pe_bltn {x : Str} {v : V} {u : Value} {pos : Pos} (hg : Gl X x) (hm : X.mg x = none) (hv : bootBuiltins x = some u) (r : RelV v u) (hn : x ≠ "__name__" := by decide) (hd : (x == ("__debug__" : Str)) = false := by decide) : PE X (.Name x pos) (tC v) :=
  fun _ _ _ H _ I h => ld_blt I hg hm hv ⟨v, H, I, r, h⟩ hn hd

/-! ### arithmetic -/
/-- two ints -/
def t2I (ta tb : TE) (k : Int → Int → Hp → Prop) : St → Hp → Prop := fun σ H => ta σ H fun x H1 => tb σ H1 fun y H2 => ∃ i j, x = .int i ∧ y = .int j ∧ k i j H2
def tAdd (ta tb : TE) : TE := fun σ H Q => t2I ta tb (fun i j H2 => Q (.int (i + j)) H2) σ H
def tSub (ta tb : TE) : TE := fun σ H Q => t2I ta tb (fun i j H2 => Q (.int (i - j)) H2) σ H
/-- the left factor below 2^64 -/
def tMul (ta tb : TE) : TE := fun σ H Q => t2I ta tb (fun i j H2 => (-(2 ^ 64) < i ∧ i < 2 ^ 64) ∧ Q (.int (i * j)) H2) σ H
variable {a b : Expr} {ta tb : TE} {pos : Pos}
/-! ### comparisons -/
def PC (X : Cx) (op : CmpOp) (a b : Expr) (t : TE) : Prop :=
  ∀ (pins : List (Addr × Obj)) (s : Shared) (σ : St) (H : Hp) (Q : VK), Inv X pins σ H s → t σ H Q →
    wpAny (model X.prog X.w) X.A (eval a X.env) (fun v s₁ => wpAny (model X.prog X.w) X.A (eval b X.env) (fun u s₂ => wpAny (model X.prog X.w) X.A (compareOp op v u) (EP X pins σ Q) X.xe s₂) X.xe s₁) X.xe s
def tCmp (p : Int → Int → Bool) (ta tb : TE) : TE := fun σ H Q => t2I ta tb (fun i j H2 => Q (.bl (p i j)) H2) σ H
abbrev tLt : TE → TE → TE := tCmp fun i j => decide (i < j)
abbrev tLe : TE → TE → TE := tCmp fun i j => decide (i ≤ j)
abbrev tGt : TE → TE → TE := tCmp fun i j => decide (j < i)
abbrev tGe : TE → TE → TE := tCmp fun i j => decide (j ≤ i)
abbrev tEqI : TE → TE → TE := tCmp fun i j => decide (i = j)
abbrev tNeI : TE → TE → TE := tCmp fun i j => !decide (i = j)
/-- is None -/
def tIsN (ta : TE) : TE := fun σ H Q => ta σ H fun x H1 => Q (.bl (decide (x = .non))) H1
def tNotN (ta : TE) : TE := fun σ H Q => ta σ H fun x H1 => Q (.bl (!decide (x = .non))) H1
/-- a comparison as a value, as a test -/
def tB (t : TE) : TT := fun σ H Q => t σ H fun x H1 => ∃ c, x = .bl c ∧ Q c H1
/-- an expression whose value is a bool, as a test -/
theorem pt_val {e : Expr} {t : TE} (h : PE X e t) (he : ∀ whole, isTrue e X.env whole = (do let v ← whole; standAt e.pos; holding [v] (truthy v)) := by intro _; rfl) : PT X e (tB t) := by
  intro pins s σ H Q I hw
  refine isTrue_plain (thn (h pins s σ H _ I hw) fun v s1 ⟨x, H1, I1, r1, q1⟩ => ?_) (he _)
  obtain ⟨d, rfl, q⟩ := q1
  cases r1
  exact wpAny_truthy_bool ⟨H1, I1, q⟩

/-! ### and, or, not -/
variable {tA tB' : TT} {rest : List Expr}
def tAnd (t u : TT) : TT := fun σ H Q => t σ H fun c H1 => if c = true then u σ H1 Q else Q false H1
def tOr (t u : TT) : TT := fun σ H Q => t σ H fun c H1 => if c = true then Q true H1 else u σ H1 Q
def tNot (t : TT) : TT := fun σ H Q => t σ H fun c H1 => Q (!c) H1
theorem pw_and1 (ha : PT X a tA) : PW X (.BoolOp .And [a] pos) tA := by
  intro wh pins s σ H Q I h
  refine isTrue_and (thn (ha pins s σ H Q I h) fun c s1 e => ?_)
  cases c with
  | true => exact isTrue_and_nil e
  | false => exact e
theorem pw_or1 (ha : PT X a tA) : PW X (.BoolOp .Or [a] pos) tA := by
  intro wh pins s σ H Q I h
  refine isTrue_or (thn (ha pins s σ H Q I h) fun c s1 e => ?_)
  cases c with
  | false => exact isTrue_or_nil e
  | true => exact e
theorem pw_and (ha : PT X a tA) (hb : PW X (.BoolOp .And (b :: rest) pos) tB') : PW X (.BoolOp .And (a :: b :: rest) pos) (tAnd tA tB') := by
  intro wh pins s σ H Q I h
  refine isTrue_and (thn (ha pins s σ H _ I h) fun c s1 ⟨H1, I1, q1⟩ => ?_)
  cases c with
  | true => exact hb wh pins s1 σ H1 Q I1 q1
  | false => exact ⟨H1, I1, q1⟩
theorem pw_or (ha : PT X a tA) (hb : PW X (.BoolOp .Or (b :: rest) pos) tB') : PW X (.BoolOp .Or (a :: b :: rest) pos) (tOr tA tB') := by
  intro wh pins s σ H Q I h
  refine isTrue_or (thn (ha pins s σ H _ I h) fun c s1 ⟨H1, I1, q1⟩ => ?_)
  cases c with
  | true => exact ⟨H1, I1, q1⟩
  | false => exact hb wh pins s1 σ H1 Q I1 q1
theorem pt_not (ha : PT X a tA) : PT X (.UnaryOp .Not a pos) (tNot tA) := by
  intro pins s σ H Q I h
  exact isTrue_not (ha pins s σ H (fun c H1 => Q (!c) H1) I h)
/-- .. as values (bools) -/
def tAndV (ta tb : TE) : TE := fun σ H Q => ta σ H fun x H1 => ∃ c, x = .bl c ∧ if c = true then tb σ H1 Q else Q (.bl false) H1
def tOrV (ta tb : TE) : TE := fun σ H Q => ta σ H fun x H1 => ∃ c, x = .bl c ∧ if c = true then Q (.bl true) H1 else tb σ H1 Q
def tNotV (ta : TE) : TE := fun σ H Q => ta σ H fun x H1 => ∃ c, x = .bl c ∧ Q (.bl (!c)) H1
theorem pe_one {op} {t : TE} (h : PE X a t) : PE X (.BoolOp op [a] pos) t := fun pins s σ H Q I hw => BoolOp_one (h pins s σ H Q I hw)
theorem pe_and (ha : PE X a ta) (hb : PE X (.BoolOp .And (b :: rest) pos) tb) : PE X (.BoolOp .And (a :: b :: rest) pos) (tAndV ta tb) := by
  intro pins s σ H Q I h
  refine BoolOp_and (thn (ha pins s σ H _ I h) fun v s1 ⟨x, H1, I1, r1, q1⟩ => ?_)
  obtain ⟨c, rfl, q1⟩ := q1
  cases r1
  refine wpAny_truthy_bool ?_
  cases c with
  | true => exact hb pins s1 σ H1 Q I1 q1
  | false => exact ⟨.bl false, H1, I1, rfl, q1⟩
theorem pe_not (ha : PE X a ta) : PE X (.UnaryOp .Not a pos) (tNotV ta) := by
  intro pins s σ H Q I h
  refine UnaryOp_ (thn (ha pins s σ H _ I h) fun v s1 ⟨x, H1, I1, r1, q1⟩ => ?_)
  obtain ⟨c, rfl, q1⟩ := q1
  cases r1
  exact not_of (wpAny_truthy_bool ⟨.bl (!c), H1, I1, rfl, q1⟩)
/-- a if t else b -/
def tIf (t : TT) (ta tb : TE) : TE := fun σ H Q => t σ H fun c H1 => if c = true then ta σ H1 Q else tb σ H1 Q
end
end L2

namespace L2
open PySem PySem.Spec PyProof.Rows

/-! ### a list, a tuple that is read: tracked, frozen, or an object of the module -/
def SqL (K : PySem.W.Frag) (H : Hp) (a : Addr) (xs : List V) : Prop :=
  Rd H a (.lst xs) ∨
    ∃ (o : Obj) (its : Array Value) (n : Nat), K.lookup a = some o ∧ o.cls = .type "list" ∧ o.dict = none ∧ o.data = .seq its n ∧ its.size ≤ sizeLine ∧ Vals xs its.toList
def SqT (K : PySem.W.Frag) (H : Hp) (a : Addr) (xs : List V) : Prop :=
  Rd H a (.tup xs) ∨
    ∃ (o : Obj) (its : Array Value) (n : Nat), K.lookup a = some o ∧ o.cls = .type "tuple" ∧ o.data = .seq its n ∧ its.size ≤ sizeLine ∧ Vals xs its.toList
def absV : Value → Option V
  | .none => some .non
  | .bool b => some (.bl b)
  | .int i _ => some (.int i)
  | .str x _ => some (.str x)
  | .bytes b _ => some (.byt b)
  | .float b _ => some (.flt b)
  | .ref a => some (.ref a)
  | .type n => some (.ty n)
  | _ => none
theorem RelV.abs {x : V} {u : Value} (r : RelV x u) : absV u = some x := by
  cases x with
  | non => cases r; rfl
  | bl _ => cases r; rfl
  | int _ => obtain ⟨t, rfl⟩ := r; rfl
  | str _ => obtain ⟨t, rfl⟩ := r; rfl
  | byt _ => obtain ⟨t, rfl⟩ := r; rfl
  | flt _ => obtain ⟨t, rfl⟩ := r; rfl
  | ref _ => cases r; rfl
  | ty _ => cases r; rfl
theorem RelV.inj {x y : V} {u : Value} (r : RelV x u) (q : RelV y u) : x = y := Option.some.inj (r.abs.symm.trans q.abs)
theorem Vals.inj : ∀ {xs ys : List V} {us : List Value}, Vals xs us → Vals ys us → xs = ys
  | _, _, _, .nil, .nil => rfl
  | _, _, _, .cons r t, .cons r' t' => by rw [r.inj r', Vals.inj t t']
section
variable {X : Cx} {pins : List (Addr × Obj)} {σ : St} {H : Hp} {s : Shared} {a : Addr} {xs ys : List V}
theorem SqL.of {K : PySem.W.Frag} (h : H a = some (.lst xs)) : SqL K H a xs := .inl (.inl h)
theorem SqT.of {K : PySem.W.Frag} (h : H a = some (.tup xs)) : SqT K H a xs := .inl (.inl h)
theorem Inv.list (I : Inv X pins σ H s) (h : SqL X.K H a xs) : ∃ its : List Value, Vals xs its ∧ PlainL s.heap a its.toArray ∧ xs.length ≤ sizeLine := by
  rcases h with h | ⟨o, its, n, hk, hc, hd, hs, hz, r⟩
  · obtain ⟨z, its, n, r, e⟩ := h.ok I.hok
    exact ⟨its, r, ⟨_, n, e, rfl, rfl, rfl⟩, z⟩
  · refine ⟨its.toList, r, ⟨o, n, I.kIn a o hk, hc, hd, by simpa using hs⟩, ?_⟩
    have e := r.length
    simp only [Array.length_toList] at e
    omega
theorem Inv.tuple (I : Inv X pins σ H s) (h : SqT X.K H a xs) : ∃ its : List Value, Vals xs its ∧ IsTup s.heap a its.toArray ∧ xs.length ≤ sizeLine := by
  rcases h with h | ⟨o, its, n, hk, hc, hs, hz, r⟩
  · obtain ⟨z, its, r, p⟩ := h.ok I.hok
    exact ⟨its, r, p, z⟩
  · refine ⟨its.toList, r, ⟨o, I.kIn a o hk, hc, n, by simpa using hs⟩, ?_⟩
    have e := r.length
    simp only [Array.length_toList] at e
    omega
theorem Inv.list_inj (I : Inv X pins σ H s) (h : SqL X.K H a xs) (h' : SqL X.K H a ys) : xs = ys := by
  obtain ⟨its, r, ⟨o, n, e, _, _, d⟩, _⟩ := I.list h
  obtain ⟨its', r', ⟨o', n', e', _, _, d'⟩, _⟩ := I.list h'
  rw [e] at e'; cases e'
  rw [d] at d'
  injection d' with d1 _
  have : its = its' := by simpa using congrArg Array.toList d1
  subst this
  exact r.inj r'
theorem Inv.tuple_inj (I : Inv X pins σ H s) (h : SqT X.K H a xs) (h' : SqT X.K H a ys) : xs = ys := by
  obtain ⟨its, r, ⟨o, e, _, n, d⟩, _⟩ := I.tuple h
  obtain ⟨its', r', ⟨o', e', _, n', d'⟩, _⟩ := I.tuple h'
  rw [e] at e'; cases e'
  rw [d] at d'
  injection d' with d1 _
  have : its = its' := by simpa using congrArg Array.toList d1
  subst this
  exact r.inj r'
end

/-! ### another wish about exceptions -/
abbrev Cx.wish (X : Cx) (E : Value → Shared → Prop) : Cx := { X with xe := E }
/-- no exception leaves -/
abbrev Cx.nox (X : Cx) : Cx := X.wish fun _ _ => False
theorem Cx.Ok.wish {X : Cx} (ok : X.Ok) (E : Value → Shared → Prop) : (X.wish E).Ok :=
  ⟨ok.mod, ok.kind, ok.glob, ok.blt, ok.above, ok.inj, ok.has, ok.cab, ok.hd, ok.frames, ok.stk, ok.exf, ok.bs, ok.bsz, ok.noex, ok.exfs, ok.funs, ok.frf⟩
theorem Cx.Ok.unwish {X : Cx} {E : Value → Shared → Prop} (ok : (X.wish E).Ok) : X.Ok :=
  ⟨ok.mod, ok.kind, ok.glob, ok.blt, ok.above, ok.inj, ok.has, ok.cab, ok.hd, ok.frames, ok.stk, ok.exf, ok.bs, ok.bsz, ok.noex, ok.exfs, ok.funs, ok.frf⟩
section
variable {X : Cx} {pins : List (Addr × Obj)} {σ : St} {H : Hp} {s : Shared} {E : Value → Shared → Prop}
theorem Inv.wish (I : Inv X pins σ H s) (E : Value → Shared → Prop) : Inv (X.wish E) pins σ H s := ⟨I.ok.wish E, I.os, I.bare, I.base, I.loc, I.cell, I.free, I.freeC, I.pin, I.hok, I.len⟩
theorem Inv.unwish (I : Inv (X.wish E) pins σ H s) : Inv X pins σ H s := ⟨I.ok.unwish, I.os, I.bare, I.base, I.loc, I.cell, I.free, I.freeC, I.pin, I.hok, I.len⟩
theorem SP.unwish {D : Ends} {f : Flow} {s' : Shared} (h : SP (X.wish E) pins D f s') : SP X pins D f s' := by
  cases f with
  | next => obtain ⟨σ', H', I, q⟩ := h; exact ⟨σ', H', I.unwish, q⟩
  | brk => obtain ⟨σ', H', I, q⟩ := h; exact ⟨σ', H', I.unwish, q⟩
  | cont => obtain ⟨σ', H', I, q⟩ := h; exact ⟨σ', H', I.unwish, q⟩
  | ret u => obtain ⟨v, σ', H', I, r, q⟩ := h; exact ⟨v, σ', H', I.unwish, r, q⟩
theorem PSs.nox {st : List Stmt} {t : TS} (h : PSs X.nox st t) : PSs X st t := fun pins s σ H D I hw =>
  wpAny_mono (h pins s σ H D (I.wish _) hw) (fun _ _ q => q.unwish) fun _ _ z => False.elim z
end

/-! ### blocks and small statements -/
section
variable {X : Cx} {st : Stmt} {rest : List Stmt} {t u : TS} {e : Expr} {te : TE} {pos : Pos}
def tNext : TS := fun D σ H => D.nx σ H
def tSeq (t u : TS) : TS := fun D σ H => t { D with nx := u D } σ H
theorem pss_nil : PSs X [] tNext := fun _ _ σ H _ I h => wpAny_execs_nil ⟨σ, H, I, h⟩
theorem pss_cons (h1 : PS X st t) (h2 : PSs X rest u) : PSs X (st :: rest) (tSeq t u) := by
  intro pins s σ H D I h
  refine wpAny_execs_cons (thn (h1 pins s σ H { D with nx := u D } I h) fun f s1 q => ?_)
  cases f with
  | next =>
    obtain ⟨σ', H', I', q⟩ := q
    exact h2 pins s1 σ' H' D I' q
  | ret v => exact q
  | brk => exact q
  | cont => exact q
theorem pss_one (h1 : PS X st t) : PSs X [st] t := by
  intro pins s σ H D I h
  refine wpAny_execs_cons (thn (h1 pins s σ H D I h) fun f s1 q => ?_)
  cases f with
  | next => exact wpAny_execs_nil q
  | ret v => exact q
  | brk => exact q
  | cont => exact q
def tBreak : TS := fun D σ H => D.bk σ H
def tCont : TS := fun D σ H => D.ct σ H
/-- in a def's body nothing is shown -/
theorem Inv.quiet {pins : List (Addr × Obj)} {σ : St} {H : Hp} {s : Shared} (I : Inv X pins σ H s) : interactive X.env = false := by simp [interactive, I.ok.kind]
/-- an expression whose value is dropped -/
def tDrop (te : TE) : TS := fun D σ H => te σ H fun _ H1 => D.nx σ H1
theorem ps_expr (he : PE X e te) (hs : swapsWith e none pos.line X.env = pure false := by rfl) : PS X (.Expr e pos) (tDrop te) := by
  intro pins s σ H D I h
  exact wpAny_Expr_any (thn (he pins s σ H _ I h) fun v s1 ⟨x, H1, I1, r1, q1⟩ => ⟨σ, H1, I1, q1⟩) I.quiet hs
def tRet (te : TE) : TS := fun D σ H => te σ H D.rt
theorem ps_ret (he : PE X e te) : PS X (.Return (some e) pos) (tRet te) := by
  intro pins s σ H D I h
  exact wpAny_Return_some (thn (he pins s σ H _ I h) fun v s1 ⟨x, H1, I1, r1, q1⟩ => ⟨x, σ, H1, I1, r1, q1⟩)
def tRetN : TS := fun D _ H => D.rt .non H
def tIfS (c : TT) (t u : TS) : TS := fun D σ H => c σ H fun b H1 => if b = true then t D σ H1 else u D σ H1
theorem ps_if {c : Expr} {a b : List Stmt} {tc : TT} (hc : PT X c tc) (ha : PSs X a t) (hb : PSs X b u) : PS X (.If c a b pos) (tIfS tc t u) := by
  intro pins s σ H D I h
  refine wpAny_If (thn (hc pins s σ H _ I h) fun d s1 ⟨H1, I1, q1⟩ => ?_)
  cases d with
  | true => exact ha pins s1 σ H1 D I1 q1
  | false => exact hb pins s1 σ H1 D I1 q1
/-- code that the proof never comes to -/
def tNever : TS := fun _ _ _ => False
theorem ps_never : PS X st tNever := fun _ _ _ _ _ _ h => h.elim
end

/-! ### targets -/
abbrev TG := V → St → Hp → (St → Hp → Prop) → Prop
abbrev TGs := List V → St → Hp → (St → Hp → Prop) → Prop
def PG (X : Cx) (target : Expr) (t : TG) : Prop :=
  ∀ (pins : List (Addr × Obj)) (s : Shared) (σ : St) (H : Hp) (v : V) (u : Value) (Q : St → Hp → Prop), Inv X pins σ H s → RelV v u → t v σ H Q →
    wpAny (model X.prog X.w) X.A (assign target X.env u) (fun _ s' => ∃ σ' H', Inv X pins σ' H' s' ∧ Q σ' H') X.xe s
/-- several targets, one after another -/
def PGs (X : Cx) (ts : List Expr) (t : TGs) : Prop :=
  ∀ (pins : List (Addr × Obj)) (s : Shared) (σ : St) (H : Hp) (vs : List V) (us : List Value) (Q : St → Hp → Prop), Inv X pins σ H s → Vals vs us → t vs σ H Q →
    wpAny (model X.prog X.w) X.A (assignInOrder ((assignEach ts X.env).map (·.2)) us) (fun _ s' => ∃ σ' H', Inv X pins σ' H' s' ∧ Q σ' H') X.xe s
/-- o[i] = v, by values -/
abbrev TSet := V → V → V → Hp → (Hp → Prop) → Prop
def PSet (X : Cx) (t : TSet) : Prop :=
  ∀ (pins : List (Addr × Obj)) (s : Shared) (σ : St) (H : Hp) (o i v : V) (ov iv u : Value) (Q : Hp → Prop), Inv X pins σ H s → RelV o ov → RelV i iv → RelV v u → t o i v H Q →
    wpAny (model X.prog X.w) X.A (setItem ov iv u) (fun _ s' => ∃ H', Inv X pins σ H' s' ∧ Q H') X.xe s
/-- a op= b, by values -/
abbrev TIp := V → V → Hp → VK → Prop
def PIp (X : Cx) (op : Operator) (t : TIp) : Prop :=
  ∀ (pins : List (Addr × Obj)) (s : Shared) (σ : St) (H : Hp) (x y : V) (v u : Value) (Q : VK), Inv X pins σ H s → RelV x v → RelV y u → t x y H Q →
    wpAny (model X.prog X.w) X.A (inplaceOp op v u) (EP X pins σ Q) X.xe s
section
variable {X : Cx} {pos : Pos}
def gName (i : Nat) : TG := fun v σ H Q => Q (σ.set i (some v)) H
theorem pg_name {i : Nat} {x : Str} (hN : X.N.Nodup) (hi : X.N[i]? = some x) (hx : Loc X.env.scope x) (hf : X.fn x = true ∨ X.env.scope.names.lookup x = some .local := by first | exact .inl rfl | exact .inr rfl | assumption) : PG X (.Name x pos) (gName i) := by
  intro pins s σ H v u Q I r h
  exact wpAny_assign_Name (store_ok I hN hi hx r (fun s' I' => ⟨_, H, I', h⟩) hf)
def gNil : TGs := fun vs σ H Q => vs = [] ∧ Q σ H
def gCons (t : TG) (u : TGs) : TGs := fun vs σ H Q => ∃ v r, vs = v :: r ∧ t v σ H fun σ' H' => u r σ' H' Q
theorem pgs_nil : PGs X [] gNil := by
  intro pins s σ H vs us Q I r h
  obtain ⟨e, h⟩ := h
  subst e
  cases r
  exact assignInOrder_nil ⟨σ, H, I, h⟩
theorem pgs_cons {e : Expr} {es : List Expr} {t : TG} {u : TGs} (h1 : PG X e t) (h2 : PGs X es u)
    (hs : (assignEach (e :: es) X.env).map (·.2) = assign e X.env :: (assignEach es X.env).map (·.2) := by rfl) : PGs X (e :: es) (gCons t u) := by
  intro pins s σ H vs us Q I r h
  obtain ⟨v, vr, e1, h⟩ := h
  subst e1
  cases r with
  | cons r rr =>
    rw [hs]
    refine assignInOrder_cons (thn (h1 pins s σ H _ _ _ I r h) fun _ s1 ⟨σ1, H1, I1, q1⟩ => ?_)
    exact h2 pins s1 σ1 H1 _ _ Q I1 rr q1
/-- (a, b, ..) = a tuple of that length -/
def gTup (K : PySem.W.Frag) (n : Nat) (t : TGs) : TG := fun v σ H Q => ∃ a xs, v = .ref a ∧ SqT K H a xs ∧ xs.length = n ∧ t xs σ H Q
theorem pg_tup {es : List Expr} {k : Nat} {t : TGs} {n : Nat} (hc : X.calm = true) (h : PGs X es t)
    (hn : (assignEach es X.env).length = n := by rfl) (hst : (assignEach es X.env).findIdx? (·.1) = none := by rfl) : PG X (.Tuple es k pos) (gTup X.K n t) := by
  intro pins s σ H v u Q I r hw
  obtain ⟨a, xs, e1, hq, hl, hw⟩ := hw
  subst e1
  cases r
  obtain ⟨its, rv, ht, hz⟩ := I.tuple hq
  refine assign_Tuple_tuple (I.ok.hd hc) ht (by simp [hn, ← hl, rv.length]) hst fun h' hx => ?_
  have I1 : Inv X pins σ H { s with heap := h' } := I.kept (t' := s.toks) fun b o e => hx b o (Nat.ne_of_lt (Heap.lt_size e)) e
  exact h pins _ σ H xs _ Q I1 (by simpa using rv) hw
/-- o[i] = .. -/
def gSub (to ti : TE) (t : TSet) : TG := fun v σ H Q => to σ H fun o H1 => ti σ H1 fun i H2 => t o i v H2 fun H3 => Q σ H3
/-- target = value -/
def tAsg (te : TE) (g : TG) : TS := fun D σ H => te σ H fun x H1 => g x σ H1 D.nx
/-- name = value -/
theorem ps_set {i : Nat} {x : Str} {e : Expr} {te : TE} {pos' : Pos} (hN : X.N.Nodup) (hi : X.N[i]? = some x) (hx : Loc X.env.scope x) (he : PE X e te) (hs : swapsWith e (some (.Name x pos')) pos.line X.env = pure false := by rfl) (hf : X.fn x = true ∨ X.env.scope.names.lookup x = some .local := by first | exact .inl rfl | exact .inr rfl | assumption) :
    PS X (.Assign [.Name x pos'] e pos) (tAsg te (gName i)) := by
  intro pins s σ H D I h
  refine wpAny_Assign_Name (thn (he pins s σ H _ I h) fun v s1 ⟨y, H1, I1, r1, q1⟩ => ?_) hs
  exact store_ok I1 hN hi hx r1 (fun s2 I2 => ⟨_, H1, I2, q1⟩) hf
/-- a, b = x, y with plain local names: stored from the right; the pair itself is not tracked (the opening rows as in PyProof/Rows/TupAssign.lean:23) -/
def tPar (i j : Nat) (ta : TA) : TS := fun D σ H => ta σ H fun vs H1 => ∃ v w, vs = [v, w] ∧ D.nx ((σ.set i (some v)).set j (some w)) H1
/-- name op= e -/
def tAug (i : Nat) (te : TE) (ti : TIp) : TS := fun D σ H => ∃ x, σ[i]? = some (some x) ∧ te σ H fun y H1 => ti x y H1 fun z H2 => D.nx (σ.set i (some z)) H2
/-- o[i] op= e -/
def tAugS (to ti te : TE) (tget : V → V → Hp → VK → Prop) (tip : TIp) (tset : TSet) : TS := fun D σ H => to σ H fun o H1 => ti σ H1 fun i H2 => tget o i H2 fun x H3 => te σ H3 fun y H4 => tip x y H4 fun z H5 => tset o i z H5 fun H6 => D.nx σ H6
/-- o[i], by values -/
def PGet (X : Cx) (t : V → V → Hp → VK → Prop) : Prop :=
  ∀ (pins : List (Addr × Obj)) (s : Shared) (σ : St) (H : Hp) (o i : V) (ov iv : Value) (Q : VK), Inv X pins σ H s → RelV o ov → RelV i iv → t o i H Q →
    wpAny (model X.prog X.w) X.A (getItem ov iv) (EP X pins σ Q) X.xe s
/-- ints -/
def ipI (f : Int → Int → Int) : TIp := fun x y H Q => ∃ i j, x = .int i ∧ y = .int j ∧ Q (.int (f i j)) H
end

/-! ### while -/
section
variable {X : Cx} {pos : Pos}
/-- the invariant W with its measure -/
def tWhile (c : TT) (tb : TS) : TS := fun D σ H => ∃ W : Nat → St → Hp → Prop, (∃ m, W m σ H) ∧ ∀ m σ H, W m σ H →
  c σ H fun b H1 => if b = true then ∃ N : St → Hp → Prop, (∀ σ' H', N σ' H' → ∃ m', m' < m ∧ W m' σ' H') ∧ tb { D with nx := N, ct := N, bk := D.nx } σ H1 else D.nx σ H1
theorem ps_while {c : Expr} {body : List Stmt} {tc : TT} {tb : TS} (hp : PassesOwn (model X.prog X.w) X.A X.env X.xe) (hc : PT X c tc) (hb : PSs X body tb) : PS X (.While c body [] pos) (tWhile tc tb) := by
  intro pins s σ H D I h
  obtain ⟨W, ⟨m0, w0⟩, turn⟩ := h
  refine wpAny_While (codeAny_whileLoop (fun n s' => ∃ σ' H', Inv X pins σ' H' s' ∧ W n σ' H') ?_ m0 ⟨σ, H, I, w0⟩)
  rintro n s1 ⟨σ1, H1, I1, w1⟩
  refine wpAny_passesOwn hp (thn (hc pins s1 σ1 H1 _ I1 (turn n σ1 H1 w1)) fun b s2 ⟨H2, I2, q2⟩ => ?_)
  cases b with
  | true =>
    obtain ⟨N, hN, q2⟩ := q2
    rw [if_pos rfl]
    refine wpAny_passesOwn hp (thn (hb pins s2 σ1 H2 _ I2 q2) fun f s3 q3 => ?_)
    cases f with
    | next =>
      obtain ⟨σ3, H3, I3, n3⟩ := q3
      obtain ⟨m', hm, w3⟩ := hN σ3 H3 n3
      exact ⟨m', hm, σ3, H3, I3, w3⟩
    | cont =>
      obtain ⟨σ3, H3, I3, n3⟩ := q3
      obtain ⟨m', hm, w3⟩ := hN σ3 H3 n3
      exact ⟨m', hm, σ3, H3, I3, w3⟩
    | brk => exact q3
    | ret v => exact q3
  | false =>
    rw [if_neg Bool.false_ne_true]
    exact wpAny_execs_nil ⟨σ1, H2, I2, q2⟩
end

/-! ### what a loop or a comprehension walks -/
/-- at turn i: it yields x (the heap may grow), or it stops -/
structure It where
  go : Nat → Hp → Prop
  yld : Nat → Hp → V → Hp → Prop
  stop : Nat → Hp → Prop
/-- the iterator's own objects may turn: they are not the frame's, not pinned, younger than the entry (or a comprehension's own) -/
def FpOk (X : Cx) (pins : List (Addr × Obj)) (H : Hp) (b : Addr) : Prop :=
  H b = none ∧ b ≠ X.env.locals ∧ b ∉ X.fs ∧ (b ∈ X.ex ∨ X.s₀.heap.objs.size ≤ b) ∧ (∀ x c, X.env.cells.lookup x = some c → c ≠ b) ∧ ∀ p ∈ X.pn ++ pins, p.1 ≠ b
theorem Inv.fpOk {X : Cx} {pins : List (Addr × Obj)} {σ : St} {H H' : Hp} {s : Shared} {b : Addr} (I : Inv X pins σ H s) (hb : s.heap.objs.size ≤ b) (hn : H' b = none) : FpOk X pins H' b := by
  refine ⟨hn, Nat.ne_of_gt (Nat.lt_of_lt_of_le I.lt hb), I.nofs hb, .inr (Nat.le_trans I.sz hb), fun x c e z => ?_, fun p hp z => ?_⟩
  · obtain ⟨v, q⟩ := I.cell x c e
    exact absurd (Nat.lt_of_lt_of_le q.lt (by rw [z]; exact hb)) (Nat.lt_irrefl _)
  · exact absurd (Nat.lt_of_lt_of_le (Heap.lt_size (I.pin p hp).1) (by rw [z]; exact hb)) (Nat.lt_irrefl _)
structure Turn (P : Program) (w : World) (K : PySem.W.Frag) (tg : Expr) (J : It) (fp : List Addr) (it : Addr) (tn : Nat → Heap → Prop) : Prop where
  mem : it ∈ fp
  obj : ∀ i h, tn i h → ∀ b ∈ fp, ∃ o, h.get? b = some o ∧ ∀ v, o.data ≠ .cell v
  keep : ∀ i h h', tn i h → (∀ b ∈ fp, ∀ o, h.get? b = some o → h'.get? b = some o) → tn i h'
  item : ∀ (X : Cx), X.prog = P → X.w = w → X.K = K → X.calm = true → ∀ (i : Nat) (pins : List (Addr × Obj)) (s : Shared) (σ : St) (H : Hp) (E : Value → Shared → Prop), Inv X pins σ H s → (∀ b ∈ fp, FpOk X pins H b) → tn i s.heap → J.go i H →
    wpAny (model P w) X.A (pyNext (.ref it)) (fun r s1 => ∃ u, r = some u ∧
      wpAny (model P w) X.A (letOwnedTupleGo tg (.ref it) u) (fun _ s2 => ∃ x H', Inv X pins σ H' s2 ∧ RelV x u ∧ J.yld i H x H' ∧ tn (i + 1) s2.heap ∧ ∀ b ∈ fp, H' b = none) E s1) E s
  done : ∀ (X : Cx), X.prog = P → X.w = w → X.K = K → X.calm = true → ∀ (i : Nat) (pins : List (Addr × Obj)) (s : Shared) (σ : St) (H : Hp) (E : Value → Shared → Prop), Inv X pins σ H s → (∀ b ∈ fp, FpOk X pins H b) → tn i s.heap → J.stop i H →
    wpAny (model P w) X.A (pyNext (.ref it)) (fun r s1 => r = none ∧ Inv X pins σ H s1) E s
  self : ∀ (A : Around) (i : Nat) (s : Shared) (Q : Value → Shared → Prop) (E : Value → Shared → Prop), tn i s.heap → Q (.ref it) s → wpAny (model P w) A (pyIter (.ref it)) Q E s
abbrev TI := St → Hp → (It → Hp → Prop) → Prop
/-- an iterator has come -/
def PIE (X : Cx) (pins : List (Addr × Obj)) (σ : St) (tg : Expr) (R : It → Hp → Prop) (itv : Value) (s2 : Shared) : Prop :=
  ∃ (it : Addr) (fp : List Addr) (tn : Nat → Heap → Prop) (J : It) (H' : Hp), itv = .ref it ∧ Inv X pins σ H' s2 ∧ Turn X.prog X.w X.K tg J fp it tn ∧ tn 0 s2.heap ∧ (∀ b ∈ fp, FpOk X pins H' b) ∧ R J H'
def PI (X : Cx) (tg iter : Expr) (wi : TI) : Prop :=
  ∀ (pins : List (Addr × Obj)) (s : Shared) (σ : St) (H : Hp) (R : It → Hp → Prop), Inv X pins σ H s → wi σ H R →
    wpAny (model X.prog X.w) X.A (eval iter X.env) (fun v s1 => wpAny (model X.prog X.w) X.A (pyIter v) (PIE X pins σ tg R) X.xe s1) X.xe s

/-- the step ahead of the store is nothing for an iterator that keeps no tuple -/
theorem go_of {M : Model} {A : Around} {E : Value → Shared → Prop} {s : Shared} {tg : Expr} {it : Addr} {u : Value} {o : Obj} {n : String} {vs : Array Value} {Q : Unit → Shared → Prop} (ho : s.heap.get? it = some o) (hc : o.cls = .type n) (hd : o.data = .fields vs)
    (hn : ["enumerate", "zip", "dict_itemiterator", "dict_reverseitemiterator", "odict_iterator", "itertools.zip_longest", "itertools.pairwise"].contains n = false) (hQ : Q () s) : wpAny M A (letOwnedTupleGo tg (.ref it) u) Q E s := by
  unfold letOwnedTupleGo
  cases tg <;> first
    | exact wpAny_pure hQ
    | (cases u <;> first
        | exact wpAny_pure hQ
        | (refine wpAny_bind (wpAny_load ho ?_)
           rw [hc, hd]
           show wpAny M A (if (["enumerate", "zip", "dict_itemiterator", "dict_reverseitemiterator", "odict_iterator", "itertools.zip_longest", "itertools.pairwise"].contains n && vs[0]? == some (rawInt _)) = true then _ else _) Q E s
           rw [if_neg (by intro h; rw [hn, Bool.false_and] at h; cases h)]
           exact wpAny_pure hQ))

/-- the list at a, as it stands at each turn (a loop may append to it) -/
def Itl (K : PySem.W.Frag) (a : Addr) : It :=
  ⟨fun i H => ∃ xs x, SqL K H a xs ∧ xs[i]? = some x, fun i H x H' => H' = H ∧ ∀ xs, SqL K H a xs → xs[i]? = some x, fun i H => ∃ xs, SqL K H a xs ∧ xs.length ≤ i⟩
def Itt (K : PySem.W.Frag) (a : Addr) : It :=
  ⟨fun i H => ∃ xs x, SqT K H a xs ∧ xs[i]? = some x, fun i H x H' => H' = H ∧ ∀ xs, SqT K H a xs → xs[i]? = some x, fun i H => ∃ xs, SqT K H a xs ∧ xs.length ≤ i⟩
/-- lo, lo + 1, .. (n of them) -/
def Itr (lo : Int) (n : Nat) : It := ⟨fun i _ => i < n, fun i H x H' => H' = H ∧ x = .int (lo + i), fun i _ => n ≤ i⟩
theorem turn_list {P : Program} {w : World} {K : PySem.W.Frag} {tg : Expr} (a it : Addr) : Turn P w K tg (Itl K a) [it] it (fun i h => h.IsListIter it a i) where
  mem := by simp
  obj := fun i h st b hb => by
    have e : b = it := by simpa using hb
    subst e
    obtain ⟨o, e, c, d⟩ := st
    exact ⟨o, e, fun v z => by rw [d] at z; cases z⟩
  keep := fun i h h' st k => st.at fun o e => k it (by simp) o e
  item := by
    intro X hP hw hK hc i pins s σ H E I hf st hg
    subst hP hw hK
    obtain ⟨xs, x, hq, hx⟩ := hg
    obtain ⟨its, rv, p, hz⟩ := I.list hq
    obtain ⟨u, hu, ru⟩ := rv.get hx
    obtain ⟨f0, f1, f2, f3, f4, f5⟩ := hf it (by simp)
    refine wpAny_pyNext_list_item st p.isList (x := u) (by simpa using hu) fun h' st' sb => ?_
    have I1 : Inv X pins σ H { s with heap := h' } := I.turned (t' := s.toks) (fun b o hb e => (sb.2 b hb).trans e) f0 f1 f3 f4 f5
    obtain ⟨o, e, c, d⟩ := id st'
    exact ⟨u, rfl, go_of (s := { s with heap := h' }) e c d (by decide) ⟨x, H, I1, ru, ⟨rfl, fun ys hy => by rw [I.list_inj hy hq]; exact hx⟩, st', fun b hb => (hf b hb).1⟩⟩
  done := by
    intro X hP hw hK hc i pins s σ H E I hf st hg
    subst hP hw hK
    obtain ⟨xs, hq, hx⟩ := hg
    obtain ⟨its, rv, p, hz⟩ := I.list hq
    obtain ⟨f0, f1, f2, f3, f4, f5⟩ := hf it (by simp)
    have hl := rv.length
    exact wpAny_pyNext_list_end (I.ok.hd hc) st p.isList (by simp; omega) fun h' eb => ⟨rfl, I.turned (t' := s.toks) (fun b o hb e => eb b o hb e) f0 f1 f3 f4 f5⟩
  self := fun _ _ _ _ _ st h => wpAny_pyIter_listiter st h
theorem turn_tuple {P : Program} {w : World} {K : PySem.W.Frag} {tg : Expr} (a it : Addr) : Turn P w K tg (Itt K a) [it] it (fun i h => h.IsTupleIter it a i) where
  mem := by simp
  obj := fun i h st b hb => by
    have e : b = it := by simpa using hb
    subst e
    obtain ⟨o, e, c, d⟩ := st
    exact ⟨o, e, fun v z => by rw [d] at z; cases z⟩
  keep := fun i h h' st k => st.at fun o e => k it (by simp) o e
  item := by
    intro X hP hw hK hc i pins s σ H E I hf st hg
    subst hP hw hK
    obtain ⟨xs, x, hq, hx⟩ := hg
    obtain ⟨its, rv, p, hz⟩ := I.tuple hq
    obtain ⟨u, hu, ru⟩ := rv.get hx
    obtain ⟨f0, f1, f2, f3, f4, f5⟩ := hf it (by simp)
    refine wpAny_pyNext_tuple_item st (show s.heap.IsTuple a its.toArray from p) (x := u) (by simpa using hu) fun h' st' sb => ?_
    have I1 : Inv X pins σ H { s with heap := h' } := I.turned (t' := s.toks) (fun b o hb e => (sb.2 b hb).trans e) f0 f1 f3 f4 f5
    obtain ⟨o, e, c, d⟩ := id st'
    exact ⟨u, rfl, go_of (s := { s with heap := h' }) e c d (by decide) ⟨x, H, I1, ru, ⟨rfl, fun ys hy => by rw [I.tuple_inj hy hq]; exact hx⟩, st', fun b hb => (hf b hb).1⟩⟩
  done := by
    intro X hP hw hK hc i pins s σ H E I hf st hg
    subst hP hw hK
    obtain ⟨xs, hq, hx⟩ := hg
    obtain ⟨its, rv, p, hz⟩ := I.tuple hq
    obtain ⟨f0, f1, f2, f3, f4, f5⟩ := hf it (by simp)
    have hl := rv.length
    exact wpAny_pyNext_tuple_end (I.ok.hd hc) st (show s.heap.IsTuple a its.toArray from p) (by simp; omega) fun h' eb => ⟨rfl, I.turned (t' := s.toks) (fun b o hb e => eb b o hb e) f0 f1 f3 f4 f5⟩
  self := fun _ _ _ _ _ st h => wpAny_pyIter_tupleiter st h
theorem turn_range {P : Program} {w : World} {K : PySem.W.Frag} {tg : Expr} (it : Addr) (lo : Int) (n : Nat) : Turn P w K tg (Itr lo n) [it] it (fun i h => IsRangeIter h it (lo + (i : Nat) * 1) ((n : Int) - (i : Nat)) 1) where
  mem := by simp
  obj := fun i h st b hb => by
    have e : b = it := by simpa using hb
    subst e
    exact ⟨_, st, fun v z => by
      have z' : Data.fields _ = Data.cell v := z
      cases z'⟩
  keep := fun i h h' st k => k it (by simp) _ st
  item := by
    intro X hP hw hK hc i pins s σ H E I hf st hg
    subst hP hw hK
    obtain ⟨f0, f1, f2, f3, f4, f5⟩ := hf it (by simp)
    have W := Walks.range (prog := X.prog) (w := X.w) (I.ok.hd hc) it lo 1 n
    refine W.item i s _ _ hg st fun v h' tk hv st' kk => ?_
    obtain ⟨t, rfl⟩ := hv
    have I1 : Inv X pins σ H { s with heap := h', toks := tk } := I.turned (fun b o hb e => kk b o (by simpa using hb) e) f0 f1 f3 f4 f5
    refine ⟨_, rfl, go_of (s := { s with heap := h', toks := tk }) (n := "range_iterator") st' rfl rfl (by decide) ⟨.int (lo + i), H, I1, ⟨t, ?_⟩, ⟨rfl, rfl⟩, st', fun b hb => (hf b hb).1⟩⟩
    rw [Int.mul_one]
  done := by
    intro X hP hw hK hc i pins s σ H E I hf st hg
    subst hP hw hK
    obtain ⟨f0, f1, f2, f3, f4, f5⟩ := hf it (by simp)
    exact wpAny_pyNext_range_end (I.ok.hd hc) st (by have : n ≤ i := hg; omega) fun h' eb => ⟨rfl, I.turned (t' := s.toks) (fun b o hb e => eb b o hb e) f0 f1 f3 f4 f5⟩
  self := fun _ _ _ _ _ st h => wpAny_pyIter_rangeiter st h
end L2

namespace L2
open PySem PySem.Spec PyProof.Rows
section
variable {X : Cx} {tg : Expr}
def iList (K : PySem.W.Frag) (tl : TE) : TI := fun σ H R => tl σ H fun x H1 => ∃ a, x = .ref a ∧ (∃ xs, SqL K H1 a xs) ∧ R (Itl K a) H1
def iTup (K : PySem.W.Frag) (tl : TE) : TI := fun σ H R => tl σ H fun x H1 => ∃ a, x = .ref a ∧ (∃ xs, SqT K H1 a xs) ∧ R (Itt K a) H1
theorem pi_list {l : Expr} {tl : TE} (hl : PE X l tl) : PI X tg l (iList X.K tl) := by
  intro pins s σ H R I h
  refine thn (hl pins s σ H _ I h) fun v s1 ⟨x, H1, I1, r1, q1⟩ => ?_
  obtain ⟨a, e, ⟨xs, hq⟩, q⟩ := q1
  subst e
  cases r1
  obtain ⟨its, rv, p, hz⟩ := I1.list hq
  refine wpAny_pyIter_list p.isList ?_
  refine ⟨s1.heap.objs.size, [s1.heap.objs.size], _, _, H1, rfl, I1.kept (t' := s1.toks) fun b o e => Heap.get?_push_of_some _ e, turn_list a _, ⟨_, Heap.get?_push_size _ rfl, rfl, rfl⟩, fun b hb => ?_, q⟩
  have e : b = s1.heap.objs.size := by simpa using hb
  subst e
  exact I1.fpOk (Nat.le_refl _) (I1.hok.fresh (Nat.le_refl _))
theorem pi_tup {l : Expr} {tl : TE} (hl : PE X l tl) : PI X tg l (iTup X.K tl) := by
  intro pins s σ H R I h
  refine thn (hl pins s σ H _ I h) fun v s1 ⟨x, H1, I1, r1, q1⟩ => ?_
  obtain ⟨a, e, ⟨xs, hq⟩, q⟩ := q1
  subst e
  cases r1
  obtain ⟨its, rv, p, hz⟩ := I1.tuple hq
  refine wpAny_pyIter_tuple (show s1.heap.IsTuple a its.toArray from p) ?_
  refine ⟨s1.heap.objs.size, [s1.heap.objs.size], _, _, H1, rfl, I1.kept (t' := s1.toks) fun b o e => Heap.get?_push_of_some _ e, turn_tuple a _, ⟨_, Heap.get?_push_size _ rfl, rfl, rfl⟩, fun b hb => ?_, q⟩
  have e : b = s1.heap.objs.size := by simpa using hb
  subst e
  exact I1.fpOk (Nat.le_refl _) (I1.hok.fresh (Nat.le_refl _))
/-- a range object just made, walked -/
theorem range_it {pins : List (Addr × Obj)} {σ : St} {H : Hp} {s : Shared} {R : It → Hp → Prop} {E : Value → Shared → Prop} {lo hi : Int} {t u v : Tok} {tk : Nat} (I : Inv X pins σ H s) (h1 : -(2 ^ 62) ≤ lo) (h2 : lo < 2 ^ 62) (h3 : -(2 ^ 62) ≤ hi) (h4 : hi < 2 ^ 62)
    (q : R (Itr lo (hi - lo).toNat) H) : wpAny (model X.prog X.w) X.A (pyIter (.ref s.heap.objs.size)) (PIE X pins σ tg R) E { s with heap := s.heap.push { cls := .type "range", data := .fields #[.int lo t, .int hi u, .int 1 v] }, toks := tk } := by
  refine wpAny_pyIter_range (IsRange.new ..) (small_one h1 h2 h3 h4) ?_
  have I1 : Inv X pins σ H { s with heap := s.heap.push { cls := .type "range", data := .fields #[.int lo t, .int hi u, .int 1 v] }, toks := tk } := I.kept fun b o e => Heap.get?_push_of_some _ e
  refine ⟨(s.heap.push { cls := .type "range", data := .fields #[.int lo t, .int hi u, .int 1 v] }).objs.size, [(s.heap.push { cls := .type "range", data := .fields #[.int lo t, .int hi u, .int 1 v] }).objs.size], _, _, H, rfl,
    I1.kept (t' := tk) fun b o e => Heap.get?_push_of_some _ e, turn_range _ lo (hi - lo).toNat, ?_, fun b hb => ?_, q⟩
  · have e1 : lo + ((0 : Nat) : Int) * 1 = lo := by simp
    have e2 : (((hi - lo).toNat : Nat) : Int) - ((0 : Nat) : Int) = Builtin.Range.rangeSize lo hi 1 := by rw [rangeSize_one]; split <;> omega
    show IsRangeIter _ _ (lo + ((0 : Nat) : Int) * 1) ((((hi - lo).toNat : Nat) : Int) - ((0 : Nat) : Int)) 1
    rw [e1, e2]
    exact Heap.get?_push_size _ rfl
  · have e : b = (s.heap.push { cls := .type "range", data := .fields #[.int lo t, .int hi u, .int 1 v] }).objs.size := by simpa using hb
    subst e
    exact I1.fpOk (Nat.le_refl _) (I1.hok.fresh (Nat.le_refl _))
def iRng1 (ta : TA) : TI := fun σ H R => ta σ H fun vs H1 => ∃ j : Int, vs = [.int j] ∧ -(2 ^ 62) ≤ j ∧ j < 2 ^ 62 ∧ R (Itr 0 j.toNat) H1
def iRng2 (ta : TA) : TI := fun σ H R => ta σ H fun vs H1 => ∃ i j : Int, vs = [.int i, .int j] ∧ (-(2 ^ 62) ≤ i ∧ i < 2 ^ 62 ∧ -(2 ^ 62) ≤ j ∧ j < 2 ^ 62) ∧ R (Itr i (j - i).toNat) H1
theorem pi_range1 {a : Expr} {ta : TA} {p pos : Pos} (hg : Gl X "range") (hm : X.mg "range" = none) (ha : PA X [a] ta) (hs : starEach [a] X.env = [(false, eval a X.env)] := by rfl) : PI X tg (.Call (.Name "range" p) [a] [] pos) (iRng1 ta) := by
  intro pins s σ H R I h
  refine Call_ (ld_blt I hg hm boot_range (PyProof.Rows.callWith_type1 (thn (ha pos pins s σ H _ I h) fun us s1 ⟨vs, H1, I1, r1, q1⟩ => ?_) hs rfl))
  obtain ⟨j, e, q1, q2, q⟩ := q1
  subst e
  cases r1 with
  | cons r rr =>
    cases rr
    obtain ⟨t, rfl⟩ := r
    exact call_range_1 (range_it I1 (by omega) (by omega) q1 q2 (by simpa using q))
/-! ### for -/
/-- W: the invariant by the turn and a measure; N: what the body is to reach -/
def tFor (wi : TI) (g : TG) (tb : TS) : TS := fun D σ H => wi σ H fun J H1 => ∃ W : Nat → Nat → St → Hp → Prop, (∃ m, W 0 m σ H1) ∧ ∀ i m σ H, W i m σ H →
  (J.stop i H ∧ D.nx σ H) ∨ (J.go i H ∧ ∃ N : St → Hp → Prop, (∀ σ' H', N σ' H' → ∃ m', m' < m ∧ W (i + 1) m' σ' H') ∧ ∀ x H', J.yld i H x H' → g x σ H' fun σ2 H2 => tb { D with nx := N, ct := N, bk := D.nx } σ2 H2)
/-- the records at fp as they stand -/
def pinsAt (fp : List Addr) (h : Heap) : List (Addr × Obj) := fp.filterMap fun b => (h.get? b).map fun o => (b, o)
theorem mem_pinsAt {fp : List Addr} {h : Heap} {b : Addr} {o : Obj} (hb : b ∈ fp) (e : h.get? b = some o) : (b, o) ∈ pinsAt fp h := List.mem_filterMap.mpr ⟨b, hb, by rw [e]; rfl⟩
theorem of_pinsAt {fp : List Addr} {h : Heap} {p : Addr × Obj} (hp : p ∈ pinsAt fp h) : p.1 ∈ fp ∧ h.get? p.1 = some p.2 := by
  obtain ⟨b, hb, e⟩ := List.mem_filterMap.mp hp
  cases q : h.get? b with
  | none => rw [q] at e; cases e
  | some o =>
    rw [q] at e
    have e' : (b, o) = p := Option.some.inj e
    subst e'
    exact ⟨hb, q⟩
theorem Inv.pinned {pins : List (Addr × Obj)} {σ : St} {H : Hp} {s : Shared} {fp : List Addr} (I : Inv X pins σ H s) (hf : ∀ b ∈ fp, FpOk X pins H b) (ho : ∀ b ∈ fp, ∃ o, s.heap.get? b = some o ∧ ∀ v, o.data ≠ .cell v) : Inv X (pins ++ pinsAt fp s.heap) σ H s :=
  I.pins_of fun p hp => (List.mem_append.mp hp).elim (fun z => I.pin p (List.mem_append_right _ z)) fun z => by
    obtain ⟨hb, e⟩ := of_pinsAt z
    obtain ⟨f0, f1, f2, _⟩ := hf p.1 hb
    obtain ⟨o, e', d⟩ := ho p.1 hb
    rw [e] at e'; cases e'
    exact ⟨e, f0, f1, f2, d⟩
theorem Inv.unpinned {pins pl : List (Addr × Obj)} {σ : St} {H : Hp} {s : Shared} (I : Inv X (pins ++ pl) σ H s) : Inv X pins σ H s := I.pins_of fun p hp => I.pin p (List.mem_append_right _ (List.mem_append_left _ hp))
theorem ps_for {iter : Expr} {body : List Stmt} {wi : TI} {g : TG} {tb : TS} {pos : Pos} (hp : PassesOwn (model X.prog X.w) X.A X.env X.xe) (hc : X.calm = true) (hi : PI X tg iter wi) (hg : PG X tg g) (hb : PSs X body tb)
    (hs : ∀ x, foldedSetIterable iter X.env x = pure x := by intro _; rfl) : PS X (.For tg iter body [] pos) (tFor wi g tb) := by
  intro pins s σ H D I h
  refine wpAny_For (thn (hi pins s σ H _ I h) fun v s1 h1 => thn h1 fun itv s2 h2 => ?_) hs
  obtain ⟨it, fp, tn, J, H2, e, I2, T, st2, f2, W, ⟨m0, w0⟩, turn⟩ := h2
  subst e
  -- what stays true of the iterator's objects through the loop
  have stat : ∀ {H' : Hp}, (∀ b ∈ fp, H' b = none) → ∀ b ∈ fp, FpOk X pins H' b := fun hn b hb => ⟨hn b hb, (f2 b hb).2⟩
  refine codeAny_forLoop_any (fun n s' => ∃ i σ' H', Inv X pins σ' H' s' ∧ tn i s'.heap ∧ (∀ b ∈ fp, H' b = none) ∧ W i n σ' H') ?_ m0 ⟨0, σ, H2, I2, st2, fun b hb => (f2 b hb).1, w0⟩
  rintro n s3 ⟨i, σ3, H3, I3, st3, fr3, w3⟩
  rcases turn i n σ3 H3 w3 with ⟨stop, qn⟩ | ⟨go, N, hN, step⟩
  · refine wpAny_passesOwn hp (thn (T.done X rfl rfl rfl hc i pins s3 σ3 H3 X.xe I3 (stat fr3) st3 stop) fun r s4 ⟨hr, I4⟩ => ?_)
    subst hr
    exact wpAny_execs_nil ⟨σ3, H3, I4, qn⟩
  · refine wpAny_passesOwn hp (thn (T.item X rfl rfl rfl hc i pins s3 σ3 H3 X.xe I3 (stat fr3) st3 go) fun r s4 ⟨u, hr, h4⟩ => ?_)
    subst hr
    refine wpAny_passesOwn hp (thn h4 fun _ s5 ⟨x, H5, I5, r5, y5, st5, fr5⟩ => ?_)
    have I5' := I5.pinned (stat fr5) (T.obj _ _ st5)
    refine wpAny_passesOwn hp (thn (hg _ s5 σ3 H5 x u _ I5' r5 (step x H5 y5)) fun _ s6 ⟨σ6, H6, I6, q6⟩ => ?_)
    refine wpAny_passesOwn hp (thn (hb _ s6 σ6 H6 _ I6 q6) fun f s7 q7 => ?_)
    have again : ∀ {σ7 : St} {H7 : Hp}, Inv X (pins ++ pinsAt fp s5.heap) σ7 H7 s7 → N σ7 H7 → ∃ m, m < n ∧ ∃ i σ' H', Inv X pins σ' H' s7 ∧ tn i s7.heap ∧ (∀ b ∈ fp, H' b = none) ∧ W i m σ' H' := fun {σ7 H7} I7 n7 => by
      obtain ⟨m', hm, w7⟩ := hN σ7 H7 n7
      refine ⟨m', hm, i + 1, σ7, H7, I7.unpinned, T.keep _ _ _ st5 fun b hb o e => (I7.pin (b, o) (List.mem_append_right _ (List.mem_append_right _ (mem_pinsAt hb e)))).1, fun b hb => ?_, w7⟩
      obtain ⟨o, e, d⟩ := T.obj _ _ st5 b hb
      exact (I7.pin (b, o) (List.mem_append_right _ (List.mem_append_right _ (mem_pinsAt hb e)))).2.1
    cases f with
    | next => obtain ⟨σ7, H7, I7, n7⟩ := q7; exact again I7 n7
    | cont => obtain ⟨σ7, H7, I7, n7⟩ := q7; exact again I7 n7
    | brk => obtain ⟨σ7, H7, I7, q7⟩ := q7; exact ⟨σ7, H7, I7.unpinned, q7⟩
    | ret v => obtain ⟨x7, σ7, H7, I7, r7, q7⟩ := q7; exact ⟨x7, σ7, H7, I7.unpinned, r7, q7⟩
end

/-! ### the forms one uses -/
/-- over a list that the body leaves as it is -/
theorem for_list {K : PySem.W.Frag} {a : Addr} {xs : List V} {g : TG} {tb : TS} {D : Ends} {σ : St} {H : Hp} (Pv : Nat → St → Hp → Prop) (h0 : Pv 0 σ H) (hl : ∀ i σ H, i ≤ xs.length → Pv i σ H → SqL K H a xs)
    (hs : ∀ i x σ H, xs[i]? = some x → Pv i σ H → g x σ H fun σ2 H2 => tb { D with nx := Pv (i + 1), ct := Pv (i + 1), bk := D.nx } σ2 H2) (hd : ∀ σ H, Pv xs.length σ H → D.nx σ H) :
    ∃ W : Nat → Nat → St → Hp → Prop, (∃ m, W 0 m σ H) ∧ ∀ i m σ H, W i m σ H →
      ((Itl K a).stop i H ∧ D.nx σ H) ∨ ((Itl K a).go i H ∧ ∃ N : St → Hp → Prop, (∀ σ' H', N σ' H' → ∃ m', m' < m ∧ W (i + 1) m' σ' H') ∧ ∀ x H', (Itl K a).yld i H x H' → g x σ H' fun σ2 H2 => tb { D with nx := N, ct := N, bk := D.nx } σ2 H2) := by
  refine ⟨fun i m σ H => m = xs.length - i ∧ i ≤ xs.length ∧ Pv i σ H, ⟨xs.length, by simp, Nat.zero_le _, h0⟩, ?_⟩
  rintro i m σ H ⟨rfl, hi, p⟩
  have q := hl i σ H hi p
  by_cases hlt : i < xs.length
  · refine .inr ⟨⟨xs, xs[i], q, by simp [hlt]⟩, Pv (i + 1), fun σ' H' p' => ⟨xs.length - (i + 1), by omega, rfl, hlt, p'⟩, fun x H' y => ?_⟩
    obtain ⟨e, y⟩ := y
    subst e
    exact hs i x σ _ (y xs q) p
  · have e : i = xs.length := by omega
    subst e
    exact .inl ⟨⟨xs, q, Nat.le_refl _⟩, hd σ H p⟩
theorem for_range {lo : Int} {n : Nat} {g : TG} {tb : TS} {D : Ends} {σ : St} {H : Hp} (Pv : Nat → St → Hp → Prop) (h0 : Pv 0 σ H)
    (hs : ∀ i σ H, i < n → Pv i σ H → g (.int (lo + i)) σ H fun σ2 H2 => tb { D with nx := Pv (i + 1), ct := Pv (i + 1), bk := D.nx } σ2 H2) (hd : ∀ σ H, Pv n σ H → D.nx σ H) :
    ∃ W : Nat → Nat → St → Hp → Prop, (∃ m, W 0 m σ H) ∧ ∀ i m σ H, W i m σ H →
      ((Itr lo n).stop i H ∧ D.nx σ H) ∨ ((Itr lo n).go i H ∧ ∃ N : St → Hp → Prop, (∀ σ' H', N σ' H' → ∃ m', m' < m ∧ W (i + 1) m' σ' H') ∧ ∀ x H', (Itr lo n).yld i H x H' → g x σ H' fun σ2 H2 => tb { D with nx := N, ct := N, bk := D.nx } σ2 H2) := by
  refine ⟨fun i m σ H => m = n - i ∧ i ≤ n ∧ Pv i σ H, ⟨n, by simp, Nat.zero_le _, h0⟩, ?_⟩
  rintro i m σ H ⟨rfl, hi, p⟩
  by_cases hlt : i < n
  · refine .inr ⟨hlt, Pv (i + 1), fun σ' H' p' => ⟨n - (i + 1), by omega, rfl, hlt, p'⟩, fun x H' y => ?_⟩
    obtain ⟨e, y⟩ := y
    subst e y
    exact hs i σ _ hlt p
  · have e : i = n := by omega
    subst e
    exact .inl ⟨Nat.le_refl _, hd σ H p⟩
end L2

namespace L2
open PySem PySem.Spec PyProof.Rows

abbrev R2 := V → V → Hp → VK → Prop
/-- a two-place operation on values: f is binaryOp op, inplaceOp op or compareOp op -/
def OpR (X : Cx) (f : Value → Value → Sem Value) (r : R2) : Prop :=
  ∀ (pins : List (Addr × Obj)) (s : Shared) (σ : St) (H : Hp) (x y : V) (v u : Value) (Q : VK), Inv X pins σ H s → RelV x v → RelV y u → r x y H Q →
    wpAny (model X.prog X.w) X.A (f v u) (EP X pins σ Q) X.xe s
/-- a one-place operation -/
def UnR (X : Cx) (f : Value → Sem Value) (r : V → Hp → VK → Prop) : Prop :=
  ∀ (pins : List (Addr × Obj)) (s : Shared) (σ : St) (H : Hp) (x : V) (v : Value) (Q : VK), Inv X pins σ H s → RelV x v → r x H Q →
    wpAny (model X.prog X.w) X.A (f v) (EP X pins σ Q) X.xe s
/-- a call of a value that is known (a builtin, a type) with values -/
def CallR (X : Cx) (f : Value) (r : List V → Hp → VK → Prop) : Prop :=
  ∀ (pins : List (Addr × Obj)) (s : Shared) (σ : St) (H : Hp) (xs : List V) (us : List Value) (Q : VK), Inv X pins σ H s → Vals xs us → r xs H Q →
    wpAny (model X.prog X.w) X.A (call f us) (EP X pins σ Q) X.xe s
/-- a value's truth -/
def TruR (X : Cx) (r : V → Hp → (Bool → Hp → Prop) → Prop) : Prop :=
  ∀ (pins : List (Addr × Obj)) (s : Shared) (σ : St) (H : Hp) (x : V) (v : Value) (Q : Bool → Hp → Prop), Inv X pins σ H s → RelV x v → r x H Q →
    wpAny (model X.prog X.w) X.A (truthy v) (TP X pins σ Q) X.xe s

def tOp (r : R2) (ta tb : TE) : TE := fun σ H Q => ta σ H fun x H1 => tb σ H1 fun y H2 => r x y H2 Q
def tUn (r : V → Hp → VK → Prop) (ta : TE) : TE := fun σ H Q => ta σ H fun x H1 => r x H1 Q
/-- ints in, under C, and a value out -/
def rI (C : Int → Int → Prop) (g : Int → Int → V) : R2 := fun x y H Q => ∃ i j, x = .int i ∧ y = .int j ∧ C i j ∧ Q (g i j) H
def rI0 (g : Int → Int → V) : R2 := fun x y H Q => ∃ i j, x = .int i ∧ y = .int j ∧ Q (g i j) H
def rU (g : Int → V) : V → Hp → VK → Prop := fun x H Q => ∃ i, x = .int i ∧ Q (g i) H

section
variable {X : Cx} {a b c : Expr} {ta tb tc : TE} {pos : Pos}

theorem binT (ha : PE X a ta) (hb : PE X b tb) {pins : List (Addr × Obj)} {s : Shared} {σ : St} {H : Hp} {R : V → V → Hp → Prop} (I : Inv X pins σ H s)
    (h : ta σ H fun x H1 => tb σ H1 fun y H2 => R x y H2) {Q : Value → Shared → Prop} {f : Value → Value → Sem Value}
    (hf : ∀ v u s2 x y H2, Inv X pins σ H2 s2 → RelV x v → RelV y u → R x y H2 → wpAny (model X.prog X.w) X.A (f v u) Q X.xe s2) :
    wpAny (model X.prog X.w) X.A (eval a X.env) (fun v s₁ => wpAny (model X.prog X.w) X.A (eval b X.env) (fun u s₂ => wpAny (model X.prog X.w) X.A (f v u) Q X.xe s₂) X.xe s₁) X.xe s := by
  refine thn (ha pins s σ H _ I h) fun v s1 ⟨x, H1, I1, r1, q1⟩ => ?_
  refine thn (hb pins s1 σ H1 _ I1 q1) fun u s2 ⟨y, H2, I2, r2, q2⟩ => ?_
  exact hf v u s2 x y H2 I2 r1 r2 q2

theorem pe_op {op : Operator} {r : R2} (ho : OpR X (binaryOp op) r) (ha : PE X a ta) (hb : PE X b tb) : PE X (.BinOp a op b pos) (tOp r ta tb) := by
  intro pins s σ H Q I h
  exact wpAny_BinOp (binT ha hb I h fun v u s2 x y H2 I2 rx ry q => ho pins s2 σ H2 x y v u Q I2 rx ry q)
theorem pe_un {op : UnaryOp} {r : V → Hp → VK → Prop} (ho : UnR X (unaryOp op) r) (ha : PE X a ta) : PE X (.UnaryOp op a pos) (tUn r ta) := by
  intro pins s σ H Q I h
  exact UnaryOp_ (thn (ha pins s σ H _ I h) fun v s1 ⟨x, H1, I1, r1, q1⟩ => ho pins s1 σ H1 x v Q I1 r1 q1)
/-! ### ints -/
theorem opI {f : Value → Value → Sem Value} {C : Int → Int → Prop} {g : Int → Int → Int}
    (rule : ∀ (i j : Int) (t u : Tok) (s : Shared) (Q : Value → Shared → Prop) (E : Value → Shared → Prop), C i j → Q (.int (g i j) s.toks) { s with toks := s.toks + 1 } → wpAny (model X.prog X.w) X.A (f (.int i t) (.int j u)) Q E s) :
    OpR X f (rI C fun i j => .int (g i j)) := by
  intro pins s σ H x y v u Q I rx ry h
  obtain ⟨i, j, rfl, rfl, hc, q⟩ := h
  obtain ⟨t, rfl⟩ := rx
  obtain ⟨t', rfl⟩ := ry
  exact rule i j t t' s _ _ hc ⟨.int (g i j), H, I.tok _, ⟨_, rfl⟩, q⟩
theorem opI0 {f : Value → Value → Sem Value} {g : Int → Int → Int}
    (rule : ∀ (i j : Int) (t u : Tok) (s : Shared) (Q : Value → Shared → Prop) (E : Value → Shared → Prop), Q (.int (g i j) s.toks) { s with toks := s.toks + 1 } → wpAny (model X.prog X.w) X.A (f (.int i t) (.int j u)) Q E s) :
    OpR X f (rI0 fun i j => .int (g i j)) := by
  intro pins s σ H x y v u Q I rx ry h
  obtain ⟨i, j, rfl, rfl, q⟩ := h
  obtain ⟨t, rfl⟩ := rx
  obtain ⟨t', rfl⟩ := ry
  exact rule i j t t' s _ _ ⟨.int (g i j), H, I.tok _, ⟨_, rfl⟩, q⟩
theorem opB0 {f : Value → Value → Sem Value} {g : Int → Int → Bool}
    (rule : ∀ (i j : Int) (t u : Tok) (s : Shared) (Q : Value → Shared → Prop) (E : Value → Shared → Prop), Q (.bool (g i j)) s → wpAny (model X.prog X.w) X.A (f (.int i t) (.int j u)) Q E s) :
    OpR X f (rI0 fun i j => .bl (g i j)) := by
  intro pins s σ H x y v u Q I rx ry h
  obtain ⟨i, j, rfl, rfl, q⟩ := h
  obtain ⟨t, rfl⟩ := rx
  obtain ⟨t', rfl⟩ := ry
  exact rule i j t t' s _ _ ⟨.bl (g i j), H, I, rfl, q⟩

def CDiv (i j : Int) : Prop := 0 < j ∧ j < 1073741824
def CDivN (i j : Int) : Prop := j ≠ 0 ∧ j.natAbs < 1073741824
def CPow (i j : Int) : Prop := 0 ≤ j ∧ j ≤ 1000000 ∧ i.natAbs < 2 ^ 64
def CMul (i j : Int) : Prop := (-(2 ^ 64) < i ∧ i < 2 ^ 64) ∨ (-(2 ^ 64) < j ∧ j < 2 ^ 64)
theorem CMul.ok {i j : Int} (h : CMul i j) : IntMulOk i j := by
  rcases h with ⟨h1, h2⟩ | ⟨h1, h2⟩
  · exact .of_left (intBits_le_64 h1 h2)
  · exact .of_right (intBits_le_64 h1 h2)
theorem op_add : OpR X (binaryOp .Add) (rI0 fun i j => .int (i + j)) := opI0 fun _ _ _ _ _ _ _ q => add_int q
theorem op_sub : OpR X (binaryOp .Sub) (rI0 fun i j => .int (i - j)) := opI0 fun _ _ _ _ _ _ _ q => sub_int q
/-- % by a positive divisor of any size -/
theorem op_mod : OpR X (binaryOp .Mod) (rI (fun _ j => 0 < j) fun i j => .int (i % j)) := opI fun i j _ _ _ _ _ hc q => by
  have h1 : (0 : Int) < j := hc
  exact mod_int' (by omega) (by rw [Int.fmod_eq_emod_of_nonneg i (by omega)]; exact q)
theorem op_pow : OpR X (binaryOp .Pow) (rI CPow fun i j => .int (i ^ j.toNat)) := opI fun _ _ _ _ _ _ _ hc q => pow_int_small hc.1 hc.2.1 hc.2.2 q
theorem unI {f : Value → Sem Value} {g : Int → Int}
    (rule : ∀ (i : Int) (t : Tok) (s : Shared) (Q : Value → Shared → Prop) (E : Value → Shared → Prop), Q (.int (g i) s.toks) { s with toks := s.toks + 1 } → wpAny (model X.prog X.w) X.A (f (.int i t)) Q E s) :
    UnR X f (rU fun i => .int (g i)) := by
  intro pins s σ H x v Q I rx h
  obtain ⟨i, rfl, q⟩ := h
  obtain ⟨t, rfl⟩ := rx
  exact rule i t s _ _ ⟨.int (g i), H, I.tok _, ⟨_, rfl⟩, q⟩
theorem un_neg : UnR X (unaryOp .USub) (rU fun i => .int (-i)) := unI fun _ _ _ _ _ q => neg_int q
/-! ### bools among ints: n += (a < b) -/
end

/-! ### comparisons -/
/-- the scalars that == tells apart as data does -/
def scal : V → V → Bool
  | .non, .non => true | .non, .int _ => true | .int _, .non => true | .non, .bl _ => true | .bl _, .non => true | .non, .str _ => true | .str _, .non => true
  | .int _, .int _ => true | .bl _, .bl _ => true | .str _, .str _ => true | .byt _, .byt _ => true
  | .int _, .str _ => true | .str _, .int _ => true | .bl _, .str _ => true | .str _, .bl _ => true
  | _, _ => false
def rEq : R2 := fun x y H Q => scal x y = true ∧ Q (.bl (decide (x = y))) H
def rNe : R2 := fun x y H Q => scal x y = true ∧ Q (.bl (!decide (x = y))) H

theorem dec_int {i j : Int} : decide (V.int i = V.int j) = (i == j) := by
  rw [Bool.eq_iff_iff]
  simp
theorem dec_bl {i j : Bool} : decide (V.bl i = V.bl j) = (i == j) := by
  rw [Bool.eq_iff_iff]
  simp
theorem dec_str {i j : Str} : decide (V.str i = V.str j) = (i == j) := by
  rw [Bool.eq_iff_iff]
  simp
theorem dec_byt {i j : Array UInt8} : decide (V.byt i = V.byt j) = (i.toList == j.toList) := by
  rw [Bool.eq_iff_iff]
  cases i
  cases j
  simp

section
variable {X : Cx} {a b c : Expr} {ta tb tc : TE} {pos : Pos}
theorem fin_bl {pins : List (Addr × Obj)} {σ : St} {H : Hp} {s : Shared} {Q : VK} {k k' : Bool} (I : Inv X pins σ H s) (q : Q (.bl k) H) (e : k = k') : EP X pins σ Q (.bool k') s := by
  subst e
  exact ⟨.bl k, H, I, rfl, q⟩
theorem op_eq : OpR X (compareOp .Eq) rEq := by
  intro pins s σ H x y v u Q I rx ry h
  obtain ⟨hs, q⟩ := h
  cases x with
  | non =>
    cases rx
    cases y with
    | non => cases ry; exact PySem.EqNone.eq_none_none (fin_bl I q (by simp))
    | bl j => cases ry; exact PySem.EqNone.eq_none_bool (fin_bl I q (by simp))
    | int j => obtain ⟨t', rfl⟩ := ry; exact PySem.EqNone.eq_none_int (fin_bl I q (by simp))
    | str j => obtain ⟨t', rfl⟩ := ry; exact PySem.EqNone.eq_none_str (fin_bl I q (by simp))
    | _ => exact absurd (show false = true from hs) Bool.false_ne_true
  | bl i =>
    cases rx
    cases y with
    | non => cases ry; exact PySem.EqNone.eq_bool_none (fin_bl I q (by simp))
    | bl j => cases ry; exact eq_bool (fin_bl I q dec_bl)
    | str j => obtain ⟨t', rfl⟩ := ry; exact PySem.EqMixed.eq_bool_str (fin_bl I q (by simp))
    | _ => exact absurd (show false = true from hs) Bool.false_ne_true
  | int i =>
    obtain ⟨t, rfl⟩ := rx
    cases y with
    | non => cases ry; exact PySem.EqNone.eq_int_none (fin_bl I q (by simp))
    | int j => obtain ⟨t', rfl⟩ := ry; exact eq_int (fin_bl I q dec_int)
    | str j => obtain ⟨t', rfl⟩ := ry; exact PySem.EqMixed.eq_int_str (fin_bl I q (by simp))
    | _ => exact absurd (show false = true from hs) Bool.false_ne_true
  | str i =>
    obtain ⟨t, rfl⟩ := rx
    cases y with
    | non => cases ry; exact PySem.EqNone.eq_str_none (fin_bl I q (by simp))
    | bl j => cases ry; exact PySem.EqMixed.eq_str_bool (fin_bl I q (by simp))
    | int j => obtain ⟨t', rfl⟩ := ry; exact PySem.EqMixed.eq_str_int (fin_bl I q (by simp))
    | str j => obtain ⟨t', rfl⟩ := ry; exact eq_str (fin_bl I q dec_str)
    | _ => exact absurd (show false = true from hs) Bool.false_ne_true
  | byt i =>
    obtain ⟨t, rfl⟩ := rx
    cases y with
    | byt j => obtain ⟨t', rfl⟩ := ry; exact PySem.W.eq_bytes (fin_bl I q dec_byt)
    | _ => exact absurd (show false = true from hs) Bool.false_ne_true
  | _ => cases y <;> exact absurd (show false = true from hs) Bool.false_ne_true
theorem op_ne : OpR X (compareOp .NotEq) rNe := by
  intro pins s σ H x y v u Q I rx ry h
  obtain ⟨hs, q⟩ := h
  cases x with
  | non =>
    cases rx
    cases y with
    | non => cases ry; exact PySem.EqNone.ne_none_none (fin_bl I q (by simp))
    | bl j => cases ry; exact PySem.EqNone.ne_none_bool (fin_bl I q (by simp))
    | int j => obtain ⟨t', rfl⟩ := ry; exact PySem.EqNone.ne_none_int (fin_bl I q (by simp))
    | str j => obtain ⟨t', rfl⟩ := ry; exact PySem.EqNone.ne_none_str (fin_bl I q (by simp))
    | _ => exact absurd (show false = true from hs) Bool.false_ne_true
  | bl i =>
    cases rx
    cases y with
    | non => cases ry; exact PySem.EqNone.ne_bool_none (fin_bl I q (by simp))
    | bl j => cases ry; exact ne_bool (fin_bl I q (congrArg not dec_bl))
    | str j => obtain ⟨t', rfl⟩ := ry; exact PySem.EqMixed.ne_bool_str (fin_bl I q (by simp))
    | _ => exact absurd (show false = true from hs) Bool.false_ne_true
  | int i =>
    obtain ⟨t, rfl⟩ := rx
    cases y with
    | non => cases ry; exact PySem.EqNone.ne_int_none (fin_bl I q (by simp))
    | int j => obtain ⟨t', rfl⟩ := ry; exact ne_int (fin_bl I q (congrArg not dec_int))
    | str j => obtain ⟨t', rfl⟩ := ry; exact PySem.EqMixed.ne_int_str (fin_bl I q (by simp))
    | _ => exact absurd (show false = true from hs) Bool.false_ne_true
  | str i =>
    obtain ⟨t, rfl⟩ := rx
    cases y with
    | non => cases ry; exact PySem.EqNone.ne_str_none (fin_bl I q (by simp))
    | bl j => cases ry; exact PySem.EqMixed.ne_str_bool (fin_bl I q (by simp))
    | int j => obtain ⟨t', rfl⟩ := ry; exact PySem.EqMixed.ne_str_int (fin_bl I q (by simp))
    | str j => obtain ⟨t', rfl⟩ := ry; exact ne_str (fin_bl I q (congrArg not dec_str))
    | _ => exact absurd (show false = true from hs) Bool.false_ne_true
  | byt i =>
    obtain ⟨t, rfl⟩ := rx
    cases y with
    | byt j => obtain ⟨t', rfl⟩ := ry; exact PySem.W.ne_bytes (fin_bl I q (congrArg not dec_byt))
    | _ => exact absurd (show false = true from hs) Bool.false_ne_true
  | _ => cases y <;> exact absurd (show false = true from hs) Bool.false_ne_true

theorem op_lt : OpR X (compareOp .Lt) (rI0 fun i j => .bl (decide (i < j))) := opB0 fun _ _ _ _ _ _ _ q => lt_int q
theorem op_le : OpR X (compareOp .LtE) (rI0 fun i j => .bl (decide (i ≤ j))) := opB0 fun _ _ _ _ _ _ _ q => le_int q
theorem op_gt : OpR X (compareOp .Gt) (rI0 fun i j => .bl (decide (j < i))) := opB0 fun _ _ _ _ _ _ _ q => gt_int q
/-- the one string within the other -/
theorem op_in_str : OpR X (compareOp .In) (fun x y H Q => ∃ i j, x = .str i ∧ y = .str j ∧ Q (.bl (!(Builtin.Str.occurrences j i 0 j.length 1).isEmpty)) H) := by
  intro pins s σ H x y v u Q I rx ry h
  obtain ⟨i, j, rfl, rfl, q⟩ := h
  obtain ⟨t, rfl⟩ := rx
  obtain ⟨t', rfl⟩ := ry
  exact in_str (fin_bl I q rfl)

/-- is None, is not None: the right side a value none -/
theorem op_isN : OpR X (compareOp .Is) (fun x y H Q => y = .non ∧ Q (.bl (decide (x = .non))) H) := by
  intro pins s σ H x y v u Q I rx ry h
  obtain ⟨rfl, q⟩ := h
  cases ry
  refine is_none_gen (fin_bl I q ?_)
  cases x <;> first
    | (cases rx; rfl)
    | (obtain ⟨t, rfl⟩ := rx; rfl)
theorem op_notN : OpR X (compareOp .IsNot) (fun x y H Q => y = .non ∧ Q (.bl (!decide (x = .non))) H) := by
  intro pins s σ H x y v u Q I rx ry h
  obtain ⟨rfl, q⟩ := h
  cases ry
  refine isnot_none_gen (fin_bl I q ?_)
  cases x <;> first
    | (cases rx; rfl)
    | (obtain ⟨t, rfl⟩ := rx; rfl)

/-- is, is not of two objects that are tracked lists or instances -/
def isObj : HO → Bool
  | .lst _ => true
  | .ins _ _ _ => true
  | _ => false
theorem nomark (b : Expr) {op : CmpOp} (h : op ≠ .In := by decide) (h2 : op ≠ .NotIn := by decide) : behindInMarks op b = false := by
  have e1 : (op == CmpOp.In) = false := by cases op <;> first | rfl | exact absurd rfl h
  have e2 : (op == CmpOp.NotIn) = false := by cases op <;> first | rfl | exact absurd rfl h2
  cases b <;> simp [behindInMarks, e1, e2]
/-- a comparison as a value; hm: nomark b, or (for in, not in) by with_unfolding_all rfl -/
theorem pe_cmpR {op : CmpOp} {r : R2} (ho : OpR X (compareOp op) r) (ha : PE X a ta) (hb : PE X b tb) (hm : behindInMarks op b = false) : PE X (.Compare a [op] [b] pos) (tOp r ta tb) := by
  intro pins s σ H Q I h
  exact wpAny_Compare1 (binT ha hb I h fun v u s2 x y H2 I2 rx ry q => ho pins s2 σ H2 x y v u Q I2 rx ry q) hm
/-- a reading of a value as a test -/
def tTest (t : TE) : TT := fun σ H Q => t σ H fun x H' => ∃ k, x = .bl k ∧ Q k H'
theorem pt_cmpR {op : CmpOp} {r : R2} (ho : OpR X (compareOp op) r) (ha : PE X a ta) (hb : PE X b tb) (hm : behindInMarks op b = false) : PT X (.Compare a [op] [b] pos) (tTest (tOp r ta tb)) := by
  intro pins s σ H Q I h
  refine wpAny_isTrue_Compare1 (thn (ha pins s σ H _ I h) fun v s1 ⟨x, H1, I1, r1, q1⟩ => thn (hb pins s1 σ H1 _ I1 q1) fun u s2 ⟨y, H2, I2, r2, q2⟩ =>
    thn (ho pins s2 σ H2 x y v u _ I2 r1 r2 q2) fun c s3 ⟨z, H3, I3, r3, k, e, q3⟩ => ?_) hm
  subst e
  cases r3
  exact wpAny_truthy_bool ⟨H3, I3, q3⟩
/-- a op1 b op2 c -/
def tChain (r r' : R2) (ta tb tc : TE) : TE := fun σ H Q => ta σ H fun x H1 => tb σ H1 fun y H2 => r x y H2 fun z H3 => ∃ k, z = .bl k ∧
  (if k = true then tc σ H3 fun w' H4 => r' y w' H4 Q else Q (.bl false) H3)
theorem pe_chain {op op' : CmpOp} {r r' : R2} (ho : OpR X (compareOp op) r) (ho' : OpR X (compareOp op') r') (ha : PE X a ta) (hb : PE X b tb) (hc : PE X c tc)
    (hm : lastMarks [op, op'] [b, c] = false := by with_unfolding_all rfl) : PE X (.Compare a [op, op'] [b, c] pos) (tChain r r' ta tb tc) := by
  intro pins s σ H Q I h
  refine Compare_chain (thn (ha pins s σ H _ I h) fun v s1 ⟨x, H1, I1, r1, q1⟩ => chain_link (thn (hb pins s1 σ H1 _ I1 q1) fun u s2 ⟨y, H2, I2, r2, q2⟩ =>
    thn (ho pins s2 σ H2 x y v u _ I2 r1 r2 q2) fun d s3 ⟨z, H3, I3, r3, k, e, q3⟩ => ?_)) hm
  subst e
  cases r3
  refine wpAny_truthy_bool ?_
  cases k with
  | false => exact ite_ff ⟨.bl false, H3, I3, rfl, q3⟩
  | true => exact ite_tt (chain_last (thn (hc pins s3 σ H3 _ I3 q3) fun w' s4 ⟨z', H4, I4, r4, q4⟩ => ho' pins s4 σ H4 y z' u w' Q I4 r2 r4 q4))
/-! ### truth -/
/-- a value's truth by the abstract heap -/
def TruV (K : PySem.W.Frag) (x : V) (H : Hp) (k : Bool) : Prop :=
  match x with
  | .non => k = false
  | .bl b => k = b
  | .int i => k = (i != 0)
  | .str y => y.length ≤ sizeLine ∧ k = ((y.length : Int) != 0)
  | .byt y => y.size ≤ sizeLine ∧ k = ((y.size : Int) != 0)
  | .ref p => (∃ xs, SqL K H p xs ∧ k = !xs.isEmpty) ∨ (∃ xs, SqT K H p xs ∧ k = !xs.isEmpty) ∨ ∃ kvs, H p = some (.dK kvs) ∧ k = !kvs.isEmpty
  | _ => False
theorem line63 : (sizeLine : Nat) < 2 ^ 63 := by rw [sizeLine_eq]; decide
/-! ### strs and bytes -/
theorem op_add_str : OpR X (binaryOp .Add) (fun x y H Q => ∃ i j, x = .str i ∧ y = .str j ∧ i.length + j.length ≤ sizeLine ∧ Q (.str (i ++ j)) H) := by
  intro pins s σ H x y v u Q I rx ry h
  obtain ⟨i, j, rfl, rfl, hz, q⟩ := h
  obtain ⟨t, rfl⟩ := rx
  obtain ⟨t', rfl⟩ := ry
  exact add_str (fun t' tk => ⟨.str (i ++ j), H, I.tok _, ⟨_, rfl⟩, q⟩) hz
def PlainIxT (b : Expr) : Prop := ∀ o i, subscripted b false o i = operate [o, i] (getItem o i)
/-! ### scalar builtins, by CallR -/
theorem vals1 {x : V} {us : List Value} (r : Vals [x] us) : ∃ u, us = [u] ∧ RelV x u := by
  cases r with
  | cons r1 r2 => cases r2; exact ⟨_, rfl, r1⟩
theorem vals2 {x y : V} {us : List Value} (r : Vals [x, y] us) : ∃ u w', us = [u, w'] ∧ RelV x u ∧ RelV y w' := by
  cases r with
  | cons r1 r2 =>
    cases r2 with
    | cons r3 r4 => cases r4; exact ⟨_, _, rfl, r1, r3⟩
theorem call_max2 (hc : X.calm = true) : CallR X (.builtin "max") (fun xs H Q => ∃ i j, xs = [.int i, .int j] ∧ Q (.int (if j > i then j else i)) H) := by
  intro pins s σ H xs us Q I r h
  obtain ⟨i, j, rfl, q⟩ := h
  obtain ⟨u, w', rfl, ⟨t, rfl⟩, ⟨t', rfl⟩⟩ := vals2 r
  refine max_two_ints (I.ok.hd hc) fun h' tk k => ⟨_, H, I.kept k, ?_, q⟩
  by_cases hj : j > i
  · rw [if_pos hj, if_pos hj]; exact ⟨_, rfl⟩
  · rw [if_neg hj, if_neg hj]; exact ⟨_, rfl⟩
/-- len of a str, a bytes, a list, a tuple -/
def LenV (K : PySem.W.Frag) (x : V) (H : Hp) (n : Nat) : Prop :=
  match x with
  | .str y => y.length ≤ sizeLine ∧ n = y.length
  | .byt y => y.size ≤ sizeLine ∧ n = y.size
  | .ref p => (∃ xs, SqL K H p xs ∧ n = xs.length) ∨ ∃ xs, SqT K H p xs ∧ n = xs.length
  | _ => False
end
end L2

namespace L2
open PySem PySem.Spec PyProof.Rows

/-! ### an instance, its attributes a map -/
structure ObjM (h : Heap) (x dx C : Addr) (mA : Str → Option Value) : Prop where
  obj : h.get? x = some (PySem.W.instObj C dx)
  ns : h.Ns1 dx mA
  ne : dx ≠ x

theorem lookIn_ns {h : Heap} {dx : Addr} {mA : Str → Option Value} (n : h.Ns1 dx mA) : ∃ od, h.get? dx = some od ∧ ∀ name, PySem.W.lookIn name od = some (mA name) := by
  obtain ⟨o, es, ep, ho, hd, hk, _, hm⟩ := n
  refine ⟨o, ho, fun name => ?_⟩
  have e := hm name
  unfold nsFind findBy at e
  rw [← Array.find?_toList] at e
  unfold PySem.W.lookIn
  rw [hd]
  dsimp only
  split
  · rename_i y q
    rw [q] at e
    exact congrArg some e
  · rename_i q
    rw [q] at e
    have a : es.toList.any (·.refKey) = false := by
      rw [List.any_eq_false]
      intro y hy
      obtain ⟨z, t, hkey⟩ := hk y (Array.mem_toList_iff.mp hy)
      simp [DictEntry.refKey, hkey]
    have a' : ¬ es.toList.any (·.refKey) = true := by rw [a]; exact Bool.false_ne_true
    rw [if_neg a']
    exact congrArg some e

theorem ObjM.look {h : Heap} {x dx C : Addr} {mA : Str → Option Value} (I : ObjM h x dx C mA) : ∃ od, PySem.W.InstAt h x (PySem.W.instObj C dx) C (some od) ∧ ∀ name, PySem.W.lookIn name od = some (mA name) :=
  let ⟨od, ho, hl⟩ := lookIn_ns I.ns
  ⟨od, ⟨I.obj, rfl, rfl, ho⟩, hl⟩

section
variable {prog : Program} {w : World} {A : Around} {E : Value → Shared → Prop} {s : Shared} {K : PySem.W.Frag} {x dx C f : Addr} {mA : Str → Option Value} {name : Str} {v : Value}

theorem get_map {expr : Bool} {Q : Value → Shared → Prop} (X : K.In s.heap) (I : ObjM s.heap x dx C mA) (hg : PySem.W.plainGet K C name = true) (hh : PySem.W.hasDictIn K C = true)
    (ha : PySem.W.findIn K (.ref C) name = some none) (hv : mA name = some v) (hv' : PySem.W.handedIn v = true) (h : Q v { s with toks := s.toks + 1 }) :
    wpAny (model prog w) A (getAttr (.ref x) name expr) Q E s := by
  obtain ⟨od, J, hl⟩ := I.look
  exact PySem.W.get_value X J (PySem.W.plainGet_of hg).1 (PySem.W.findObj_own hh ha rfl (by rw [hl, hv])) hv' h

theorem get_meth {pl : Sem Bool} {Q : Value × List Value → Shared → Prop} (X : K.In s.heap) (I : ObjM s.heap x dx C mA) (hg : PySem.W.plainGet K C name = true)
    (hf : PySem.W.findIn K (.ref C) name = some (some (.ref f))) (ht : PySem.W.isFn K (.ref f) = true) (hv : mA name = none) (h : Q (.ref f, [.ref x]) s) :
    wpAny (model prog w) A (getMethod (.ref x) name pl) Q E s := by
  obtain ⟨od, J, hl⟩ := I.look
  exact PySem.W.method_fn X J (PySem.W.plainGet_of hg).1 (PySem.W.plainGet_of hg).2 hf (beq_iff_eq.mp ht) (by show (PySem.W.lookIn name od).map (·.isSome) = some false; rw [hl, hv]; rfl) h

theorem set_map {ns : List Str} {Q : Unit → Shared → Prop} (X : K.In s.heap) (I : ObjM s.heap x dx C mA)
    (hs : PySem.W.findIn K (.ref C) "__setattr__" = some (some (.builtin "object.__setattr__"))) (hp : PySem.W.plainOver K C = true) (ht : PySem.W.takerIn K C name = some none) (hh : PySem.W.hasDictIn K C = true)
    (hw : PySem.Within mA ns) (hsz : ns.length ≤ sizeLine)
    (h : ∀ h', ObjM h' x dx C (fun y => if y = name then some v else mA y) → Heap.SameBut dx s.heap h' → Q () { s with heap := h', toks := s.toks + 2 }) :
    wpAny (model prog w) A (setAttr (.ref x) name v) Q E s := by
  obtain ⟨od, J, hl⟩ := I.look
  refine PySem.W.set_plain X J hs (PySem.W.osa_open (s := { s with toks := s.toks + 1 }) (r := none) X J hp ht fun b => ?_)
  obtain ⟨cd, hc, hd'⟩ := PySem.W.any_some hh
  have hx : s.heap.get? x = some ⟨.ref C, some dx, .plain, #[]⟩ := I.obj
  refine wpAny_bind (wpAny_pure (wpAny_bind (wpAny_bind (wpAny_loadPart hx (wpAny_bind (PySem.W.Looks.here (s := { s with toks := s.toks + 1 }) (PySem.W.looks_clsIn X hc) ?_))))))
  rw [hd']
  refine wpAny_pure (a := some dx) (wpAny_bind (wpAny_pure (wpAny_bind ?_)))
  refine wpAny_nsSet1 (s := { s with toks := s.toks + 1 }) I.ns fun h' hn2 hs2 => ?_
  obtain ⟨oD, esD, epD, hoD, hdD, hcD⟩ := hn2.count (PySem.Within.cons name v hw)
  refine wpAny_bind (wpAny_lookBehind hoD (by rw [hdD]; exact pastItsLine_dict (Nat.le_trans hcD (by rw [List.length_cons]; omega))) ?_)
  exact wpAny_pure (h _ ⟨(hs2.2 _ (Ne.symm I.ne)).trans I.obj, hn2, I.ne⟩ hs2)

/-- C(..): the dict at the heap's end, the instance behind it; then its __init__ -/
theorem make_map {R : Result → Shared → Prop} {vs : List Value} {kw : List (Str × Value)} (X : K.In s.heap) (hm : PySem.W.makesIn K C = true)
    (hi : PySem.W.findIn K (.ref C) "__init__" = some (some (.ref f))) (hf : PySem.W.typeIn K (.ref f) = some (.type "function"))
    (h : codeAny (model prog w) (A.under (.builtin "type.__call__" ⟨.ref C :: vs, kw⟩)) (.call (.ref f) ⟨.ref (s.heap.objs.size + 1) :: vs, kw⟩) (PySem.W.InitBack (s.heap.objs.size + 1) R)
      { s with heap := (s.heap.push PySem.W.emptyDict).push (PySem.W.instObj C s.heap.objs.size) }) :
    codeAny (model prog w) A (.call (.ref C) ⟨vs, kw⟩) R s := by
  obtain ⟨hh, g, d, t, os⟩ := s
  exact PySem.W.make_core (PySem.W.makes_of X hm) (PySem.W.looks_findIn X hi) (fun self => PySem.W.bind_fn X self hf) (.inl rfl) h
end

/-! ### the attributes as a list of pairs -/
def putF (f : Str) (v : V) : List (Str × V) → List (Str × V)
  | [] => [(f, v)]
  | (g, x) :: r => if g = f then (g, v) :: r else (g, x) :: putF f v r
theorem lookup_putF (f g : Str) (v : V) : ∀ fs : List (Str × V), (putF f v fs).lookup g = if g = f then some v else fs.lookup g
  | [] => by
    show List.lookup g [(f, v)] = _
    by_cases h : g = f
    · have hb : (g == f) = true := beq_iff_eq.mpr h
      simp only [List.lookup, hb, if_pos h]
    · have hb : (g == f) = false := beq_eq_false_iff_ne.mpr h
      simp only [List.lookup, hb, if_neg h]
  | (k, x) :: r => by
    have ih := lookup_putF f g v r
    rw [show putF f v ((k, x) :: r) = (if k = f then (k, v) :: r else (k, x) :: putF f v r) from rfl]
    by_cases hk : k = f
    · rw [if_pos hk]
      by_cases h : g = k
      · have hb : (g == k) = true := beq_iff_eq.mpr h
        simp only [List.lookup, hb, if_pos (h.trans hk)]
      · have hb : (g == k) = false := beq_eq_false_iff_ne.mpr h
        simp only [List.lookup, hb, if_neg (fun e : g = f => h (e.trans hk.symm))]
    · rw [if_neg hk]
      by_cases h : g = k
      · have hb : (g == k) = true := beq_iff_eq.mpr h
        simp only [List.lookup, hb, if_neg (fun e : g = f => hk (h.symm.trans e))]
      · have hb : (g == k) = false := beq_eq_false_iff_ne.mpr h
        simp only [List.lookup, hb]
        exact ih
theorem keys_putF (f : Str) (v : V) : ∀ fs : List (Str × V), f ∈ (putF f v fs).map (·.1) ∧ ∀ g, g ∈ fs.map (·.1) → g ∈ (putF f v fs).map (·.1)
  | [] => ⟨by simp [putF], fun g h => by simp at h⟩
  | (k, x) :: r => by
    obtain ⟨i1, i2⟩ := keys_putF f v r
    rw [show putF f v ((k, x) :: r) = (if k = f then (k, v) :: r else (k, x) :: putF f v r) from rfl]
    by_cases hk : k = f
    · rw [if_pos hk]
      subst hk
      exact ⟨by simp, fun g h => by simpa using h⟩
    · rw [if_neg hk]
      refine ⟨?_, fun g h => ?_⟩
      · rw [List.map_cons]
        exact List.mem_cons_of_mem _ i1
      · rw [List.map_cons] at h ⊢
        rcases List.mem_cons.mp h with e | e
        · exact List.mem_cons.mpr (.inl e)
        · exact List.mem_cons_of_mem _ (i2 g e)
theorem length_putF (f : Str) (v : V) : ∀ fs : List (Str × V), (putF f v fs).length ≤ fs.length + 1
  | [] => by simp [putF]
  | (k, x) :: r => by
    have ih := length_putF f v r
    rw [show putF f v ((k, x) :: r) = (if k = f then (k, v) :: r else (k, x) :: putF f v r) from rfl]
    by_cases hk : k = f
    · rw [if_pos hk, List.length_cons, List.length_cons]; omega
    · rw [if_neg hk, List.length_cons, List.length_cons]; omega

theorem RelO.some_of {v : V} {o : Option Value} (r : RelO (some v) o) : ∃ u, o = some u ∧ RelV v u := by
  cases o with
  | none => exact (show False from r).elim
  | some u => exact ⟨u, rfl, r⟩
theorem RelO.none_of {o : Option Value} (r : RelO none o) : o = none := by
  cases o with
  | none => rfl
  | some u => exact (show False from r).elim
theorem handed_of {v : V} {u : Value} (r : RelV v u) : PySem.W.handedIn u = true := by
  cases v with
  | non => cases (show u = Value.none from r); rfl
  | bl b => cases (show u = Value.bool b from r); rfl
  | int i => obtain ⟨t, e⟩ := (show ∃ t, u = Value.int i t from r); cases e; rfl
  | str x => obtain ⟨t, e⟩ := (show ∃ t, u = Value.str x t from r); cases e; rfl
  | byt b => obtain ⟨t, e⟩ := (show ∃ t, u = Value.bytes b t from r); cases e; rfl
  | flt b => obtain ⟨t, e⟩ := (show ∃ t, u = Value.float b t from r); cases e; rfl
  | ref a => cases (show u = Value.ref a from r); rfl
  | ty n => cases (show u = Value.type n from r); rfl

section
variable {P : Program} {w : World} {H H' : Hp} {h h' : Heap} {a C dx : Addr} {fs fs' : List (Str × V)}
theorem ins_get (hok : HOk P w H h) (e : H a = some (.ins C dx fs)) : ∃ mA, ObjM h a dx C mA ∧ (∀ f, RelO (fs.lookup f) (mA f)) ∧ PySem.Within mA (fs.map (·.1)) ∧ fs.length ≤ 1000 ∧ H dx = some (.own a) := by
  obtain ⟨d, z, ne, ob, mA, n, r, q⟩ := (show ObjOk P w H h a (.ins C dx fs) from hok a _ e)
  exact ⟨mA, ⟨ob, n, ne⟩, r, q, z, d⟩
end

/-! ### what of the text a class must have -/
structure Cls (K : PySem.W.Frag) (C : Addr) : Prop where
  pg : PySem.W.plainGet K C Str.empty = true
  hd : PySem.W.hasDictIn K C = true
  po : PySem.W.plainOver K C = true
  sa : PySem.W.findIn K (.ref C) "__setattr__" = some (some (.builtin "object.__setattr__"))
theorem Cls.get {K : PySem.W.Frag} {C : Addr} (c : Cls K C) (f : Str) : PySem.W.plainGet K C f = true := c.pg
/-- no class of it has the name -/
def NoAttr (K : PySem.W.Frag) (C : Addr) (f : Str) : Prop := PySem.W.findIn K (.ref C) f = some none
theorem NoAttr.taker {K : PySem.W.Frag} {C : Addr} {f : Str} (n : NoAttr K C f) : PySem.W.takerIn K C f = some none := by
  unfold PySem.W.takerIn
  rw [show PySem.W.findIn K (.ref C) f = some none from n]
  rfl
/-- a constant of the class -/
structure Con (K : PySem.W.Frag) (C : Addr) (f : Str) (v : V) (u : Value) : Prop where
  at_ : PySem.W.findIn K (.ref C) f = some (some u)
  rel : RelV v u
  get : PySem.W.specialIn K u "__get__" = some none
  cp : PySem.W.copiedNames.contains f = false
/-- a method: a plain def of the class or of one above it -/
structure Meth (K : PySem.W.Frag) (C : Addr) (m : Str) (f : Addr) : Prop where
  at_ : PySem.W.findIn K (.ref C) m = some (some (.ref f))
  fn : PySem.W.isFn K (.ref f) = true
  kp : PySem.W.keepIn K (.ref f) = true

section
variable {X : Cx} {pins : List (Addr × Obj)} {σ : St} {H : Hp} {s : Shared} {a C dx : Addr} {fs : List (Str × V)} {f : Str} {v : V} {A : Around} {E : Value → Shared → Prop}

theorem getattr_ok {b : Bool} {Q : Value → Shared → Prop} (I : Inv X pins σ H s) (e : H a = some (.ins C dx fs)) (c : Cls X.K C) (n : NoAttr X.K C f) (l : fs.lookup f = some v)
    (h : ∀ u s', Inv X pins σ H s' → RelV v u → Q u s') : wpAny (model X.prog X.w) A (getAttr (.ref a) f b) Q E s := by
  obtain ⟨mA, O, r, _, _, _⟩ := ins_get I.hok e
  obtain ⟨u, hu, ru⟩ := RelO.some_of (v := v) (o := mA f) (by rw [← l]; exact r f)
  exact get_map I.kIn O (c.get f) c.hd n hu (handed_of ru) (h u _ (I.tok _) ru)

theorem getmeth_ok {m : Str} {g : Addr} {pl : Sem Bool} {Q : Value × List Value → Shared → Prop} (I : Inv X pins σ H s) (e : H a = some (.ins C dx fs)) (c : Cls X.K C) (k : Meth X.K C m g) (l : fs.lookup m = none)
    (h : Q (.ref g, [.ref a]) s) : wpAny (model X.prog X.w) A (getMethod (.ref a) m pl) Q E s := by
  obtain ⟨mA, O, r, _, _, _⟩ := ins_get I.hok e
  have hn : mA m = none := RelO.none_of (by rw [← l]; exact r m)
  exact get_meth I.kIn O (c.get m) k.at_ k.fn hn h

theorem setattr_ok {y : V} {u : Value} {Q : Unit → Shared → Prop} (I : Inv X pins σ H s) (e : H a = some (.ins C dx fs)) (c : Cls X.K C) (n : NoAttr X.K C f) (hl : fs.length < 1000) (ry : RelV y u)
    (h : ∀ s', Inv X pins σ (upd H a (.ins C dx (putF f y fs))) s' → Q () s') : wpAny (model X.prog X.w) A (setAttr (.ref a) f u) Q E s := by
  obtain ⟨mA, O, r, wi, _, ho⟩ := ins_get I.hok e
  have hz : (fs.map (·.1)).length ≤ sizeLine := by rw [List.length_map, sizeLine_eq]; omega
  refine set_map I.kIn O c.sa c.po n.taker c.hd wi hz fun h' O' sb => h _ ?_
  have hd : ∃ o, h'.get? dx = some o := let ⟨o, _, _, e', _⟩ := O'.ns; ⟨o, e'⟩
  refine I.write (x := a) (e := dx) (by rw [e]; exact True.intro) (.inr ho) (fun b q hb z => (sb.2 b hb).trans z) hd ?_
  refine ⟨by rw [upd_ne O.ne]; exact ho, ?_, O.ne, O'.obj, _, O'.ns, fun g => ?_, fun g hg => ?_⟩
  · have := length_putF f y fs; omega
  · show RelO ((putF f y fs).lookup g) (if g = f then some u else mA g)
    rw [lookup_putF]
    by_cases q : g = f
    · rw [if_pos q, if_pos q]; exact ry
    · rw [if_neg q, if_neg q]; exact r g
  · by_cases q : g = f
    · rw [q]; exact (keys_putF f y fs).1
    · refine (keys_putF f y fs).2 g (wi g fun z => hg ?_)
      show (if g = f then some u else mA g) = none
      rw [if_neg q]; exact z

/-- a new instance, tracked, without attributes -/
theorem Inv.made (I : Inv X pins σ H s) : Inv X pins σ (upd (upd H s.heap.objs.size (.own (s.heap.objs.size + 1))) (s.heap.objs.size + 1) (.ins C s.heap.objs.size []))
    { s with heap := (s.heap.push PySem.W.emptyDict).push (PySem.W.instObj C s.heap.objs.size) } := by
  have e1 : (s.heap.push PySem.W.emptyDict).get? s.heap.objs.size = some PySem.W.emptyDict := Heap.get?_push_size s.heap rfl
  have e2 : ((s.heap.push PySem.W.emptyDict).push (PySem.W.instObj C s.heap.objs.size)).get? (s.heap.objs.size + 1) = some (PySem.W.instObj C s.heap.objs.size) := by
    have := Heap.get?_push_size (s.heap.push PySem.W.emptyDict) (o := PySem.W.instObj C s.heap.objs.size) rfl
    rwa [Heap.size_push] at this
  have e3 : (s.heap.push PySem.W.emptyDict).Ns s.heap.objs.size (fun _ => none) := ⟨PySem.W.emptyDict, #[], _, e1, rfl, (fun e he => absurd he (by simp)), fun _ => rfl⟩
  have I1 := I.laid (a := s.heap.objs.size) (o := .own (s.heap.objs.size + 1)) (h' := s.heap.push PySem.W.emptyDict) (t' := s.toks) (fun b u q => Heap.get?_push_of_some _ q) (Nat.le_refl _) ⟨_, e1⟩
  refine I1.laid (a := s.heap.objs.size + 1) (o := .ins C s.heap.objs.size []) (t' := s.toks) (fun b u q => Heap.get?_push_of_some _ q) (Nat.le_of_eq (Heap.size_push _ _)) ?_
  have ne : s.heap.objs.size ≠ s.heap.objs.size + 1 := Nat.ne_of_lt (Nat.lt_succ_self _)
  refine ⟨by rw [upd_ne ne, upd_same], Nat.zero_le _, ne, e2, fun _ => none, (Heap.Ns1.of_empty e3).at fun o q => Heap.get?_push_of_some _ q, fun _ => True.intro, fun y hy => absurd rfl hy⟩

/-- e.f where nothing but the object is asked: through attributeBase (super) and the last hold -/
theorem attr_of {prog : Program} {w : World} {env : Env} {e : Expr} {f : Str} {pos : Pos} {s : Shared} {Q : Value → Shared → Prop} (hb : attributeBase e f env (eval e env) = eval e env)
    (h : wpAny (model prog w) A (eval e env) (fun o s₁ => wpAny (model prog w) A (getAttr o f true) Q E s₁) E s) : wpAny (model prog w) A (eval (.Attribute e f pos) env) Q E s :=
  Attribute_any_ h (by rw [arm_eval_Attribute, hb])
end

/-! ### readings and rules -/
/-- e.f, an attribute of the instance -/
def tFld (K : PySem.W.Frag) (ta : TE) (f : Str) : TE := fun σ H Q => ta σ H fun x H1 => ∃ a C dx fs v, x = .ref a ∧ H1 a = some (.ins C dx fs) ∧ Cls K C ∧ NoAttr K C f ∧ fs.lookup f = some v ∧ Q v H1
/-- e.f, a constant of the class -/
def tCon (K : PySem.W.Frag) (ta : TE) (f : Str) : TE := fun σ H Q => ta σ H fun x H1 => ∃ a C dx fs v u, x = .ref a ∧ H1 a = some (.ins C dx fs) ∧ Cls K C ∧ Con K C f v u ∧ fs.lookup f = none ∧ Q v H1
/-- e.f = value -/
def sFld (K : PySem.W.Frag) (ta tv : TE) (f : Str) : TS := fun D σ H => tv σ H fun y H1 => ta σ H1 fun x H2 => ∃ a C dx fs, x = .ref a ∧ H2 a = some (.ins C dx fs) ∧ Cls K C ∧ NoAttr K C f ∧ fs.length < 1000 ∧
  D.nx σ (upd H2 a (.ins C dx (putF f y fs)))
/-- an augmented operator on two values -/
def InOp (X : Cx) (op : Operator) (rd : V → V → Hp → VK → Prop) : Prop :=
  ∀ (pins : List (Addr × Obj)) (s : Shared) (σ : St) (H : Hp) (x y : V) (u v : Value) (Q : VK), Inv X pins σ H s → RelV x u → RelV y v → rd x y H Q → wpAny (model X.prog X.w) X.A (inplaceOp op u v) (EP X pins σ Q) X.xe s
/-- e.f op= value -/
def sFldAug (K : PySem.W.Frag) (ta tv : TE) (rd : V → V → Hp → VK → Prop) (f : Str) : TS := fun D σ H => ta σ H fun x H1 => ∃ a C dx fs v, x = .ref a ∧ H1 a = some (.ins C dx fs) ∧ Cls K C ∧ NoAttr K C f ∧ fs.lookup f = some v ∧
  tv σ H1 fun y H2 => rd v y H2 fun z H3 => ∃ dx' fs', H3 a = some (.ins C dx' fs') ∧ fs'.length < 1000 ∧ D.nx σ (upd H3 a (.ins C dx' (putF f z fs')))

section
variable {X : Cx} {o e value : Expr} {f : Str} {pos pos' tpos : Pos} {ta tv : TE}
theorem pe_fld (he : PE X e ta) (hb : attributeBase e f X.env (eval e X.env) = eval e X.env) : PE X (.Attribute e f pos) (tFld X.K ta f) := by
  intro pins s σ H Q I h
  refine attr_of hb (thn (he pins s σ H _ I h) fun u s1 ⟨x, H1, I1, rx, a, C, dx, fs, v, ex, ea, c, n, l, q⟩ => ?_)
  subst ex
  obtain rfl : u = Value.ref a := rx
  exact getattr_ok I1 ea c n l fun u' s2 I2 ru => ⟨v, H1, I2, ru, q⟩
theorem ps_fld (ha : PE X o ta) (hv : PE X value tv) (hs : swapsWith value (some (.Attribute o f pos')) pos.line X.env = pure false) : PS X (.Assign [.Attribute o f pos'] value pos) (sFld X.K ta tv f) := by
  intro pins s σ H D I h
  refine plainObj_wpAny_Assign_Attribute (thn (hv pins s σ H _ I h) fun u s1 ⟨y, H1, I1, ry, q⟩ => thn (ha pins s1 σ H1 _ I1 q) fun ov s2 ⟨x, H2, I2, rx, a, C, dx, fs, ex, ea, c, n, l, q2⟩ => ?_) hs
  subst ex
  obtain rfl : ov = Value.ref a := rx
  exact setattr_ok I2 ea c n l ry fun s3 I3 => ⟨σ, _, I3, q2⟩
def rAdd : V → V → Hp → VK → Prop := fun x y H Q => ∃ i j, x = .int i ∧ y = .int j ∧ Q (.int (i + j)) H
def rSub : V → V → Hp → VK → Prop := fun x y H Q => ∃ i j, x = .int i ∧ y = .int j ∧ Q (.int (i - j)) H
end

/-! ### isinstance -/
section
variable {X : Cx} {pins : List (Addr × Obj)} {σ : St} {H : Hp} {s : Shared} {A : Around} {E : Value → Shared → Prop} {Q : Value → Shared → Prop} {c : Value} {b : Bool}
/-- the type of a value, as the fragment's deciders take it; for an instance its class -/
inductive TyOf (K : PySem.W.Frag) (H : Hp) : V → Value → Prop where
  | non : TyOf K H .non (.type "NoneType")
  | bl (x : Bool) : TyOf K H (.bl x) (.type "bool")
  | int (i : Int) : TyOf K H (.int i) (.type "int")
  | str (x : Str) : TyOf K H (.str x) (.type "str")
  | flt (x : UInt64) : TyOf K H (.flt x) (.type "float")
  | lst {a : Addr} {xs : List V} (e : H a = some (.lst xs)) : TyOf K H (.ref a) (.type "list")
  | frz {a : Addr} {o : Obj} {xs : List V} (e : H a = some (.frz o (.lst xs))) : TyOf K H (.ref a) (.type "list")
  | tup {a : Addr} {xs : List V} (e : H a = some (.tup xs)) : TyOf K H (.ref a) (.type "tuple")
  | dK {a : Addr} {kvs : List (Key × V)} (e : H a = some (.dK kvs)) : TyOf K H (.ref a) (.type "dict")
  | dT {a : Addr} {kvs : List (List Key × V)} (e : H a = some (.dT kvs)) : TyOf K H (.ref a) (.type "dict")
  | ins {a C dx : Addr} {fs : List (Str × V)} (e : H a = some (.ins C dx fs)) (cl : Cls K C) (ha : PySem.W.findIn K (.ref C) "__class__" = some (some (.builtin "object.__class__")))
      (hn : PySem.W.specialIn K (.builtin "object.__class__") "__get__" = some (some (.builtin "getset_descriptor.__get__"))) (htk : PySem.W.takesIn K (.builtin "object.__class__") = some true)
      (hm : PySem.W.mroIn K C (.type "object") = some true) : TyOf K H (.ref a) (.ref C)
/-- isinstance(x, c) for one class c, a built-in or an own one: kitOne's answer -/
theorem isinst_ok {x : V} {u t : Value} (I : Inv X pins σ H s) (rx : RelV x u) (ty : TyOf X.K H x t) (e : PySem.W.kitOne X.K t c = some b) (h : ∀ tk, Q (.bool b) { s with toks := tk }) :
    wpAny (model X.prog X.w) A (call (.builtin "isinstance") [u, c]) Q E s := by
  cases ty with
  | non => cases (show u = Value.none from rx); exact PySem.W.kia_one PySem.W.kitx_none I.kIn True.intro e (fun z => nomatch z) h
  | bl y => cases (show u = Value.bool y from rx); exact PySem.W.kia_one PySem.W.kitx_bool I.kIn True.intro e (fun z => nomatch z) h
  | int i => obtain ⟨t, q⟩ := (show ∃ t, u = Value.int i t from rx); cases q; exact PySem.W.kia_one PySem.W.kitx_int I.kIn True.intro e (fun z => nomatch z) h
  | str y => obtain ⟨t, q⟩ := (show ∃ t, u = Value.str y t from rx); cases q; exact PySem.W.kia_one PySem.W.kitx_str I.kIn True.intro e (fun z => nomatch z) h
  | flt y => obtain ⟨t, q⟩ := (show ∃ t, u = Value.float y t from rx); cases q; exact PySem.W.kia_one PySem.W.kitx_float I.kIn True.intro e (fun z => nomatch z) h
  | @lst a xs ea =>
    cases (show u = Value.ref a from rx)
    obtain ⟨_, _, n, _, h1⟩ := (show ObjOk X.prog X.w H s.heap a (.lst xs) from I.hok a _ ea)
    exact PySem.W.kia_one PySem.W.kitx_list I.kIn ⟨_, h1, rfl⟩ e (fun z => nomatch z) h
  | @frz a ob xs ea =>
    cases (show u = Value.ref a from rx)
    obtain ⟨_, _, _, n, _, h1⟩ := (show ObjOk X.prog X.w H s.heap a (.frz ob (.lst xs)) from I.hok a _ ea)
    exact PySem.W.kia_one PySem.W.kitx_list I.kIn ⟨_, h1, rfl⟩ e (fun z => nomatch z) h
  | @tup a xs ea =>
    cases (show u = Value.ref a from rx)
    obtain ⟨_, _, _, p⟩ := (show ObjOk X.prog X.w H s.heap a (.tup xs) from I.hok a _ ea)
    obtain ⟨o, h1, h2, _⟩ := p
    exact PySem.W.kia_one PySem.W.kitx_tuple I.kIn ⟨o, h1, h2⟩ e (fun z => nomatch z) h
  | @dK a kvs ea =>
    cases (show u = Value.ref a from rx)
    obtain ⟨_, _, vs, _, p⟩ := (show ObjOk X.prog X.w H s.heap a (.dK kvs) from I.hok a _ ea)
    obtain ⟨o, es, ep, h1, h2, _⟩ := p
    exact PySem.W.kia_one PySem.W.kitx_dict I.kIn ⟨o, h1, h2.1⟩ e (fun z => nomatch z) h
  | @dT a kvs ea =>
    cases (show u = Value.ref a from rx)
    obtain ⟨_, _, xs, _, o, es, ep, h1, h2, _⟩ := (show ObjOk X.prog X.w H s.heap a (.dT kvs) from I.hok a _ ea)
    exact PySem.W.kia_one PySem.W.kitx_dict I.kIn ⟨o, h1, h2.1⟩ e (fun z => nomatch z) h
  | @ins a C dx fs ea cl ha hn htk hm =>
    cases (show u = Value.ref a from rx)
    obtain ⟨mA, O, _⟩ := ins_get I.hok ea
    obtain ⟨od, J, _⟩ := O.look
    exact PySem.W.kia_one (PySem.W.kitx_own (cl.get _) cl.hd ha hn htk hm) I.kIn J e (fun z => nomatch z) h
end
end L2

namespace L2
open PySem PySem.Spec PyProof.Rows

/-! ### room -/
structure Room (k : Nat) (A : Around) : Prop where
  hd : A.handled = none
  dp : A.depth + 3 * k + 5 < recursionLimit
  un : A.units + 16 * k + 200 < cLine
theorem Room.mono {j k : Nat} {A : Around} (r : Room k A) (h : j ≤ k) : Room j A := ⟨r.hd, by have := r.dp; omega, by have := r.un; omega⟩
theorem Room.deeper {k : Nat} {A : Around} (r : Room (k + 1) A) (env : Env) : Room k (A.deeper env) :=
  ⟨r.hd, by have := r.dp; show A.depth + 1 + 3 * k + 5 < _; omega, by have := r.un; show A.units + 3 + 16 * k + 200 < _; omega⟩
theorem make_depth {A : Around} {C : Addr} {us : List Value} {kw : List (Str × Value)} : (A.under (.builtin "type.__call__" ⟨.ref C :: us, kw⟩)).depth = A.depth + 1 := by
  first | rfl | simp [Around.under, Code.weight, Code.isCreation, Code.isGuard, Code.isCaller, Code.frames, Code.isFrame, guardIds]
theorem make_units {A : Around} {C : Addr} {us : List Value} {kw : List (Str × Value)} : (A.under (.builtin "type.__call__" ⟨.ref C :: us, kw⟩)).units = A.units + 1 := by
  first | rfl | simp [Around.under, Code.cUnits, Code.frames, Code.isFrame]
theorem Room.make {k : Nat} {A : Around} (r : Room (k + 1) A) (C : Addr) (us : List Value) (kw : List (Str × Value)) : Room k (A.under (.builtin "type.__call__" ⟨.ref C :: us, kw⟩)) :=
  ⟨r.hd, by have := r.dp; rw [make_depth]; omega, by have := r.un; rw [make_units]; omega⟩
theorem Room.depth {k : Nat} {A : Around} (r : Room k A) : A.depth < recursionLimit := by have := r.dp; omega
theorem Room.units {k : Nat} {A : Around} (r : Room k A) : A.units + 64 < cLine := by have := r.un; omega
/-! ### argument lists and displays -/
def tNil : TA := fun _ H Q => Q [] H
def tCons (ta : TE) (tr : TA) : TA := fun σ H Q => ta σ H fun x H1 => tr σ H1 fun xs H2 => Q (x :: xs) H2
section
variable {X : Cx} {e : Expr} {es : List Expr} {te : TE} {t : TA} {pos : Pos}
theorem pa_nil : PA X [] tNil := fun _ _ _ _ H Q I h => Calls.spliced_nil ⟨[], H, I, .nil, h⟩
theorem pa_cons (ha : PE X e te) (hr : PA X es t) (hs : starEach (e :: es) X.env = (false, eval e X.env) :: starEach es X.env := by rfl) : PA X (e :: es) (tCons te t) := by
  intro pos pins s σ H Q I h
  rw [hs]
  show wpAny _ _ (spliced ((false, eval e X.env) :: backTo pos (starEach es X.env))) _ _ s
  refine Calls.spliced_cons (thn (ha pins s σ H _ I h) fun u s1 ⟨x, H1, I1, r1, q1⟩ => ?_)
  exact thn (hr pos pins s1 σ H1 _ I1 q1) fun us s2 ⟨xs, H2, I2, r2, q2⟩ => ⟨x :: xs, H2, I2, .cons r1 r2, q2⟩

/-- a tuple, a list of written items -/
def tTup (t : TA) : TE := fun σ H Q => t σ H fun xs H1 => xs.length ≤ sizeLine ∧ ∀ p, H1 p = none → Q (.ref p) (upd H1 p (.tup xs))
def tLst (t : TA) : TE := fun σ H Q => t σ H fun xs H1 => xs.length ≤ sizeLine ∧ ∀ p, H1 p = none → Q (.ref p) (upd H1 p (.lst xs))
theorem pe_tup {x1} (h : PA X es t) : PE X (.Tuple es x1 pos) (tTup t) := by
  intro pins s σ H Q I hq
  refine wpAny_Tuple_spliced (thn (h pos pins s σ H _ I hq) fun us s1 ⟨xs, H1, I1, r, z, q⟩ => ⟨by rw [← r.length]; exact z, ?_⟩)
  have hf : H1 s1.heap.objs.size = none := I1.hok.fresh (Nat.le_refl _)
  refine ⟨.ref s1.heap.objs.size, upd H1 s1.heap.objs.size (.tup xs), I1.laid (t' := s1.toks) (fun b u e => Heap.get?_push_of_some _ e) (Nat.le_refl _) ?_, rfl, q _ hf⟩
  exact ⟨z, us, r, ⟨_, Heap.get?_push_size _ rfl, rfl, _, rfl⟩⟩
theorem pe_lst (h : PA X es t) : PE X (.List es pos) (tLst t) := by
  intro pins s σ H Q I hq
  refine wpAny_List_spliced (thn (h pos pins s σ H _ I hq) fun us s1 ⟨xs, H1, I1, r, z, q⟩ => ⟨by rw [← r.length]; exact z, ?_⟩)
  have hf : H1 s1.heap.objs.size = none := I1.hok.fresh (Nat.le_refl _)
  refine ⟨.ref s1.heap.objs.size, upd H1 s1.heap.objs.size (.lst xs), I1.laid (t' := s1.toks) (fun b u e => Heap.get?_push_of_some _ e) (Nat.le_refl _) ?_, rfl, q _ hf⟩
  exact ⟨z, us, 0, r, Heap.get?_push_size _ rfl⟩
end

/-! ### what a def promises -/
/-- a def's promise: the bound arguments in the parameters' order, the heap, the wanted end, the wanted exception -/
abbrev Sp := List V → Hp → VK → XK → Prop
/-- how an exception lies behind a call (file 08 gives it): the callers' frames, abstract heap and state ahead of the call, the wish, the exception, the state -/
abbrev CXT := List Env → Hp → Shared → XK → Value → Shared → Prop

/-- the state at a call -/
structure Env0 (P : Program) (w : World) (K : PySem.W.Frag) (mg : Str → Option Value) (base : Heap) (A : Around) (outer : List Env) (s : Shared) (H : Hp) : Prop where
  frames : A.frames = some outer
  mod : Mod K mg base
  bs : ∀ b o, base.get? b = some o → s.heap.get? b = some o ∧ H b = none
  bsz : base.objs.size ≤ s.heap.objs.size
  funs : s.heap.FunFrames base outer
  frf : ∀ b ∈ frs outer, H b = none
  hok : HOk P w H s.heap
  bare : AllBare s.gens
/-- a call's end -/
def CE (outer : List Env) (P : Program) (w : World) (H : Hp) (s : Shared) (Q : VK) (u : Value) (s' : Shared) : Prop :=
  ∃ v H', s'.os = s.os ∧ AllBare s'.gens ∧ Un (frs outer) [] H H' s.heap s'.heap ∧ HOk P w H' s'.heap ∧ RelV v u ∧ Q v H'
def CR (CX : CXT) (outer : List Env) (P : Program) (w : World) (H : Hp) (s : Shared) (Q : VK) (E : XK) (r : Result) (s' : Shared) : Prop :=
  match r with
  | .ok (.ret u) => CE outer P w H s Q u s'
  | .ok _ => False
  | .error e => CX outer H s E e s'
structure FnOk (P : Program) (w : World) (K : PySem.W.Frag) (mg : Str → Option Value) (base : Heap) (CX : CXT) (k : Nat) (f : Addr) (fd : FuncData) (ps : List Str) (sp : Sp) : Prop where
  len : ∀ vs H Q E, sp vs H Q E → vs.length = ps.length
  run : ∀ (A : Around) (outer : List Env) (s : Shared) (H : Hp) (args : Args) (us : List Value) (vs : List V) (Q : VK) (E : XK), Room k A → Env0 P w K mg base A outer s H → BindsTo s fd args (ps.zip us) → Vals vs us → sp vs H Q E →
    codeAny (model P w) A (.call (.ref f) args) (CR CX outer P w H s Q E) s
theorem FnOk.mono {P : Program} {w : World} {K : PySem.W.Frag} {mg : Str → Option Value} {base : Heap} {CX : CXT} {j k : Nat} {f : Addr} {fd : FuncData} {ps : List Str} {sp : Sp} (F : FnOk P w K mg base CX j f fd ps sp) (h : j ≤ k) :
    FnOk P w K mg base CX k f fd ps sp := ⟨F.len, fun A outer s H args us vs Q E hr => F.run A outer s H args us vs Q E (hr.mono h)⟩
theorem Env0.make {P : Program} {w : World} {K : PySem.W.Frag} {mg : Str → Option Value} {base : Heap} {A : Around} {outer : List Env} {s : Shared} {H : Hp} (e : Env0 P w K mg base A outer s H) (C : Addr) (us : List Value) (kw : List (Str × Value)) :
    Env0 P w K mg base (A.under (.builtin "type.__call__" ⟨.ref C :: us, kw⟩)) outer s H := ⟨by first | exact e.frames | (simpa [Around.under, Code.envs, Code.isFrame, pushEnvs] using e.frames), e.mod, e.bs, e.bsz, e.funs, e.frf, e.hok, e.bare⟩
section
variable {X : Cx} {pins : List (Addr × Obj)} {σ : St} {H : Hp} {s s' : Shared}
/-- from a body: what a callee wants -/
theorem Inv.env0 (I : Inv X pins σ H s) : Env0 X.prog X.w X.K X.mg X.base X.A X.stack s H :=
  ⟨I.ok.frames, I.ok.mod, I.bs, Nat.le_trans I.ok.bsz I.sz, I.stack, I.stkFree, I.hok, I.bare⟩
/-- behind a call -/
theorem Inv.after {Q : VK} {u : Value} (I : Inv X pins σ H s) (h : CE X.stack X.prog X.w H s Q u s') : EP X pins σ Q u s' := by
  obtain ⟨v, H', os, bare, un, hok, r, q⟩ := h
  obtain ⟨hh, g, d, t, os'⟩ := s'
  obtain rfl : os' = s.os := os
  exact ⟨v, H', I.call (h' := hh) (g' := g) (d' := d) (t' := t) (ch := []) un hok bare (fun b z => absurd z (by simp)), r, q⟩
end

/-! ### calls -/
/-- f(..): the written arguments, then the defaults dvs; E: what is wanted of an exception -/
def tCall (sp : Sp) (dvs : List V) (E : XK) (t : TA) : TE := fun σ H Q => t σ H fun vs H1 => sp (vs ++ dvs) H1 Q E
/-- o.m(..) of an instance of the class at C -/
def tMeth (C : Addr) (m : Str) (sp : Sp) (dvs : List V) (E : XK) (ta : TE) (t : TA) : TE := fun σ H Q => ta σ H fun x H1 => ∃ a dx fs, x = .ref a ∧ H1 a = some (.ins C dx fs) ∧ fs.lookup m = none ∧
  t σ H1 fun vs H2 => sp (x :: (vs ++ dvs)) H2 Q E
/-- C(..): a new instance and its dict, then __init__ -/
def tMake (C : Addr) (sp : Sp) (dvs : List V) (E : XK) (t : TA) : TE := fun σ H Q => t σ H fun vs H1 => ∀ x dx, H1 x = none → H1 dx = none → dx ≠ x →
  sp (.ref x :: (vs ++ dvs)) (upd (upd H1 dx (.own x)) x (.ins C dx [])) (fun v H2 => v = .non ∧ Q (.ref x) H2) E

/-- how the parameters are bound: us the positional arguments, kw the keywords' values by name, ds the defaults that fill up -/
def Binds (K : PySem.W.Frag) (fd : FuncData) (ps : List Str) (ds : List Value) : Prop :=
  ∀ (s : Shared) (us : List Value), K.In s.heap → (us ++ ds).length = ps.length → BindsTo s fd ⟨us, []⟩ (ps.zip (us ++ ds))
/-- every parameter is given -/
theorem Binds.all {K : PySem.W.Frag} {fd : FuncData} {ps : List Str} (h : ∀ us : List Value, us.length = ps.length → bindArgs fd ⟨us, []⟩ = pure (ps.zip us)) : Binds K fd ps [] := fun s us _ hl => by
  rw [List.append_nil] at hl ⊢
  exact .of_eq (h us hl)

/-- an exception of a callee reaches what this body wants of exceptions -/
def Passes (CX : CXT) (X : Cx) (E : XK) : Prop := ∀ (pins : List (Addr × Obj)) (σ : St) (H : Hp) (s : Shared) (e : Value) (s' : Shared), Inv X pins σ H s → CX X.stack H s E e s' → X.xe e s'

section
variable {X : Cx} {CX : CXT} {k : Nat} {f C : Addr} {fd : FuncData} {ps : List Str} {sp : Sp} {dvs : List V} {ds : List Value} {E : XK} {x m : Str} {p pos apos : Pos} {e o : Expr} {es : List Expr} {ta : TE} {t : TA}

/-- the callee runs -/
theorem run_fn {pins : List (Addr × Obj)} {σ : St} {H : Hp} {s : Shared} {Q : VK} {us : List Value} {vs : List V} (F : FnOk X.prog X.w X.K X.mg X.base CX k f fd ps sp) (hr : Room k X.A) (hb : Binds X.K fd ps ds) (hd : Vals dvs ds) (hx : Passes CX X E)
    (I : Inv X pins σ H s) (r : Vals vs us) (h : sp (vs ++ dvs) H Q E) : wpAny (model X.prog X.w) X.A (call (.ref f) us) (EP X pins σ Q) X.xe s := by
  have r2 : Vals (vs ++ dvs) (us ++ ds) := r.append hd
  have hl : (us ++ ds).length = ps.length := by rw [← r2.length]; exact F.len _ _ _ _ h
  refine wpAny_call (codeAny_mono (F.run X.A X.stack s H ⟨us, []⟩ (us ++ ds) (vs ++ dvs) Q E hr I.env0 (hb s us I.kIn hl) r2 h) fun r s' hq => ?_)
  cases r with
  | error e => exact hx pins σ H s e s' I hq
  | ok fl =>
    cases fl with
    | ret u => exact I.after hq
    | next => exact False.elim hq
    | brk => exact False.elim hq
    | cont => exact False.elim hq

theorem pe_call (F : FnOk X.prog X.w X.K X.mg X.base CX k f fd ps sp) (hr : Room k X.A) (hg : Gl X x) (hm : X.mg x = some (.ref f)) (hk : PySem.W.keepIn X.K (.ref f) = true) (hb : Binds X.K fd ps ds) (hd : Vals dvs ds) (hx : Passes CX X E)
    (ha : PA X (e :: es) t) (hdb : (x == ("__debug__" : Str)) = false := by decide) (he : starEach (e :: es) X.env = (false, eval e X.env) :: starEach es X.env := by rfl) (hpl : (backTo pos (starEach es X.env)).any (·.1) = false := by rfl) :
    PE X (.Call (.Name x p) (e :: es) [] pos) (tCall sp dvs E t) := by
  intro pins s σ H Q I h
  refine wpAny_Call_Name_kw (ld_glob I hg hm ?_ hdb)
  refine PySem.W.callWith_K (h₀ := X.base) I.ok.mod.kin hk (thn (ha pos pins s σ H _ I h) fun us s1 ⟨vs, H1, I1, r, q⟩ => ⟨I1.kIn, ?_⟩) he hpl
  exact run_fn F hr hb hd hx I1 r q
/-- o.m(e, ..) -/
theorem pe_meth {pl : Sem Bool} (he : PE X o ta) (c : Cls X.K C) (hm : Meth X.K C m f) (F : FnOk X.prog X.w X.K X.mg X.base CX k f fd ps sp) (hr : Room k X.A) (hb : Binds X.K fd ps ds) (hd : Vals dvs ds) (hx : Passes CX X E) (ha : PA X (e :: es) t)
    (hst : starEach (e :: es) X.env = (false, eval e X.env) :: starEach es X.env := by rfl) (hpl : (backTo pos (starEach es X.env)).any (·.1) = false := by rfl)
    (ht : eval (.Call (.Attribute o m apos) (e :: es) [] pos) X.env = (do
      let ov ← eval o X.env
      standAt apos.atName
      let (f, first) ← holding [ov] (getMethod ov m pl)
      callWith pos f first (backTo pos (starEach (e :: es) X.env)) (backToKw pos (keywordEach [] X.env))) := by rfl) :
    PE X (.Call (.Attribute o m apos) (e :: es) [] pos) (tMeth C m sp dvs E ta t) := by
  intro pins s σ H Q I h
  refine PySem.W.methodCall_KW (pl := pl) (thn (he pins s σ H _ I h) fun u s1 ⟨x, H1, I1, rx, a, dx, fs, ex, ea, l, q⟩ => ?_) ht
  subst ex
  obtain rfl : u = Value.ref a := rx
  refine getmeth_ok I1 ea c hm l ?_
  refine PySem.W.callWith_K (first := [.ref a]) (h₀ := X.base) I.ok.mod.kin hm.kp (thn (ha pos pins s1 σ H1 _ I1 q) fun us s2 ⟨vs, H2, I2, r, q2⟩ => ⟨I2.kIn, ?_⟩) hst hpl
  exact run_fn (us := .ref a :: us) (vs := .ref a :: vs) F hr hb hd hx I2 (.cons rfl r) q2
/-- what a class must have to be made -/
structure Mk (K : PySem.W.Frag) (C f : Addr) : Prop where
  makes : PySem.W.makesIn K C = true
  init : PySem.W.findIn K (.ref C) "__init__" = some (some (.ref f))
  fn : PySem.W.isFn K (.ref f) = true
  kp : PySem.W.keepIn K (.ref C) = true

theorem run_make {pins : List (Addr × Obj)} {σ : St} {H : Hp} {s : Shared} {Q : VK} {us : List Value} {vs : List V} (M : Mk X.K C f) (F : FnOk X.prog X.w X.K X.mg X.base CX k f fd ps sp) (hr : Room (k + 1) X.A) (hb : Binds X.K fd ps ds) (hd : Vals dvs ds)
    (hx : Passes CX X E) (I : Inv X pins σ H s) (r : Vals vs us)
    (h : ∀ x dx, H x = none → H dx = none → dx ≠ x → sp (.ref x :: (vs ++ dvs)) (upd (upd H dx (.own x)) x (.ins C dx [])) (fun v H2 => v = .non ∧ Q (.ref x) H2) E) :
    wpAny (model X.prog X.w) X.A (call (.ref C) us) (EP X pins σ Q) X.xe s := by
  have hq := h (s.heap.objs.size + 1) s.heap.objs.size (I.hok.fresh (Nat.le_succ _)) (I.hok.fresh (Nat.le_refl _)) (Nat.ne_of_lt (Nat.lt_succ_self _))
  have I2 := Inv.made (C := C) I
  have r2 : Vals (V.ref (s.heap.objs.size + 1) :: (vs ++ dvs)) (Value.ref (s.heap.objs.size + 1) :: (us ++ ds)) := .cons rfl (r.append hd)
  have hl : (Value.ref (s.heap.objs.size + 1) :: us ++ ds).length = ps.length := by
    have e := r2.length
    rw [F.len _ _ _ _ hq] at e
    exact e.symm
  refine wpAny_call (make_map (f := f) I.kIn M.makes M.init (beq_iff_eq.mp M.fn) (codeAny_mono (F.run _ X.stack _ _ ⟨Value.ref (s.heap.objs.size + 1) :: us, []⟩ (Value.ref (s.heap.objs.size + 1) :: (us ++ ds)) _ _ E (hr.make C us [])
    (I2.env0.make C us []) (hb _ (Value.ref (s.heap.objs.size + 1) :: us) I2.kIn hl) r2 hq) fun r s' hq' => ?_))
  cases r with
  | error e => exact hx pins σ _ _ e s' I2 hq'
  | ok fl =>
    cases fl with
    | ret u =>
      obtain ⟨v, H', I3, rv, ev, q3⟩ := I2.after hq'
      subst ev
      exact ⟨rv, ⟨V.ref (s.heap.objs.size + 1), H', I3, rfl, q3⟩⟩
    | next => exact False.elim hq'
    | brk => exact False.elim hq'
    | cont => exact False.elim hq'
theorem pe_make (M : Mk X.K C f) (F : FnOk X.prog X.w X.K X.mg X.base CX k f fd ps sp) (hr : Room (k + 1) X.A) (hg : Gl X x) (hm : X.mg x = some (.ref C)) (hb : Binds X.K fd ps ds) (hd : Vals dvs ds) (hx : Passes CX X E)
    (ha : PA X (e :: es) t) (hdb : (x == ("__debug__" : Str)) = false := by decide) (he : starEach (e :: es) X.env = (false, eval e X.env) :: starEach es X.env := by rfl) (hpl : (backTo pos (starEach es X.env)).any (·.1) = false := by rfl) :
    PE X (.Call (.Name x p) (e :: es) [] pos) (tMake C sp dvs E t) := by
  intro pins s σ H Q I h
  refine wpAny_Call_Name_kw (ld_glob I hg hm ?_ hdb)
  refine PySem.W.callWith_K (h₀ := X.base) I.ok.mod.kin M.kp (thn (ha pos pins s σ H _ I h) fun us s1 ⟨vs, H1, I1, r, q⟩ => ⟨I1.kIn, ?_⟩) he hpl
  exact run_make M F hr hb hd hx I1 r q
end

/-! ### keywords -/
/-- the values of the keywords, from the left -/
def PK (X : Cx) (kws : List Keyword) (t : TA) : Prop :=
  ∀ (pos : Pos) (pins : List (Addr × Obj)) (s : Shared) (σ : St) (H : Hp) (Q : List V → Hp → Prop), Inv X pins σ H s → t σ H Q → wpAny (model X.prog X.w) X.A (evalAll ((backToKw pos (keywordEach kws X.env)).map (·.2))) (AP X pins σ Q) X.xe s
section
variable {X : Cx} {CX : CXT} {k : Nat} {f C : Addr} {fd : FuncData} {ps ks : List Str} {sp : Sp} {E : XK} {x m : Str} {p pos apos kpos : Pos} {e o : Expr} {es : List Expr} {kws : List Keyword} {te ta : TE} {t tk : TA} {nm : Option Str}
/-- how a call with keywords binds: g puts the positional values us and the keywords' values ws (names ks) in the parameters' order, defaults among them -/
structure KBinds (K : PySem.W.Frag) (fd : FuncData) (ps ks : List Str) (g : List Value → List Value → List Value) (gV : List V → List V → List V) : Prop where
  to : ∀ (s : Shared) (us ws : List Value), K.In s.heap → (g us ws).length = ps.length → BindsTo s fd ⟨us, ks.zip ws⟩ (ps.zip (g us ws))
  rel : ∀ {vs : List V} {us : List Value} {zs : List V} {ws : List Value}, Vals vs us → Vals zs ws → Vals (gV vs zs) (g us ws)
def tCallK (sp : Sp) (gV : List V → List V → List V) (E : XK) (t tk : TA) : TE := fun σ H Q => t σ H fun vs H1 => tk σ H1 fun zs H2 => sp (gV vs zs) H2 Q E
variable {g : List Value → List Value → List Value} {gV : List V → List V → List V}
end

/-! ### a def's body keeps its promise -/
/-- names: the parameters first -/
structure FnScope (N P : List Str) (sc : Scope) : Prop where
  kind : sc.kind = .function
  co : sc.isCoroutine = false
  gen : sc.isGenerator = false
  nd : N.Nodup
  pre : N.take P.length = P
  par : ∀ x ∈ P, sc.names.lookup x = some .local ∨ sc.names.lookup x = some .cell
  nofree : ∀ y ∈ sc.names, y.2 ≠ .free

theorem bindL_out {kindOf : Str → Option NameKind} {x : Str} : ∀ {binds : List (Str × Value)} {m : Str → Option Value}, (∀ v, (x, v) ∉ binds) → bindL kindOf binds m x = m x
  | [], _, _ => rfl
  | (n, v) :: r, m, h => by
    unfold bindL
    rw [bindL_out fun w hw => h w (List.mem_cons_of_mem _ hw)]
    split
    · have : x ≠ n := by rintro rfl; exact h v List.mem_cons_self
      simp [this]
    · rfl
theorem bindC_out {kindOf : Str → Option NameKind} {x : Str} : ∀ {binds : List (Str × Value)} {m : Str → Option Value}, (∀ v, (x, v) ∉ binds) → bindC kindOf binds m x = m x
  | [], _, _ => rfl
  | (n, v) :: r, m, h => by
    unfold bindC
    rw [bindC_out fun w hw => h w (List.mem_cons_of_mem _ hw)]
    split
    · rfl
    · have : x ≠ n := by rintro rfl; exact h v List.mem_cons_self
      simp [this]
theorem bindL_get {kindOf : Str → Option NameKind} {x : Str} {v : Value} : ∀ {P : List Str} {vs : List Value} {i : Nat} {m : Str → Option Value}, P.Nodup → P[i]? = some x → vs[i]? = some v → kindOf x = some .local →
    bindL kindOf (P.zip vs) m x = some v
  | [], _, _, _, _, h, _, _ => by simp at h
  | _ :: _, [], _, _, _, _, h, _ => by simp at h
  | p :: P, w :: vs, 0, m, nd, h1, h2, hk => by
    simp at h1 h2; subst h1; subst h2
    show bindL kindOf ((p, w) :: P.zip vs) m p = _
    unfold bindL
    rw [bindL_out fun v hv => (List.nodup_cons.mp nd).1 (List.of_mem_zip hv).1, if_pos hk]
    simp
  | p :: P, w :: vs, i + 1, m, nd, h1, h2, hk => by
    show bindL kindOf ((p, w) :: P.zip vs) m x = _
    unfold bindL
    exact bindL_get (i := i) (List.nodup_cons.mp nd).2 (by simpa using h1) (by simpa using h2) hk
theorem bindC_get {kindOf : Str → Option NameKind} {x : Str} {v : Value} : ∀ {P : List Str} {vs : List Value} {i : Nat} {m : Str → Option Value}, P.Nodup → P[i]? = some x → vs[i]? = some v → kindOf x ≠ some .local →
    bindC kindOf (P.zip vs) m x = some v
  | [], _, _, _, _, h, _, _ => by simp at h
  | _ :: _, [], _, _, _, _, h, _ => by simp at h
  | p :: P, w :: vs, 0, m, nd, h1, h2, hk => by
    simp at h1 h2; subst h1; subst h2
    show bindC kindOf ((p, w) :: P.zip vs) m p = _
    unfold bindC
    rw [bindC_out fun v hv => (List.nodup_cons.mp nd).1 (List.of_mem_zip hv).1, if_neg hk]
    simp
  | p :: P, w :: vs, i + 1, m, nd, h1, h2, hk => by
    show bindC kindOf ((p, w) :: P.zip vs) m x = _
    unfold bindC
    exact bindC_get (i := i) (List.nodup_cons.mp nd).2 (by simpa using h1) (by simpa using h2) hk

/-- the names' values at the entry -/
def start (N : List Str) (vs : List V) : St := vs.map some ++ List.replicate (N.length - vs.length) none

/-- the context of a def's body, at its entry; an exception leaves the frame, then lies as CX says -/
def cxOf (CX : CXT) (P : Program) (w : World) (K : PySem.W.Frag) (mg : Str → Option Value) (base : Heap) (N : List Str) (qual : Str) (scope : Scope) (f : Addr) (cd : Value) (A : Around) (outer : List Env) (s : Shared) (H : Hp) (E : XK) : Cx where
  prog := P
  w := w
  K := K
  mg := mg
  base := base
  A := A.deeper (envOfC qual scope s.heap.objs.size f cd)
  N := N
  s₀ := s
  H₀ := H
  env := envOfC qual scope s.heap.objs.size f cd
  outer := outer
  stack := envOfC qual scope s.heap.objs.size f cd :: outer
  ex := []
  calm := true
  fn := fun _ => true
  pn := []
  xe := fun e s' => wpAny (model P w) (A.deeper (envOfC qual scope s.heap.objs.size f cd)) (leaving (envOfC qual scope s.heap.objs.size f cd) e) (fun _ s'' => CX outer H s E e s'') (fun e' s'' => CX outer H s E e' s'') s'

theorem cell_has {sc : Scope} {n : Nat} {x : Str} (h : sc.names.lookup x = some .cell) : ∃ c, (cellsFrom n sc.names []).lookup x = some c := by
  have q := PySem.W.cellsFrom_some sc.names n [] (.inl h)
  exact Option.isSome_iff_exists.mp q

theorem inv_start {CX : CXT} {P : Program} {w : World} {K : PySem.W.Frag} {mg : Str → Option Value} {base : Heap} {N ps : List Str} {qual : Str} {scope : Scope} {f : Addr} {cd : Value} {A : Around} {outer : List Env} {s s1 : Shared} {H : Hp} {E : XK} {us : List Value} {vs : List V}
    (S : FnScope N ps scope) (hd : A.handled = none) (e0 : Env0 P w K mg base A outer s H) (hl : vs.length = ps.length) (r : Vals vs us)
    (x : InCallC s s.heap.objs.size (bindL (envOfC qual scope s.heap.objs.size f cd).kindOf (ps.zip us) fun _ => none) (cellsFrom (s.heap.objs.size + 1) scope.names []) (bindC (envOfC qual scope s.heap.objs.size f cd).kindOf (ps.zip us) fun _ => none) s1) :
    Inv (cxOf CX P w K mg base N qual scope f cd A outer s H E) [] (start N vs) H s1 := by
  have hpl : ps.length ≤ N.length := by have := congrArg List.length S.pre; rw [List.length_take] at this; omega
  obtain ⟨h1, tk, rfl, hk⟩ := x.done
  have noA : ∀ b : Addr, b ∉ (cxOf CX P w K mg base N qual scope f cd A outer s H E).ex := fun b z => absurd (show b ∈ ([] : List Addr) from z) (by simp)
  refine ⟨⟨e0.mod, S.kind, rfl, rfl, Nat.le_refl _, fun y z c h1 h2 => ?_, fun y hy => ?_, fun y c _ h => ?_, fun _ => hd, Around.frames_deeper e0.frames, .inr ⟨rfl, rfl⟩, fun b z => absurd z (noA b), e0.bs, e0.bsz, fun b _ _ => noA b, fun b z => absurd z (noA b), e0.funs, e0.frf⟩,
    rfl, e0.bare, Un.kept hk, ⟨_, x.toInCall.ns, fun i y v h1 h2 h3 => ?_⟩, fun y c h => ⟨_, x.cell y c h⟩, e0.hok.fresh (Nat.le_refl _), fun y c h => ?_, fun p hp => absurd (show p ∈ ([] : List (Addr × Obj)) from hp) (by simp), e0.hok.kept hk, ?_⟩
  · exact name_of_addr x.apart (PySem.mem_of_lookup h1) (PySem.mem_of_lookup h2)
  · have hy : scope.names.lookup y = some .cell ∨ scope.names.lookup y = some .free := hy
    rcases hy with hy | hy
    · exact cell_has hy
    · exact absurd rfl (S.nofree _ (PySem.mem_of_lookup hy))
  · exact Nat.le_of_lt (x.above y c (PySem.mem_of_lookup h))
  · have hi : i < vs.length := by
      unfold start at h2
      by_cases hi : i < vs.length
      · exact hi
      · rw [List.getElem?_append_right (by simpa using hi)] at h2
        rw [List.getElem?_replicate] at h2
        split at h2 <;> cases h2
    have ha : vs[i]? = some v := by
      unfold start at h2
      rw [List.getElem?_append_left (by simpa using hi), List.getElem?_map] at h2
      cases e : vs[i]? with
      | none => rw [e] at h2; cases h2
      | some a => rw [e] at h2; cases h2; rfl
    obtain ⟨u, hu, rv⟩ := r.get ha
    have hp : ps[i]? = some y := by
      rw [← S.pre, List.getElem?_take_of_lt (by omega)]; exact h1
    have ndP : ps.Nodup := by rw [← S.pre]; exact S.nd.sublist (List.take_sublist _ _)
    refine ⟨u, rv, ?_⟩
    rcases S.par y (List.mem_of_getElem? hp) with k | k
    · exact .inl ⟨k, bindL_get ndP hp hu k⟩
    · obtain ⟨c, e⟩ := cell_has (n := s.heap.objs.size + 1) k
      refine .inr ⟨.inl k, c, e, ?_⟩
      have q := x.cell y c e
      rw [bindC_get ndP hp hu (by show scope.names.lookup y ≠ _; rw [k]; decide)] at q
      exact q
  · exact e0.hok.fresh (Nat.le_of_lt (x.above y c (PySem.mem_of_lookup h)))
  · unfold start
    show _ = N.length
    rw [List.length_append, List.length_map, List.length_replicate]
    omega

/-- THE RULE: a def (or a method) of the text, by its body. The body's reading t is chosen for each entry; it is run at the parameters' values -/
theorem fn_of {CX : CXT} {P : Program} {w : World} {K : PySem.W.Frag} {mg : Str → Option Value} {base : Heap} {k : Nat} {f : Addr} {name qual : Str} {params : Arguments} {body : List Stmt} {scope : Scope} {dV kV doc pm cdv ct oc : Value} {an od : Option Addr}
    {osl : Array (Option Value)} {N ps : List Str} {sp : Sp} (lk : K.lookup f = some ⟨oc, od, .func (PySem.W.fnOf name qual params body scope dV kV doc pm an cdv ct), osl⟩) (hcd : PySem.W.codeIn K cdv qual = true) (S : FnScope N ps scope)
    (len : ∀ vs H Q E, sp vs H Q E → vs.length = ps.length)
    (hbody : ∀ (A : Around) (outer : List Env) (s : Shared) (H : Hp) (vs : List V) (Q : VK) (E : XK), Room k (A.deeper (envOfC qual scope s.heap.objs.size f cdv)) → sp vs H Q E →
      ∃ t, PSs (cxOf CX P w K mg base N qual scope f cdv A outer s H E) body t ∧ t { nx := fun _ H' => Q .non H', rt := Q } (start N vs) H) :
    FnOk P w K mg base CX (k + 1) f (PySem.W.fnOf name qual params body scope dV kV doc pm an cdv ct) ps sp := by
  refine ⟨len, fun A outer s H args us vs Q E hr e0 hb r hsp => ?_⟩
  have hl := len _ _ _ _ hsp
  have KX : K.In s.heap := e0.mod.kin.keeps fun b o e => (e0.bs b o e).1
  have lim : s.heap.NoLimit := e0.mod.nolimit.keeps fun b o e => (e0.bs b o e).1
  have hkind : ∀ y ∈ ps.zip us, scope.names.lookup y.1 = some .local ∨ (scope.names.lookup y.1 = some .cell ∧ ((cellsFrom (s.heap.objs.size + 1) scope.names []).lookup y.1).isSome = true) := fun ⟨n, v⟩ hy => by
    rcases S.par n (List.of_mem_zip hy).1 with q | q
    · exact .inl q
    · exact .inr ⟨q, PySem.W.cellsFrom_some _ _ _ (.inl q)⟩
  refine codeAny_call_function hr.depth (KX _ _ lk) rfl S.co S.gen rfl (PySem.W.codeRec_of KX hcd) (hb _ _ _ _ ?_)
  refine wpAny_newFunctionEnv_cells S.kind hkind fun env he s1 x => ?_
  subst he
  refine ⟨lim.keeps x.toInCall.keep, codeAny_func ?_⟩
  obtain ⟨t, ht, hq⟩ := hbody A outer s H vs Q E (hr.deeper _) hsp
  have I : Inv (cxOf CX P w K mg base N qual scope f cdv A outer s H E) [] (start N vs) H s1 := inv_start S hr.hd e0 hl r x
  refine wpAny_mono (ht [] s1 (start N vs) H _ I hq) (fun fl s' hs => ?_) fun e s' hs => hs
  have fin : ∀ {σ' : St} {H' : Hp} {v : V} {u : Value}, Inv (cxOf CX P w K mg base N qual scope f cdv A outer s H E) [] σ' H' s' → RelV v u → Q v H' → CE outer P w H s Q u s' :=
    fun {σ' H' v u} J rv q => ⟨v, H', J.os, J.bare, J.base, J.hok, rv, q⟩
  cases fl with
  | ret u =>
    obtain ⟨v, σ', H', J, rv, q⟩ := hs
    exact fin J rv q
  | next =>
    obtain ⟨σ', H', J, q⟩ := hs
    exact fin (v := V.non) (u := Value.none) J rfl q
  | brk =>
    obtain ⟨_, _, _, q⟩ := hs
    exact False.elim q
  | cont =>
    obtain ⟨_, _, _, q⟩ := hs
    exact False.elim q
end L2

namespace L2
open PySem PySem.Spec PyProof.Rows
section
variable {X : Cx} {x : Str} {p pos : Pos} {e : Expr} {es : List Expr} {t : TA} {id T : String} {r : List V → Hp → VK → Prop}

def tCB (r : List V → Hp → VK → Prop) (t : TA) : TE := fun σ H Q => t σ H fun vs H1 => r vs H1 Q
/-- f(e, ..), f a built-in function -/
theorem pe_callB (hc : CallR X (.builtin id) r) (hg : Gl X x) (hm : X.mg x = none) (hv : bootBuiltins x = some (.builtin id)) (ha : PA X (e :: es) t) (hn : x ≠ "__name__" := by decide) (hdb : (x == ("__debug__" : Str)) = false := by decide)
    (he : starEach (e :: es) X.env = (false, eval e X.env) :: starEach es X.env := by rfl) (hpl : (backTo pos (starEach es X.env)).any (·.1) = false := by rfl) : PE X (.Call (.Name x p) (e :: es) [] pos) (tCB r t) := by
  intro pins s σ H Q I h
  refine wpAny_Call_Name_kw (ld_blt I hg hm hv ?_ hn hdb)
  exact PyProof.Rows.callWith_builtin1 (thn (ha pos pins s σ H _ I h) fun us s1 ⟨vs, H1, I1, r1, q1⟩ => hc pins s1 σ H1 vs us Q I1 r1 q1) he hpl
/-- T(e, ..), T a built-in type -/
theorem pe_callTy (hc : CallR X (.type T) r) (hg : Gl X x) (hm : X.mg x = none) (hv : bootBuiltins x = some (.type T)) (ha : PA X (e :: es) t) (hn : x ≠ "__name__" := by decide) (hdb : (x == ("__debug__" : Str)) = false := by decide)
    (he : starEach (e :: es) X.env = (false, eval e X.env) :: starEach es X.env := by rfl) (hpl : (backTo pos (starEach es X.env)).any (·.1) = false := by rfl) : PE X (.Call (.Name x p) (e :: es) [] pos) (tCB r t) := by
  intro pins s σ H Q I h
  refine wpAny_Call_Name_kw (ld_blt I hg hm hv ?_ hn hdb)
  exact PyProof.Rows.callWith_type1 (thn (ha pos pins s σ H _ I h) fun us s1 ⟨vs, H1, I1, r1, q1⟩ => hc pins s1 σ H1 vs us Q I1 r1 q1) he hpl
end
end L2

namespace HT
open PySem PyProof.Rows

/-- t < u of tuples of ints -/
def lexLt : List Int → List Int → Bool
  | [], [] => false
  | [], _ :: _ => true
  | _ :: _, [] => false
  | x :: xs, y :: ys => if x = y then lexLt xs ys else decide (x < y)
section
open PySem.SeqAt
open PySem.AutoSeq1 (wpAny_loadPart')
open PySem.MeetsSeq PySem.MeetsSeq2 PySem.MeetsSeq3

end

section
variable {prog : Program} {w : World} {A : Around} {E : Value → Shared → Prop} {s : Shared}

/-! ### t[a:b], not the whole -/
/-- a slice's bound as a place among n (d where it is left out) -/
def sIx (n d : Nat) : Option Int → Nat
  | none => d
  | some v => if v < 0 then (v + (n : Int)).toNat else min v.toNat n
theorem sIx_none (n d : Nat) : sIx n d none = d := rfl
theorem sIx_nat (n d k : Nat) : sIx n d (some (k : Int)) = min k n := by
  show (if (k : Int) < 0 then ((k : Int) + (n : Int)).toNat else min (k : Int).toNat n) = min k n
  rw [if_neg (by omega), Int.toNat_natCast]
theorem sIx_le (n d : Nat) (hd : d ≤ n) (o : Option Int) : sIx n d o ≤ n := by
  cases o with
  | none => exact hd
  | some v =>
    show (if v < 0 then (v + (n : Int)).toNat else min v.toNat n) ≤ n
    by_cases hv : v < 0
    · rw [if_pos hv]; omega
    · rw [if_neg hv]; exact Nat.min_le_right _ _
theorem clip_eq (v : Int) (n d : Nat) : (if v < 0 then max (v + (n : Int)) 0 else min v (n : Int)) = ((sIx n d (some v) : Nat) : Int) := by
  show (if v < 0 then max (v + (n : Int)) 0 else min v (n : Int)) = (((if v < 0 then (v + (n : Int)).toNat else min v.toNat n) : Nat) : Int)
  by_cases hv : v < 0
  · simp only [if_pos hv]; omega
  · simp only [if_neg hv]; omega
theorem adjust_gen (lo hi : Option Int) (n : Nat) : Builtin.Slice.sliceAdjust lo hi 1 (n : Int) = (((sIx n 0 lo : Nat) : Int), ((sIx n n hi : Nat) : Int)) := by
  have h1 : ¬ ((1 : Int) < 0) := by omega
  unfold Builtin.Slice.sliceAdjust
  simp only [h1, if_false]
  refine Prod.ext ?_ ?_
  · cases lo with
    | none => rfl
    | some v => exact clip_eq v n 0
  · cases hi with
    | none => rfl
    | some v => exact clip_eq v n n
theorem places_gen (i j : Nat) : Builtin.Slice.slicePlaces (i : Int) (j : Int) 1 = j - i := by
  unfold Builtin.Slice.slicePlaces
  have h1 : (1 : Int) > 0 := by omega
  simp only [h1, if_true, Int.ediv_one]
  split <;> omega
theorem slicePart_ {v : Value} {o : Option Int} {Q : Option Int → Shared → Prop} (p : IsPart v o) (h : Q o s) : wpAny (model prog w) A (Builtin.Slice.slicePartIndex v) Q E s := by
  cases p with
  | none => exact slicePart_none h
  | int i t => exact slicePart_int h
theorem sliceApplied_gen {sl : Addr} {vl vu : Value} {lo hi : Option Int} {n : Nat} {Q : Int × Int × Nat → Shared → Prop} (hs : s.heap.IsSliceOf sl vl vu .none) (pl : IsPart vl lo) (pu : IsPart vu hi)
    (h : Q (((sIx n 0 lo : Nat) : Int), 1, sIx n n hi - sIx n 0 lo) s) : wpAny (model prog w) A (Builtin.Slice.sliceApplied (.ref sl) (pure (n : Int))) Q E s := by
  obtain ⟨os, hos, hcs, hds⟩ := id hs
  unfold Builtin.Slice.sliceApplied Builtin.Slice.sliceFields
  refine wpAny_bind (wpAny_bind (wpAny_field hos hds (x := vl) rfl (wpAny_bind (wpAny_field hos hds (x := vu) rfl (wpAny_bind (wpAny_field hos hds (x := .none) rfl (wpAny_pure ?_)))))))
  refine wpAny_bind (slicePart_none ?_)
  show wpAny _ _ (if ((1 : Int) == 0) = true then _ else _) _ _ s
  rw [if_neg (by decide)]
  refine wpAny_bind (slicePart_ pl (wpAny_bind (slicePart_ pu (wpAny_bind (wpAny_pure ?_)))))
  show wpAny _ _ (match Builtin.Slice.sliceAdjust lo hi 1 (n : Int) with | (lo, hi) => pure (lo, (1 : Int), Builtin.Slice.slicePlaces lo hi 1)) _ _ s
  rw [adjust_gen lo hi n]
  show wpAny _ _ (pure (((sIx n 0 lo : Nat) : Int), (1 : Int), Builtin.Slice.slicePlaces ((sIx n 0 lo : Nat) : Int) ((sIx n n hi : Nat) : Int) 1)) _ _ s
  rw [places_gen]
  exact wpAny_pure h
theorem pick_gen (xs : Array Value) (i k : Nat) : ((List.range k).filterMap fun (m : Nat) => xs[((i : Int) + (m : Int) * 1).toNat]?).toArray = ((xs.toList.drop i).take k).toArray := by
  have e : (fun (m : Nat) => xs[((i : Int) + (m : Int) * 1).toNat]?) = fun m => xs[i + m]? := by
    funext m
    have : ((i : Int) + (m : Int) * 1).toNat = i + m := by omega
    rw [this]
  rw [e]
  have := pick_run xs i k
  rw [List.filterMap_map] at this
  have e2 : ((fun x => xs[x]?) ∘ fun x => i + x) = fun m => xs[i + m]? := rfl
  rw [e2] at this
  rw [this]

theorem getItem_tuple_cut {t sl : Addr} {items : Array Value} {vl vu : Value} {lo hi : Option Int} {Q : Value → Shared → Prop} (ht : IsTup s.heap t items) (hs : s.heap.IsSliceOf sl vl vu .none) (pl : IsPart vl lo) (pu : IsPart vu hi)
    (hw : ¬ (sIx items.size 0 lo = 0 ∧ sIx items.size items.size hi = items.size))
    (h : Q (.ref s.heap.objs.size) { s with heap := s.heap.push { cls := .type "tuple", data := .seq ((items.toList.drop (sIx items.size 0 lo)).take (sIx items.size items.size hi - sIx items.size 0 lo)).toArray } })
    (hsz : items.size ≤ sizeLine) : wpAny (model prog w) A (getItem (.ref t) (.ref sl)) Q E s := by
  have htake : sizeOk (.seq ((items.toList.drop (sIx items.size 0 lo)).take (sIx items.size items.size hi - sIx items.size 0 lo)).toArray) := by
    show ((items.toList.drop (sIx items.size 0 lo)).take (sIx items.size items.size hi - sIx items.size 0 lo)).toArray.size ≤ sizeLine
    rw [List.size_toArray, List.length_take, List.length_drop, Array.length_toList]
    omega
  have hj : sIx items.size items.size hi ≤ items.size := sIx_le _ _ (Nat.le_refl _) hi
  obtain ⟨os, hos, hcs, hds⟩ := id hs
  have hTs : s.TypeIs (.ref sl) "slice" := ⟨os, hos, hcs⟩
  unfold getItem
  try with_reducible refine wpAny_holding ?_
  first | refine wpAny_bind (wpAny_pure ?_) | skip
  refine wpAny_bind (wpAny_sequenceKey ht.typeIs (by decide) ?_)
  refine wpAny_bind (wpAny_callSpecial?_slot (name := Str.ofString "__getitem__") ht.typeIs PyProof.Rows.slot_tuple_getitem
    (wpAny_call_entry PyProof.Rows.slot_tuple_getitem ht.typeIs entry_tuple_getitem ?_ (args_tuple_getitem _ _)))
  show wpAny _ _ (Builtin.Tuple.tupleItemsOf (.ref t) >>= _) _ _ s
  refine wpAny_bind (tupleItemsOf_ ht ?_)
  refine wpAny_bind (wpAny_typeOf hTs ?_)
  rw [if_pos (by decide)]
  refine wpAny_bind (sliceApplied_gen hs pl pu ?_)
  have hno : ¬ ((((sIx items.size 0 lo : Nat) : Int) == 0 && (1 : Int) == 1 && (sIx items.size items.size hi - sIx items.size 0 lo) == items.size) = true) := by
    intro q
    rw [Bool.and_eq_true, Bool.and_eq_true] at q
    have q1 : ((sIx items.size 0 lo : Nat) : Int) = 0 := eq_of_beq q.1.1
    have q2 : sIx items.size items.size hi - sIx items.size 0 lo = items.size := eq_of_beq q.2
    exact hw ⟨by omega, by omega⟩
  show wpAny _ _ (if (((sIx items.size 0 lo : Nat) : Int) == 0 && (1 : Int) == 1 && (sIx items.size items.size hi - sIx items.size 0 lo) == items.size) = true then _ else _) _ _ s
  rw [if_neg hno, pick_gen]
  first
    | exact wpAny_bind (m := Builtin.Tuple.tupleExact _) (wpAny_newObj_type (wpAny_pure ⟨_, rfl, wpAny_pure h⟩) htake)
    | exact wpAny_bind (m := Builtin.Tuple.tupleExact _) (wpAny_newObj_type (wpAny_bind (wpAny_pure (wpAny_pure ⟨_, rfl, wpAny_pure h⟩))) htake)
    | exact wpAny_bind (wpAny_bind (m := Builtin.Tuple.tupleExact _) (wpAny_newObj_type (wpAny_pure (wpAny_pure ⟨_, rfl, wpAny_pure h⟩)) htake))
    | exact wpAny_bind (wpAny_bind (m := Builtin.Tuple.tupleExact _) (wpAny_newObj_type (wpAny_pure ⟨_, rfl, wpAny_pure h⟩) htake))
end
end HT

namespace L2
open PySem PySem.Spec PyProof.Rows

/-! ### the parts of a slice -/
abbrev TO := St → Hp → (Option Int → Hp → Prop) → Prop
/-- a slice's part (left out, or an int) -/
def PO (X : Cx) (e : Option Expr) (t : TO) : Prop :=
  ∀ (pins : List (Addr × Obj)) (s : Shared) (σ : St) (H : Hp) (Q : Option Int → Hp → Prop), Inv X pins σ H s → t σ H Q →
    wpAny (model X.prog X.w) X.A (evalPart e X.env) (fun u s' => ∃ o H', Inv X pins σ H' s' ∧ IsPart u o ∧ Q o H') X.xe s
def tNoPart : TO := fun _ H Q => Q none H
def tPart (t : TE) : TO := fun σ H Q => t σ H fun x H1 => ∃ i, x = .int i ∧ Q (some i) H1

theorem intsAre_of {ns : List Int} : ∀ {us : List Value}, Vals (ns.map V.int) us → IntsAre us ns := by
  induction ns with
  | nil => intro us r; rw [List.map_nil] at r; cases r; exact .nil
  | cons n ns ih =>
    intro us r
    rw [List.map_cons] at r
    cases r with
    | cons r1 r2 =>
      obtain ⟨t, e⟩ := r1
      subst e
      exact .cons n t (ih r2)

section
variable {X : Cx} {e : Expr} {te : TE} {lo hi : Option Expr} {tl th : TO} {pos p2 : Pos}

theorem po_none : PO X none tNoPart := by
  intro pins s σ H Q I h
  rw [evalPart_none]
  exact wpAny_pure ⟨none, H, I, .none, h⟩
theorem po_some (h : PE X e te) : PO X (some e) (tPart te) := by
  intro pins s σ H Q I hw
  rw [evalPart_some]
  refine thn (h pins s σ H _ I hw) fun u s1 ⟨x, H1, I1, r1, q1⟩ => ?_
  obtain ⟨i, rfl, q⟩ := q1
  obtain ⟨t, rfl⟩ := r1
  exact ⟨some i, H1, I1, .int i t, q⟩

/-- what a slice of a value is, by values: the slice object stands at sl -/
def SlR (X : Cx) (r : V → Option Int → Option Int → Hp → VK → Prop) : Prop :=
  ∀ (pins : List (Addr × Obj)) (s : Shared) (σ : St) (H : Hp) (x : V) (v vl vu : Value) (lo hi : Option Int) (sl : Addr) (Q : VK), Inv X pins σ H s → RelV x v → s.heap.IsSliceOf sl vl vu .none → IsPart vl lo → IsPart vu hi → r x lo hi H Q →
    ∃ T id, typeLookup (.type T) "__getitem__" = pure (some (.builtin id)) ∧ s.TypeIs v T ∧ wpAny (model X.prog X.w) X.A (getItem v (.ref sl)) (EP X pins σ Q) X.xe s
def tSl (r : V → Option Int → Option Int → Hp → VK → Prop) (te : TE) (tl th : TO) : TE := fun σ H Q => te σ H fun x H1 => tl σ H1 fun l H2 => th σ H2 fun u H3 => r x l u H3 Q
/-- a[lo:hi], any a -/
theorem pe_slice {r : V → Option Int → Option Int → Hp → VK → Prop} (hr : SlR X r) (he : PE X e te) (hl : PO X lo tl) (hu : PO X hi th) : PE X (.Subscript e (.Slice lo hi none p2) pos) (tSl r te tl th) := by
  intro pins s σ H Q I h
  refine Subscript_ (thn (he pins s σ H _ I h) fun v s1 ⟨x, H1, I1, r1, q1⟩ => ?_)
  refine wpAny_Slice (thn (hl pins s1 σ H1 _ I1 q1) fun vl s2 ⟨l, H2, I2, pl, q2⟩ => thn (hu pins s2 σ H2 _ I2 q2) fun vu s3 ⟨u, H3, I3, pu, q3⟩ => ?_)
  rw [evalPart_none]
  refine wpAny_pure ?_
  have I4 : Inv X pins σ H3 { s3 with heap := s3.heap.push { cls := .type "slice", data := .fields #[vl, vu, .none] } } := I3.kept (t' := s3.toks) fun b ob q => Heap.get?_push_of_some _ q
  obtain ⟨T, id, hT, ht, hg⟩ := hr pins { s3 with heap := s3.heap.push { cls := .type "slice", data := .fields #[vl, vu, .none] } } σ H3 x v vl vu l u s3.heap.objs.size Q I4 r1 (Heap.IsSliceOf.new ..) pl pu q3
  show wpAny (model X.prog X.w) X.A (subscriptTail e (.Slice lo hi none p2) v (.ref s3.heap.objs.size)) (EP X pins σ Q) X.xe { s3 with heap := s3.heap.push { cls := .type "slice", data := .fields #[vl, vu, .none] } }
  exact tail_any (ops := [.ref s3.heap.objs.size, v]) ht hT hg (by with_unfolding_all rfl)

/-- the items of xs[lo:hi] -/
def cutV (xs : List V) (lo hi : Option Int) : List V := (xs.drop (HT.sIx xs.length 0 lo)).take (HT.sIx xs.length xs.length hi - HT.sIx xs.length 0 lo)
theorem cutV_length (xs : List V) (lo hi : Option Int) : (cutV xs lo hi).length ≤ xs.length := by
  unfold cutV
  rw [List.length_take, List.length_drop]
  omega
/-- t[lo:hi], not the whole of it (the whole would be t itself) -/
def rSlT (K : PySem.W.Frag) : V → Option Int → Option Int → Hp → VK → Prop := fun x lo hi H Q => ∃ a xs, x = .ref a ∧ SqT K H a xs ∧
  ¬ (HT.sIx xs.length 0 lo = 0 ∧ HT.sIx xs.length xs.length hi = xs.length) ∧ ∀ p, H p = none → Q (.ref p) (upd H p (.tup (cutV xs lo hi)))
theorem sl_tup : SlR X (rSlT X.K) := by
  intro pins s σ H x v vl vu lo hi sl Q I rx hs pl pu h
  obtain ⟨a, xs, rfl, hx, hw, q⟩ := h
  cases rx
  obtain ⟨its, r, ht, hz⟩ := I.tuple hx
  have hlen : its.toArray.size = xs.length := by rw [List.size_toArray]; exact r.length.symm
  refine ⟨"tuple", _, PyProof.Rows.slot_tuple_getitem.lookup, ht.typeIs, ?_⟩
  refine HT.getItem_tuple_cut ht hs pl pu (by rw [hlen]; exact hw) ?_ (by rw [hlen]; exact hz)
  rw [hlen]
  refine ⟨.ref s.heap.objs.size, _, I.laid (t' := s.toks) (o := .tup (cutV xs lo hi)) (fun b ob q => Heap.get?_push_of_some _ q) (Nat.le_refl _) ?_, rfl, q _ (I.hok.fresh (Nat.le_refl _))⟩
  exact ⟨Nat.le_trans (cutV_length xs lo hi) hz, _, (r.drop (HT.sIx xs.length 0 lo)).take (HT.sIx xs.length xs.length hi - HT.sIx xs.length 0 lo), IsTup.new _ _⟩

/-! ### t < u, t + u -/
def rLtT (K : PySem.W.Frag) : R2 := fun x y H Q => ∃ a b ns ms, x = .ref a ∧ y = .ref b ∧ SqT K H a (ns.map V.int) ∧ SqT K H b (ms.map V.int) ∧ Q (.bl (HT.lexLt ns ms)) H
/-- t + u, t not empty: u empty gives t itself -/
def rCatT (K : PySem.W.Frag) : R2 := fun x y H Q => ∃ a b xs ys, x = .ref a ∧ y = .ref b ∧ SqT K H a xs ∧ SqT K H b ys ∧ xs ≠ [] ∧ xs.length + ys.length ≤ sizeLine ∧
  (ys = [] → Q (.ref a) H) ∧ (ys ≠ [] → ∀ p, H p = none → Q (.ref p) (upd H p (.tup (xs ++ ys))))
end
end L2

namespace L2
open PySem PySem.Spec PyProof.Rows

/-! ### places -/
/-- the place that an index of any sign means -/
def ixN (n : Nat) (i : Int) : Option Nat := if 0 ≤ i then (if i < n then some i.toNat else none) else if -(n : Int) ≤ i then some (i + n).toNat else none
def atI {α : Type} (xs : List α) (i : Int) : Option α := (ixN xs.length i).bind fun j => xs[j]?
theorem ixN_seq {n : Nat} {i : Int} {j : Nat} (h : ixN n i = some j) : seqIndex? i n = some j ∧ j < n ∧ -(n : Int) ≤ i ∧ i < n := by
  unfold ixN at h
  by_cases h0 : 0 ≤ i
  · rw [if_pos h0] at h
    by_cases h1 : i < n
    · rw [if_pos h1] at h
      have e : i.toNat = j := Option.some.inj h
      exact ⟨by rw [seqIndex_of h0 h1, e], by omega, by omega, h1⟩
    · rw [if_neg h1] at h; cases h
  · rw [if_neg h0] at h
    by_cases h1 : -(n : Int) ≤ i
    · rw [if_pos h1] at h
      have e : (i + n).toNat = j := Option.some.inj h
      exact ⟨by rw [seqIndex_neg (by omega) h1, e], by omega, h1, by omega⟩
    · rw [if_neg h1] at h; cases h
theorem atI_get {α : Type} {xs : List α} {i : Int} {v : α} (h : atI xs i = some v) : ∃ j, seqIndex? i xs.length = some j ∧ xs[j]? = some v ∧ j < xs.length ∧ -(xs.length : Int) ≤ i ∧ i < xs.length := by
  unfold atI at h
  cases e : ixN xs.length i with
  | none => rw [e] at h; cases h
  | some j =>
    rw [e] at h
    obtain ⟨h1, h2, h3, h4⟩ := ixN_seq e
    exact ⟨j, h1, h, h2, h3, h4⟩
theorem atI_nat {α : Type} {xs : List α} {j : Nat} {v : α} (h : xs[j]? = some v) : atI xs (j : Int) = some v := by
  have hj : j < xs.length := (List.getElem?_eq_some_iff.mp h).1
  have e : ixN xs.length (j : Int) = some j := by
    unfold ixN
    rw [if_pos (by omega), if_pos (by omega)]; simp
  unfold atI; rw [e]; exact h
/-! ### what may be subscripted -/
/-- what stands as an index of a plain subscript -/
def PlainIx (b : Expr) : Prop := ∀ o i, subscripted b false o i = operate [o, i] (getItem o i)
/-- a subscript by values -/
def IxR (X : Cx) (r : R2) : Prop :=
  ∀ (value slice : Expr) (pins : List (Addr × Obj)) (s : Shared) (σ : St) (H : Hp) (x y : V) (v u : Value) (Q : VK), Inv X pins σ H s → RelV x v → RelV y u → r x y H Q →
    subscripted slice false v u = operate [v, u] (getItem v u) → wpAny (model X.prog X.w) X.A (subscriptTail value slice v u) (EP X pins σ Q) X.xe s
/-- a call of a builtin's method by values: the receiver, the arguments -/
def MtR (X : Cx) (id : String) (r : V → List V → Hp → VK → Prop) : Prop :=
  ∀ (pins : List (Addr × Obj)) (s : Shared) (σ : St) (H : Hp) (x : V) (xs : List V) (v : Value) (us : List Value) (Q : VK), Inv X pins σ H s → RelV x v → Vals xs us → r x xs H Q →
    wpAny (model X.prog X.w) X.A (call (.builtin id) (v :: us)) (EP X pins σ Q) X.xe s
section
variable {X : Cx} {a b : Expr} {ta tb : TE} {pos : Pos}
/-- a[b] -/
theorem pe_ix {r : R2} (hr : IxR X r) (ha : PE X a ta) (hb : PE X b tb) (hs : PlainIx b) : PE X (.Subscript a b pos) (tOp r ta tb) := by
  intro pins s σ H Q I h
  exact Subscript_ (binT ha hb I h fun v u s2 x y H2 I2 rx ry q => hr a b pins s2 σ H2 x y v u Q I2 rx ry q (hs _ _))

def rIxL (K : PySem.W.Frag) : R2 := fun x y H Q => ∃ p xs i v, x = .ref p ∧ y = .int i ∧ SqL K H p xs ∧ atI xs i = some v ∧ Q v H
def rIxT (K : PySem.W.Frag) : R2 := fun x y H Q => ∃ p xs i v, x = .ref p ∧ y = .int i ∧ SqT K H p xs ∧ atI xs i = some v ∧ Q v H
def rIxS : R2 := fun x y H Q => ∃ z i c, x = .str z ∧ y = .int i ∧ z.length ≤ sizeLine ∧ atI z.cps.toList i = some c ∧ Q (.str ⟨#[c]⟩) H
theorem ix_list : IxR X (rIxL X.K) := by
  intro value slice pins s σ H x y v u Q I rx ry h hs
  obtain ⟨p, xs, i, z, rfl, rfl, hq, he, q⟩ := h
  cases rx
  obtain ⟨t, rfl⟩ := ry
  obtain ⟨its, r, pl, hz⟩ := I.list hq
  obtain ⟨j, h1, h2, h3, h4, h5⟩ := atI_get he
  obtain ⟨w, ew, rw'⟩ := r.get h2
  have hl := r.length
  have hn := line63
  have fin : EP X pins σ Q w s := ⟨z, H, I, rw', q⟩
  by_cases h0 : 0 ≤ i
  · have hj : i.toNat = j := by
      rw [seqIndex_of h0 h5] at h1
      exact Option.some.inj h1
    exact item_listR pl.isList h0 (by omega) (by rw [hj]; simpa using ew) fin hs
  · have hj : (i + (its.toArray.size : Int)).toNat = j := by
      rw [seqIndex_neg (by omega) h4] at h1
      rw [List.size_toArray, ← hl]
      exact Option.some.inj h1
    exact subscriptTail_builtinR (x := w) pl.isList.typeIs slot_list_getitem.lookup
      (wpAny_getItem_list_neg (Q := fun r s' => r = w ∧ EP X pins σ Q r s') pl.isList (by omega) (by rw [List.size_toArray] <;> omega) (by omega) (by rw [hj]; simpa using ew) ⟨rfl, fin⟩) hs
theorem ix_tup : IxR X (rIxT X.K) := by
  intro value slice pins s σ H x y v u Q I rx ry h hs
  obtain ⟨p, xs, i, z, rfl, rfl, hq, he, q⟩ := h
  cases rx
  obtain ⟨t, rfl⟩ := ry
  obtain ⟨its, r, pl, hz⟩ := I.tuple hq
  obtain ⟨j, h1, h2, h3, h4, h5⟩ := atI_get he
  obtain ⟨w, ew, rw'⟩ := r.get h2
  have hl := r.length
  have hn := line63
  have fin : EP X pins σ Q w s := ⟨z, H, I, rw', q⟩
  exact subscriptTail_builtinR (x := w) pl.typeIs slot_tuple_getitem.lookup
    (getItem_tuple (j := j) (Q := fun r s' => r = w ∧ EP X pins σ Q r s') pl (by omega) (by omega) (by rw [List.size_toArray, ← hl]; exact h1) (by simpa using ew) ⟨rfl, fin⟩) hs
theorem ix_str : IxR X rIxS := by
  intro value slice pins s σ H x y v u Q I rx ry h hs
  obtain ⟨z, i, c, rfl, rfl, hz, he, q⟩ := h
  obtain ⟨t, rfl⟩ := rx
  obtain ⟨t', rfl⟩ := ry
  obtain ⟨j, h1, h2, h3, h4, h5⟩ := atI_get he
  have hl : z.cps.toList.length = z.length := by simp [Str.length]
  rw [hl] at h1 h4 h5
  have hn := line63
  exact tail_any (typeIs_str s z t) slot_str_getitem.lookup (getItem_str (c := c) (by
    have e1 : decide (i < -(2 ^ 63 : Int)) = false := decide_eq_false (by omega)
    have e2 : decide (i ≥ 2 ^ 63) = false := decide_eq_false (by omega)
    rw [e1, e2, Bool.or_false]) (by rw [h1]; simpa using h2) ⟨.str ⟨#[c]⟩, H, I.tok _, ⟨_, rfl⟩, q⟩) hs
/-- list, tuple or str -/
def rIx (K : PySem.W.Frag) : R2 := fun x y H Q => rIxL K x y H Q ∨ rIxT K x y H Q ∨ rIxS x y H Q
/-! ### xs[i] = v, any sign -/
def rSetL : V → V → V → Hp → (Hp → Prop) → Prop := fun o i v H Q => ∃ p xs k j, o = .ref p ∧ i = .int k ∧ H p = some (.lst xs) ∧ ixN xs.length k = some j ∧ Q (upd H p (.lst (xs.set j v)))
/-! ### slices -/
theorem slice_bounds (lo hi : Option Int) (n : Nat) : (sliceBounds lo hi none n).1 = ((HT.sIx n 0 lo : Nat) : Int) ∧ (sliceBounds lo hi none n).2.1 = ((HT.sIx n n hi : Nat) : Int) ∧ (sliceBounds lo hi none n).2.2 = 1 := by
  refine ⟨?_, ?_, rfl⟩
  · cases lo with
    | none => simp [sliceBounds, HT.sIx]
    | some i =>
      simp only [sliceBounds, HT.sIx, Option.getD_none, show (1 : Int) > 0 by decide, if_true]
      by_cases h : i < 0
      · simp only [h, if_true] <;> omega
      · simp only [h, if_false] <;> omega
  · cases hi with
    | none => simp [sliceBounds, HT.sIx]
    | some i =>
      simp only [sliceBounds, HT.sIx, Option.getD_none, show (1 : Int) > 0 by decide, if_true]
      by_cases h : i < 0
      · simp only [h, if_true] <;> omega
      · simp only [h, if_false] <;> omega
theorem slicePick_cut (its : List Value) (lo hi : Option Int) : slicePick its.toArray lo hi none = ((its.drop (HT.sIx its.length 0 lo)).take (HT.sIx its.length its.length hi - HT.sIx its.length 0 lo)).toArray := by
  obtain ⟨h1, h2, h3⟩ := slice_bounds lo hi its.toArray.size
  unfold slicePick
  rw [h1, h2, h3]
  simp only [sliceRange_one, pick_run, List.size_toArray] <;> rfl
/-- xs[lo:hi] of a list: a new list -/
def rSlL (K : PySem.W.Frag) : V → Option Int → Option Int → Hp → VK → Prop := fun x lo hi H Q => ∃ a xs, x = .ref a ∧ SqL K H a xs ∧ ∀ p, H p = none → Q (.ref p) (upd H p (.lst (cutV xs lo hi)))
theorem sl_list : SlR X (rSlL X.K) := by
  intro pins s σ H x v vl vu lo hi sl Q I rx hs pl pu h
  obtain ⟨a, xs, rfl, hx, q⟩ := h
  cases rx
  obtain ⟨its, r, ht, hz⟩ := I.list hx
  have hlen := r.length
  refine ⟨"list", _, slot_list_getitem.lookup, ht.isList.typeIs, ?_⟩
  refine wpAny_getItem_list_slice ht.isList hs pl pu .none (by simp) ?_ (by rw [List.size_toArray] <;> omega)
  rw [slicePick_cut, ← hlen]
  refine ⟨.ref s.heap.objs.size, _, I.laid (t' := s.toks) (o := .lst (cutV xs lo hi)) (fun b ob q => Heap.get?_push_of_some _ q) (Nat.le_refl _) ?_, rfl, q _ (I.hok.fresh (Nat.le_refl _))⟩
  exact ⟨Nat.le_trans (cutV_length xs lo hi) hz, _, 0, (r.drop (HT.sIx xs.length 0 lo)).take (HT.sIx xs.length xs.length hi - HT.sIx xs.length 0 lo), Heap.get?_push_size _ rfl⟩

/-! ### in, not in: flat items -/
def flatV : V → Bool
  | .non => true
  | .bl _ => true
  | .int _ => true
  | .str _ => true
  | _ => false
/-- == of flat values -/
def eqV : V → V → Bool
  | .non, .non => true
  | .bl a, .bl b => a == b
  | .bl a, .int b => (if a then 1 else 0) == b
  | .int a, .bl b => a == (if b then 1 else 0)
  | .int a, .int b => a == b
  | .str a, .str b => a == b
  | _, _ => false
theorem eqAt_V {A : Around} {s : Shared} {y x : V} {u v : Value} (ry : RelV y u) (rx : RelV x v) (fy : flatV y = true) (fx : flatV x = true) : SeqAt.EqAt A s u v (eqV y x) := by
  cases y with
  | non =>
    cases ry
    cases x with
    | non => cases rx; exact SeqAt.EqAt.same _
    | bl b => cases rx; exact SeqAt.EqAt.none_bool b
    | int b => obtain ⟨t, rfl⟩ := rx; exact SeqAt.EqAt.none_int b t
    | str b => obtain ⟨t, rfl⟩ := rx; exact SeqAt.EqAt.none_str b t
    | _ => exact absurd (show false = true from fx) Bool.false_ne_true
  | bl a =>
    cases ry
    cases x with
    | non => cases rx; exact SeqAt.EqAt.bool_none a
    | bl b => cases rx; exact SeqAt.EqAt.bool_bool a b
    | int b => obtain ⟨t, rfl⟩ := rx; exact SeqAt.EqAt.bool_int a b t
    | str b => obtain ⟨t, rfl⟩ := rx; exact SeqAt.EqAt.bool_str a b t
    | _ => exact absurd (show false = true from fx) Bool.false_ne_true
  | int a =>
    obtain ⟨t', rfl⟩ := ry
    cases x with
    | non => cases rx; exact SeqAt.EqAt.int_none a t'
    | bl b => cases rx; exact SeqAt.EqAt.int_bool a t' b
    | int b => obtain ⟨t, rfl⟩ := rx; exact SeqAt.EqAt.int_int a t' b t
    | str b => obtain ⟨t, rfl⟩ := rx; exact SeqAt.EqAt.int_str a t' b t
    | _ => exact absurd (show false = true from fx) Bool.false_ne_true
  | str a =>
    obtain ⟨t', rfl⟩ := ry
    cases x with
    | non => cases rx; exact SeqAt.EqAt.str_none a t'
    | bl b => cases rx; exact SeqAt.EqAt.str_bool a t' b
    | int b => obtain ⟨t, rfl⟩ := rx; exact SeqAt.EqAt.str_int a t' b t
    | str b => obtain ⟨t, rfl⟩ := rx; exact SeqAt.EqAt.str_str a t' b t
    | _ => exact absurd (show false = true from fx) Bool.false_ne_true
  | _ => exact absurd (show false = true from fy) Bool.false_ne_true
/-- the items' answers, read off the values (a value's own answer does not lean on its token) -/
def eqU (x : V) (u : Value) : Bool := match u with
  | .none => eqV .non x
  | .bool b => eqV (.bl b) x
  | .int i _ => eqV (.int i) x
  | .str z _ => eqV (.str z) x
  | _ => false
theorem eqU_of {x y : V} {u : Value} (r : RelV y u) (f : flatV y = true) : eqU x u = eqV y x := by
  cases y with
  | non => cases r; rfl
  | bl b => cases r; rfl
  | int i => obtain ⟨t, rfl⟩ := r; rfl
  | str z => obtain ⟨t, rfl⟩ := r; rfl
  | _ => exact absurd (show false = true from f) Bool.false_ne_true
theorem any_eqU {x : V} : ∀ {xs : List V} {us : List Value}, Vals xs us → xs.all flatV = true → us.any (eqU x) = xs.any fun y => eqV y x
  | _, _, .nil, _ => rfl
  | y :: xs, u :: us, .cons r t, f => by
    rw [List.all_cons, Bool.and_eq_true] at f
    rw [List.any_cons, List.any_cons, eqU_of r f.1, any_eqU t f.2]
theorem mem_eqAt {A : Around} {s : Shared} {x : V} {v : Value} (rx : RelV x v) (fx : flatV x = true) : ∀ {xs : List V} {us : List Value}, Vals xs us → xs.all flatV = true → ∀ u ∈ us, SeqAt.EqAt A s u v (eqU x u)
  | _, _, .nil, _ => fun u hu => by cases hu
  | y :: xs, u :: us, .cons r t, f => fun u' hu => by
    rw [List.all_cons, Bool.and_eq_true] at f
    rcases List.mem_cons.mp hu with rfl | hu
    · rw [eqU_of r f.1]; exact eqAt_V r rx f.1 fx
    · exact mem_eqAt rx fx t f.2 u' hu
def inV (x : V) (xs : List V) : Bool := xs.any fun y => eqV y x
/-- x in a list or tuple of flat items -/
def rIn (K : PySem.W.Frag) (neg : Bool) : R2 := fun x y H Q => ∃ p xs, y = .ref p ∧ (SqL K H p xs ∨ SqT K H p xs) ∧ flatV x = true ∧ xs.all flatV = true ∧ Q (.bl (if neg then !inV x xs else inV x xs)) H
theorem op_in_seq : OpR X (compareOp .In) (rIn X.K false) := by
  intro pins s σ H x y v u Q I rx ry h
  obtain ⟨p, xs, rfl, hq, fx, fs, q⟩ := h
  cases ry
  rcases hq with hq | hq
  · obtain ⟨its, r, pl, hz⟩ := I.list hq
    refine SeqAt.in_listAt (eqU x) pl.isList (fun w hw => mem_eqAt rx fx r fs w (by simpa using hw)) ⟨.bl _, H, I, rfl, ?_⟩
    rw [show its.toArray.any (eqU x) = its.any (eqU x) by simp, any_eqU r fs]
    exact q
  · obtain ⟨its, r, pl, hz⟩ := I.tuple hq
    refine SeqAt.in_tupleAt (eqU x) pl (fun w hw => mem_eqAt rx fx r fs w (by simpa using hw)) ⟨.bl _, H, I, rfl, ?_⟩
    rw [show its.toArray.any (eqU x) = its.any (eqU x) by simp, any_eqU r fs]
    exact q
/-! ### len, list(x), tuple(x) of any list or tuple that is read -/
theorem call_len_seq : CallR X (.builtin "len") (fun xs H Q => ∃ p ys, xs = [.ref p] ∧ (SqL X.K H p ys ∨ SqT X.K H p ys) ∧ Q (.int ys.length) H) := by
  intro pins s σ H xs us Q I r h
  obtain ⟨p, ys, rfl, hq, q⟩ := h
  obtain ⟨u, rfl, rx⟩ := vals1 r
  cases rx
  have hn := line63
  rcases hq with hq | hq
  · obtain ⟨its, r', pl, hz⟩ := I.list hq
    have hlen := r'.length
    exact Calls.call_len_list pl.isList (by simp only [List.size_toArray] <;> omega) ⟨.int ys.length, H, I.tok _, ⟨s.toks + 1, by rw [List.size_toArray, hlen]⟩, q⟩
  · obtain ⟨its, r', pl, hz⟩ := I.tuple hq
    have hlen := r'.length
    exact len_tuple pl (by simp only [List.size_toArray] <;> omega) ⟨.int ys.length, H, I.tok _, ⟨s.toks + 1, by rw [List.size_toArray, hlen]⟩, q⟩
theorem call_len_str : CallR X (.builtin "len") (fun xs H Q => ∃ z, xs = [.str z] ∧ z.length ≤ sizeLine ∧ Q (.int z.length) H) := by
  intro pins s σ H xs us Q I r h
  obtain ⟨z, rfl, hz, q⟩ := h
  obtain ⟨u, rfl, t, rfl⟩ := vals1 r
  have hn := line63
  exact len_str (by omega) ⟨.int z.length, H, I.tok _, ⟨_, rfl⟩, q⟩
theorem call_list_of : CallR X (.type "list") (fun xs H Q => ∃ p ys, xs = [.ref p] ∧ (SqL X.K H p ys ∨ SqT X.K H p ys) ∧ ∀ l, H l = none → Q (.ref l) (upd H l (.lst ys))) := by
  intro pins s σ H xs us Q I r h
  obtain ⟨p, ys, rfl, hq, q⟩ := h
  obtain ⟨u, rfl, rx⟩ := vals1 r
  cases rx
  have fin : ∀ (its : List Value), Vals ys its → ys.length ≤ sizeLine → ∀ (h' : Heap) (c' : Nat), (∀ b o', s.heap.get? b = some o' → h'.get? b = some o') →
      h'.get? s.heap.objs.size = some { cls := .type "list", dict := none, data := .seq its.toArray c', slots := #[] } → EP X pins σ Q (.ref s.heap.objs.size) { s with heap := h' } := fun its r' hz h' c' kp e =>
    ⟨.ref s.heap.objs.size, _, I.laid (t' := s.toks) kp (Nat.le_refl _) (show ObjOk X.prog X.w _ h' _ (.lst ys) from ⟨hz, its, c', r', e⟩), rfl, q _ (I.hok.fresh (Nat.le_refl _))⟩
  rcases hq with hq | hq
  · obtain ⟨its, r', pl, hz⟩ := I.list hq
    have hlen := r'.length
    obtain ⟨o, ho, hc, n, hd⟩ := pl.isList
    exact call_list_seq p (.inl rfl) ho hc hd (fun h' c' kp e => fin its r' hz h' c' kp e) (by simp only [List.size_toArray] <;> omega)
  · obtain ⟨its, r', pl, hz⟩ := I.tuple hq
    have hlen := r'.length
    obtain ⟨o, ho, hc, n, hd⟩ := pl
    exact call_list_seq p (.inr rfl) ho hc hd (fun h' c' kp e => fin its r' hz h' c' kp e) (by simp only [List.size_toArray] <;> omega)
theorem call_tuple_of : CallR X (.type "tuple") (fun xs H Q => ∃ p ys, xs = [.ref p] ∧ ((SqL X.K H p ys ∧ ∀ l, H l = none → Q (.ref l) (upd H l (.tup ys))) ∨ (SqT X.K H p ys ∧ Q (.ref p) H))) := by
  intro pins s σ H xs us Q I r h
  obtain ⟨p, ys, rfl, h⟩ := h
  obtain ⟨u, rfl, rx⟩ := vals1 r
  cases rx
  rcases h with ⟨hq, q⟩ | ⟨hq, q⟩
  · obtain ⟨its, r', pl, hz⟩ := I.list hq
    have hlen := r'.length
    refine call_tuple_list pl.isList (fun h' kp => ?_) (by simp only [List.size_toArray] <;> omega)
    have I1 : Inv X pins σ H { s with heap := h' } := I.kept (t' := s.toks) kp
    have I2 : Inv X pins σ (upd H h'.objs.size (.tup ys)) { s with heap := h'.push { cls := .type "tuple", data := .seq its.toArray } } :=
      I1.laid (t' := s.toks) (fun b o e => Heap.get?_push_of_some _ e) (Nat.le_refl _) (show ObjOk X.prog X.w _ _ _ (.tup ys) from ⟨hz, its, r', IsTup.new _ _⟩)
    exact ⟨.ref h'.objs.size, _, I2, rfl, q _ (I1.hok.fresh (Nat.le_refl _))⟩
  · obtain ⟨its, r', pl, hz⟩ := I.tuple hq
    exact call_tuple_same pl ⟨.ref p, H, I, rfl, q⟩

/-! ### the call of a builtin's method: o.m(..) -/
/-- the value is of that builtin type -/
def tyV (K : PySem.W.Frag) (T : String) (x : V) (H : Hp) : Prop := match x with
  | .str _ => T = "str"
  | .int _ => T = "int"
  | .ref p => (T = "list" ∧ ∃ xs, SqL K H p xs) ∨ (T = "tuple" ∧ ∃ o, K.lookup p = some o ∧ o.cls = .type "tuple" ∧ o.dict = none) ∨
      (T = "dict" ∧ ((∃ kvs, H p = some (.dK kvs)) ∨ ∃ kvs, H p = some (.dT kvs))) ∨ (T = "set" ∧ ∃ S n, H p = some (.set S n))
  | _ => False
theorem tyV_is {pins : List (Addr × Obj)} {σ : St} {H : Hp} {s : Shared} {T : String} {x : V} {v : Value} (I : Inv X pins σ H s) (r : RelV x v) (ty : tyV X.K T x H) :
    s.TypeIs v T ∧ ∀ a, v = .ref a → ∃ ob, s.heap.get? a = some ob ∧ ob.dict = none := by
  cases x with
  | str z =>
    obtain ⟨t, rfl⟩ := r
    cases (show T = "str" from ty)
    exact ⟨typeIs_str s z t, fun _ e => nomatch e⟩
  | int i =>
    obtain ⟨t, rfl⟩ := r
    cases (show T = "int" from ty)
    exact ⟨typeIs_int s i t, fun _ e => nomatch e⟩
  | ref p =>
    cases r
    rcases ty with ⟨rfl, xs, hq⟩ | ⟨rfl, o, hk, hc, hd⟩ | ⟨rfl, hk⟩ | ⟨rfl, S, n, hk⟩
    · obtain ⟨its, _, pl, _⟩ := I.list hq
      refine ⟨pl.isList.typeIs, fun a e => ?_⟩
      cases e
      obtain ⟨o, n, e, c, hd, _⟩ := pl
      exact ⟨o, e, hd⟩
    · refine ⟨⟨o, I.kIn p o hk, hc⟩, fun a e => ?_⟩
      cases e
      exact ⟨o, I.kIn _ o hk, hd⟩
    · have z : ∃ o, s.heap.get? p = some o ∧ o.ExactDict := by
        rcases hk with ⟨kvs, hk⟩ | ⟨kvs, hk⟩
        · obtain ⟨_, _, _, _, o, _, _, e, ex, _⟩ := I.hok p _ hk
          exact ⟨o, e, ex⟩
        · obtain ⟨_, _, _, _, o, _, _, e, ex, _⟩ := I.hok p _ hk
          exact ⟨o, e, ex⟩
      obtain ⟨o, e, ex⟩ := z
      refine ⟨⟨o, e, ex.1⟩, fun a e2 => ?_⟩
      cases e2
      exact ⟨o, e, ex.2.1⟩
    · obtain ⟨o, _, _, _, e, ex, _⟩ := I.hok p _ hk
      refine ⟨⟨o, e, ex.1⟩, fun a e2 => ?_⟩
      cases e2
      exact ⟨o, e, ex.2.1⟩
  | _ => exact False.elim ty
def tBM0 (K : PySem.W.Frag) (T : String) (r : V → List V → Hp → VK → Prop) (to : TE) : TE := fun σ H Q => to σ H fun x H1 => tyV K T x H1 ∧ r x [] H1 Q
def tBM (K : PySem.W.Frag) (T : String) (r : V → List V → Hp → VK → Prop) (to : TE) (t : TA) : TE := fun σ H Q => to σ H fun x H1 => tyV K T x H1 ∧ t σ H1 fun xs H2 => r x xs H2 Q
variable {o e : Expr} {es : List Expr} {to : TE} {t : TA} {name : Str} {apos cpos : Pos} {T id : String} {r : V → List V → Hp → VK → Prop}
theorem pe_bm0 (pa : PlainAttrs T) (slot : Slot T name id) (hty : typeOf (.builtin id) = pure (.type "method_descriptor")) (hm : MtR X id r) (ho : PE X o to)
    (hbase : attributeBase o name X.env (eval o X.env) = eval o X.env := by rfl) (hline : (apos.endLine == cpos.line) = true := by rfl) : PE X (.Call (.Attribute o name apos) [] [] cpos) (tBM0 X.K T r to) := by
  intro pins s σ H Q I h
  refine wpAny_Call_method0_late hbase hline (thn (ho pins s σ H _ I h) fun v s1 ⟨x, H1, I1, r1, ty, q1⟩ => ?_)
  obtain ⟨h1, h2⟩ := tyV_is I1 r1 ty
  exact ⟨T, id, pa, slot, hty, h1, h2, Calls.callWith_builtin rfl (PySem.evalArgs_none (hm pins s1 σ H1 x [] v [] Q I1 r1 .nil q1))⟩
theorem pe_bm (pa : PlainAttrs T) (slot : Slot T name id) (hty : typeOf (.builtin id) = pure (.type "method_descriptor")) (hm : MtR X id r) (ho : PE X o to) (ha : PA X (e :: es) t)
    (hbase : attributeBase o name X.env (eval o X.env) = eval o X.env := by rfl)
    (hfew : ((backTo cpos (starEach (e :: es) X.env)).all (fun x => !x.1) && (backToKw cpos (keywordEach [] X.env)).all (fun x => x.1.isSome)
      && decide ((e :: es).length + ([] : List Keyword).length + (if ([] : List Keyword).isEmpty then 0 else 1) < 30)) = true := by rfl)
    (hline : (apos.endLine == cpos.line) = true := by rfl) (hs : starEach (e :: es) X.env = (false, eval e X.env) :: starEach es X.env := by rfl) (hplain : (backTo cpos (starEach es X.env)).any (·.1) = false := by rfl) :
    PE X (.Call (.Attribute o name apos) (e :: es) [] cpos) (tBM X.K T r to t) := by
  intro pins s σ H Q I h
  refine wpAny_Call_method_late hbase hfew hline rfl (thn (ho pins s σ H _ I h) fun v s1 ⟨x, H1, I1, r1, ty, q1⟩ => ?_)
  obtain ⟨h1, h2⟩ := tyV_is I1 r1 ty
  refine ⟨T, id, pa, slot, hty, h1, h2, ?_⟩
  have hA := ha cpos pins s1 σ H1 _ I1 q1
  rw [hs] at hA ⊢
  refine Calls.callWith_builtin (by show (false || (backTo cpos (starEach es X.env)).any (·.1)) = false; rw [hplain] <;> rfl) (Calls.evalArgs_plain ?_)
  exact thn hA fun us s2 ⟨vs, H2, I2, r2, q2⟩ => hm pins s2 σ H2 x vs v us Q I2 r1 r2 q2
/- xs.append(e), list.index on a module's tuple .. are MtR facts of 06m -/
end
end L2

namespace L2
open PySem PySem.Spec PyProof.Rows

def MtM (X : Cx) (id : String) (r : V → List V → Hp → VK → Prop) : Prop :=
  ∀ (pins : List (Addr × Obj)) (s : Shared) (σ : St) (H : Hp) (x : V) (xs : List V) (v : Value) (us : List Value) (Q : VK), Inv X pins σ H s → RelV x v → Vals xs us → r x xs H Q →
    wpAny (model X.prog X.w) X.A (call (.builtin id) (v :: us)) (EP X pins σ Q) X.xe s

/-! ### lists of values -/
theorem Vals.one : ∀ {x : V} {us : List Value}, Vals [x] us → ∃ u, us = [u] ∧ RelV x u
  | _, _, .cons r .nil => ⟨_, rfl, r⟩
theorem Vals.two : ∀ {x y : V} {us : List Value}, Vals [x, y] us → ∃ u v, us = [u, v] ∧ RelV x u ∧ RelV y v
  | _, _, _, .cons r (.cons q .nil) => ⟨_, _, rfl, r, q⟩
theorem Vals.zero : ∀ {us : List Value}, Vals [] us → us = []
  | _, .nil => rfl
theorem Vals.reverse {xs : List V} {us : List Value} (h : Vals xs us) : Vals xs.reverse us.reverse := by
  induction h with
  | nil => exact .nil
  | cons r t ih => rw [List.reverse_cons, List.reverse_cons]; exact Vals.append ih (.cons r .nil)
section
variable {X : Cx} {pins : List (Addr × Obj)} {σ : St} {H : Hp} {s : Shared} {l b : Addr} {xs ys zs : List V}

/-! ### the two steps: a tracked list is rewritten, a new list is laid -/
theorem Inv.lset {its its' : List Value} {n : Nat} {f : Array Value → Array Value} {t' : Nat} (I : Inv X pins σ H s) (hH : H l = some (.lst xs))
    (e : s.heap.get? l = some { cls := .type "list", data := .seq its.toArray n }) (hf : f its.toArray = its'.toArray) (hv : Vals ys its') (hz : ys.length ≤ sizeLine) :
    Inv X pins σ (upd H l (.lst ys)) { s with heap := s.heap.update l (Obj.mapSeq f), toks := t' } := by
  have q := PySem.IsL.update e f
  rw [hf] at q
  refine I.write (x := l) (e := l) (by rw [hH]; exact trivial) (.inl rfl) (fun b' u hb hu => (Heap.get?_update_other s.heap (Obj.mapSeq f) (Ne.symm hb)).trans hu) ⟨_, q⟩ ?_
  exact ⟨hz, its', _, hv, q⟩
theorem Inv.lnew {its : List Value} {t' : Nat} (I : Inv X pins σ H s) (hv : Vals ys its) (hz : ys.length ≤ sizeLine) :
    Inv X pins σ (upd H s.heap.objs.size (.lst ys)) { s with heap := s.heap.push { cls := .type "list", data := .seq its.toArray }, toks := t' } :=
  I.laid (fun _ _ q => Heap.get?_push_of_some _ q) (Nat.le_refl _) ⟨hz, its, 0, hv, Heap.get?_push_size _ rfl⟩
theorem Inv.fresh (I : Inv X pins σ H s) : H s.heap.objs.size = none := I.hok.fresh (Nat.le_refl _)
theorem Inv.lstM (I : Inv X pins σ H s) (hH : H l = some (.lst xs)) : xs.length ≤ sizeLine ∧ ∃ (its : List Value) (n : Nat), Vals xs its ∧ xs.length = its.length ∧ s.heap.get? l = some { cls := .type "list", data := .seq its.toArray n } := by
  obtain ⟨z, its, n, r, e⟩ := I.hok l _ hH
  exact ⟨z, its, n, r, r.length, e⟩

theorem notLongL {n : Nat} (h : n ≤ sizeLine) : Builtin.List.listTooLong n = false := by
  unfold Builtin.List.listTooLong
  exact decide_eq_false (by omega)
end

section
variable {X : Cx}

/-! ### methods -/
def rAppend : V → List V → Hp → VK → Prop := fun x vs H Q => ∃ l xs y, x = .ref l ∧ vs = [y] ∧ H l = some (.lst xs) ∧ xs.length < sizeLine ∧ Q .non (upd H l (.lst (xs ++ [y])))
theorem mt_append : MtM X "list.append" rAppend := by
  intro pins s σ H x vs v us Q I rx rv h
  obtain ⟨l, xs, y, rfl, rfl, hH, hz, q⟩ := h
  cases rx
  obtain ⟨u, rfl, ru⟩ := rv.one
  obtain ⟨z, its, n, r, hl, e⟩ := I.lstM hH
  refine call_meets F.slot_list_append ⟨_, e, rfl⟩ F.entry_list_append (F.args_list_append_2 _ _) (PySem.list_append l its.toArray n u (by rw [List.size_toArray]; omega)) ⟨e, ?_⟩
  refine ⟨.non, _, I.lset (its' := its ++ [u]) hH e (by simp) (r.append (.cons ru .nil)) ?_, rfl, q⟩
  rw [List.length_append, List.length_singleton]
  omega

def rExtend : V → List V → Hp → VK → Prop := fun x vs H Q => ∃ l b xs zs, x = .ref l ∧ vs = [.ref b] ∧ H l = some (.lst xs) ∧ H b = some (.lst zs) ∧ xs.length + zs.length ≤ sizeLine ∧ Q .non (upd H l (.lst (xs ++ zs)))
theorem mt_extend : MtM X "list.extend" rExtend := by
  intro pins s σ H x vs v us Q I rx rv h
  obtain ⟨l, b, xs, zs, rfl, rfl, hH, hB, hz, q⟩ := h
  cases rx
  obtain ⟨u, rfl, ru⟩ := rv.one
  cases ru
  obtain ⟨z, its, n, r, hl, e⟩ := I.lstM hH
  obtain ⟨z2, its2, n2, r2, hl2, e2⟩ := I.lstM hB
  have hsz : its.toArray.size + its2.toArray.size ≤ sizeLine := by rw [List.size_toArray, List.size_toArray]; omega
  have hlong : ¬ (!its.toArray.isEmpty && Builtin.List.listTooLong (its.toArray.size + its2.toArray.size)) = true := by
    rw [notLongL hsz, Bool.and_false]
    exact Bool.false_ne_true
  refine call_meets F.slot_list_extend ⟨_, e, rfl⟩ F.entry_list_extend (F.args_list_extend_2 _ _)
    (AutoSeq1.list_extend_list_list_0 l its.toArray n b its2.toArray n2 hlong (by rw [List.size_toArray]; omega) (by omega)) ⟨e, e2, ?_⟩
  refine ⟨.non, _, I.lset (its' := its ++ its2) hH e (by simp) (r.append r2) ?_, rfl, q⟩
  rw [List.length_append]
  omega

def rPop : V → List V → Hp → VK → Prop := fun x vs H Q => ∃ l xs y, x = .ref l ∧ vs = [] ∧ H l = some (.lst xs) ∧ xs[xs.length - 1]? = some y ∧ Q y (upd H l (.lst xs.dropLast))
def rPopAt : V → List V → Hp → VK → Prop := fun x vs H Q => ∃ l xs i k y, x = .ref l ∧ vs = [.int i] ∧ H l = some (.lst xs) ∧ -(2 ^ 63) ≤ i ∧ i < 2 ^ 63 ∧ seqIndex? i xs.length = some k ∧ xs[k]? = some y ∧ Q y (upd H l (.lst (xs.eraseIdx k)))
def rReverse : V → List V → Hp → VK → Prop := fun x vs H Q => ∃ l xs, x = .ref l ∧ vs = [] ∧ H l = some (.lst xs) ∧ Q .non (upd H l (.lst xs.reverse))
def rClear : V → List V → Hp → VK → Prop := fun x vs H Q => ∃ l xs, x = .ref l ∧ vs = [] ∧ H l = some (.lst xs) ∧ Q .non (upd H l (.lst []))
/-! ### list + list, list += list, list * int -/
def rCat : R2 := fun x y H Q => ∃ l b xs zs, x = .ref l ∧ y = .ref b ∧ H l = some (.lst xs) ∧ H b = some (.lst zs) ∧ xs.length + zs.length ≤ sizeLine ∧ ∀ p, H p = none → Q (.ref p) (upd H p (.lst (xs ++ zs)))
theorem op_cat : OpR X (binaryOp .Add) rCat := by
  intro pins s σ H x y v u Q I rx ry h
  obtain ⟨l, b, xs, zs, rfl, rfl, hH, hB, hz, q⟩ := h
  cases rx
  cases ry
  obtain ⟨z, its, n, r, hl, e⟩ := I.lstM hH
  obtain ⟨z2, its2, n2, r2, hl2, e2⟩ := I.lstM hB
  refine PySem.P.add_list e e2 ?_ (by rw [List.size_toArray, List.size_toArray]; omega)
  have ea : its.toArray ++ its2.toArray = (its ++ its2).toArray := by simp
  rw [ea]
  exact ⟨.ref _, _, I.lnew (t' := s.toks) (r.append r2) (by rw [List.length_append]; omega), rfl, q _ I.fresh⟩
/-- a list times an int (a negative one is nothing) -/
def rRep : R2 := fun x y H Q => ∃ l k xs, x = .ref l ∧ y = .int k ∧ H l = some (.lst xs) ∧ -(2 ^ 63) ≤ k ∧ k < 2 ^ 63 ∧ xs.length * k.toNat ≤ sizeLine ∧
  ∀ p, H p = none → Q (.ref p) (upd H p (.lst (List.replicate k.toNat xs).flatten))
/-! ### del xs[i] -/
end

/-! ### xs[a:b] = ys -/
section
variable {prog : Program} {w : World} {A : Around} {E : Value → Shared → Prop} {s : Shared}
end

section
variable {X : Cx}
end
end L2

namespace Att
open PySem PySem.W PySem.Calls PyProof.Rows

/-! ### the script -/
theorem ints_of_wellAll {P : Params} {h : Heap} : ∀ (ns : List Int) (vs : List Value), WellAll P h vs (ns.map WData.int) → IntsAre vs ns := by
  intro ns
  induction ns with
  | nil =>
    intro vs w
    rw [List.map_nil] at w
    cases w
    exact .nil
  | cons n ns ih =>
    intro vs w
    rw [List.map_cons] at w
    cases w with
    | cons a b =>
      cases a
      exact .cons _ _ (ih _ b)

theorem script_of {l : OpenLaw} {n : Nat} (hn : l.most = some n) {P : Params} {h : Heap} {args : List WData} {vals : List Value}
    (hpre : l.row.toRowW.claim.pre args = true) (hwl : WellAll P h vals args) :
    ∃ a vs ns, vals = [Value.ref a] ∧ args = [WData.list (ns.map WData.int)] ∧ h.get? a = some { cls := .type "list", data := .seq vs.toArray } ∧ IntsAre vs ns ∧ ns.length ≤ n := by
  have hsh : WShape.hasAll [] args [.list .int] = true := (pre_splitW hpre).1
  have hc : l.pre.holds [] { args := args } = true := (pre_splitW hpre).2
  obtain ⟨d, r, rfl, h1, h2⟩ := hasAllW_cons hsh
  obtain rfl := hasAllW_nil h2
  obtain ⟨xs, rfl, h3⟩ := hasW_list h1
  obtain ⟨ns, rfl⟩ := items_int h3
  have hlen : ns.length ≤ n := by
    unfold OpenLaw.pre at hc
    have h4 : (WTm.not (.lt (.lit (.int (n : Int))) (.len (.arg 0)))).holds [] { args := [.list (ns.map .int)] } = true := by
      have h4 := (holds_andW hc).1
      rw [hn] at h4
      exact h4
    have h5 := condW_of h4 (w_not (w_lt w_lit (w_len_list (w_arg rfl))))
    rw [List.length_map] at h5
    refine Nat.le_of_not_lt fun q => ?_
    have q' : (n : Int) < ((ns.length : Nat) : Int) := by omega
    first
      | (rw [decide_eq_true q'] at h5; exact absurd h5 (by decide))
      | (simp at h5; omega)
  cases hwl with
  | cons w1 w2 =>
    cases w2
    cases w1 with
    | list ho hall => exact ⟨_, _, ns, rfl, rfl, ho, ints_of_wellAll ns _ hall, hlen⟩

theorem post_true (l : OpenLaw) (args : List WData) : l.row.toRowW.claim.post args (.bool true) args = true :=
  postW_of (r := l.row.toRowW) (X := (true == true))
    (show WShape.has [] (.bool true) .bool = true by first | rfl | decide | simp [WShape.has, WShape.arms, WShape.armsAll])
    (show (WTm.eq .res (.lit (.bool true))).value [] { args := args, res := some (.bool true), after := args } = some (.bool (true == true)) from w_eq_bool (w_res rfl) w_lit) rfl

/-! ### the attachment: holds_open's last premise (the goal 'hc' behind k_head) from a wpAny of the law's body -/
/-- the same from a codeAny of the CALL (for a layer whose function contracts speak of calls) -/
theorem attach_call {l : OpenLaw} {n : Nat} {q : Program} {loose : List Str} {XP : (Str → Option Value) → Heap → Prop} {YP : World → Heap → Prop} {d : DefRec}
    (hn : l.most = some n) (hdf : d.params.defaults = [])
    (call : ∀ (w : World) (s₀ s₁ : Shared) (mg mb : Str → Option Value) (fa : Addr) (o : Obj) (pm cd doc : Value) (a : Addr) (vs : List Value) (ns : List Int),
      Ground q loose [] XP w s₀ mg mb s₁.heap → YP w s₁.heap →
      s₁.heap.get? fa = some o → o.data = .func (docDef d.name d.params d.body d.scope pm cd doc) → s₁.heap.CodeRec cd d.name → mg d.name = some (.ref fa) →
      s₁.heap.get? a = some { cls := .type "list", data := .seq vs.toArray } → IntsAre vs ns → ns.length ≤ n → s₁.gens = #[] →
      codeAny (model l.prog w) callerA (.call (.ref fa) ⟨[.ref a], []⟩) (fun r s' => r = .ok (.ret (.bool true)) ∧ OldK s₁.heap s'.heap ∧ s'.os = s₁.os ∧ AllBare s'.gens) s₁) :
    WalkO q loose XP YP l.row.toRowW d [] (fun f vs => PySem.call f vs) := by
  intro w s₀ s₁ mg mb G Y fa o pm cd doc dV kV ho hd hcd hD hmg hg args vals as hpre hlay hrd hwl hlo
  obtain rfl : dV = .none := Dflts.none hD hdf
  obtain rfl : kV = .none := Dflts.noKw hD
  obtain ⟨a, vs, ns, rfl, rfl, hobj, hints, hlen⟩ := script_of hn hpre hwl
  refine enter_call (codeAny_mono (call w s₀ s₁ mg mb fa o pm cd doc a vs ns G Y ho (fd_plain hd) hcd hmg hobj hints hlen hg) fun r s' hq => ?_)
  obtain ⟨rfl, h2, h3, h4⟩ := hq
  exact ⟨.inl ⟨.bool true, .bool true, [], rfl, fun _ => rfl, .bool true, post_true l _, fun _ => ⟨List.Pairwise.nil, fun _ hm => (nomatch hm)⟩⟩, h2, h3, h4⟩

/-! ### rules over ANY heap (no ledger) from facts about the written part K: the library's own take a ledger (News) for what they write -/
section
variable {prog : Program} {w : World} {A : Around} {E : Value → Shared → Prop} {s : Shared} {K : Frag}

/-! the whole heap as the ledger: makes every rule that writes through a ledger a rule over any heap -/
def noObjs (h : Heap) : Heap := { h with objs := #[] }
def ledger (h : Heap) (L d : Addr) : List (Addr × Obj) := (List.range h.objs.size).filterMap fun a => if a = L ∨ a = d then none else (h.get? a).map fun o => (a, o)
end
end Att

namespace L2
open PySem PySem.Spec PyProof.Rows

theorem vals_ints : ∀ {vs : List Value} {ns : List Int}, IntsAre vs ns → Vals (ns.map V.int) vs
  | _, _, .nil => .nil
  | _, _, .cons n t h => .cons ⟨t, rfl⟩ (vals_ints h)

/-- nothing is tracked but the script, known to the object (or it is an object of the module) -/
def Only (H : Hp) : Prop := ∀ b, H b = none ∨ ∃ o xs, H b = some (.frz o (.lst xs))

/-- THE HEAD: the law's promise, at the heap behind the top. F, the promise of the law's def, may use that base is part of the heap (so K.In base, base.Ns mainGlobals mg stand in Mod) -/
theorem law_call {P : Program} {w : World} {K : PySem.W.Frag} {mg mb : Str → Option Value} {CX : CXT} {k : Nat} {fa a : Addr} {fd : FuncData} {x : Str} {sp : Sp} {s₁ : Shared} {vs : List Value} {ns : List Int}
    (KX : K.In s₁.heap) (hns : s₁.heap.Ns mainGlobals mg) (hb : s₁.heap.Ns builtinsNs mb) (hbb : ∀ x : Str, x ≠ "__name__" → mb x = bootBuiltins x) (hlim : s₁.heap.NoLimit) (hg : s₁.gens = #[])
    (ha : s₁.heap.get? a = some { cls := .type "list", data := .seq vs.toArray }) (hi : IntsAre vs ns) (hl : ns.length ≤ sizeLine) (hr : Room k callerA)
    (F : ∀ base : Heap, K.In base → base.Ns mainGlobals mg → FnOk P w K mg base CX k fa fd [x] sp) (hbind : ∀ (s : Shared) (u : Value), BindsTo s fd ⟨[u], []⟩ [(x, u)])
    (hsp : ∀ H : Hp, Only H → SqL K H a (ns.map V.int) → sp [.ref a] H (fun v _ => v = .bl true) fun _ _ _ => False)
    (hCX : ∀ H e s', CX [] H s₁ (fun _ _ _ => False) e s' → False) :
    codeAny (model P w) callerA (.call (.ref fa) ⟨[.ref a], []⟩) (fun r s' => r = .ok (.ret (.bool true)) ∧ OldK s₁.heap s'.heap ∧ s'.os = s₁.os ∧ AllBare s'.gens) s₁ := by
  have rv := vals_ints hi
  have lenV := hi.length
  -- from an abstract heap in which nothing but the script may be tracked
  have core : ∀ H : Hp, Only H → SqL K H a (ns.map V.int) → HOk P w H s₁.heap → (∀ b, H b ≠ none → b = a) → (H a ≠ none → K.lookup a = none) →
      codeAny (model P w) callerA (.call (.ref fa) ⟨[.ref a], []⟩) (fun r s' => r = .ok (.ret (.bool true)) ∧ OldK s₁.heap s'.heap ∧ s'.os = s₁.os ∧ AllBare s'.gens) s₁ := by
    intro H hO hS hok hA hK
    have base_of : ∀ {b : Addr} {o : Obj}, s₁.heap.get? b = some o → H b = none → (hidT s₁.heap H).get? b = some o := fun e n => hidT_get e n
    have noA : ∀ {b : Addr} {o : Obj} {es : Array DictEntry} {ep : Nat}, s₁.heap.get? b = some o → o.data = .dict es ep → H b = none := fun {b o es ep} e d => by
      cases q : H b with
      | none => rfl
      | some u =>
        have e' : b = a := hA b (by rw [q]; simp)
        subst e'
        rw [ha] at e; cases e
        have d' : Data.seq vs.toArray _ = Data.dict es ep := d
        cases d'
    have nsK : ∀ {b : Addr} {m : Str → Option Value}, s₁.heap.Ns b m → (hidT s₁.heap H).Ns b m := fun {b m} ⟨o, es, ep, e, d, r⟩ => ⟨o, es, ep, base_of e (noA e d), d, r⟩
    have hKb : K.In (hidT s₁.heap H) := fun b o e => base_of (KX b o e) (by
      cases q : H b with
      | none => rfl
      | some u =>
        have e' : b = a := hA b (by rw [q]; simp)
        subst e'
        rw [hK (by rw [q]; simp)] at e; cases e)
    have hM : Mod K mg (hidT s₁.heap H) := ⟨hKb, nsK hns, ⟨mb, nsK hb, hbb⟩, let ⟨mc, h1, h2⟩ := hlim; ⟨mc, nsK h1, h2⟩⟩
    have e0 : Env0 P w K mg (hidT s₁.heap H) callerA [] s₁ H := ⟨rfl, hM, fun b o e => of_hidT e, Nat.le_of_eq (hidT_size _ _), trivial, fun b hb => absurd (show b ∈ ([] : List Addr) from hb) (by simp), hok, .of_eq hg⟩
    refine codeAny_mono ((F _ hKb (nsK hns)).run callerA [] s₁ H ⟨[.ref a], []⟩ [.ref a] [.ref a] _ _ hr e0 (hbind s₁ (.ref a)) (.cons rfl .nil) (hsp H hO hS)) fun r s' h => ?_
    cases r with
    | error e => exact (hCX H e s' h).elim
    | ok fl =>
      cases fl with
      | next => exact False.elim h
      | brk => exact False.elim h
      | cont => exact False.elim h
      | ret u =>
        obtain ⟨v, H', os, bare, un, hok', r', q⟩ := h
        have q' : v = .bl true := q
        subst q'
        obtain rfl : u = Value.bool true := r'
        refine ⟨rfl, OldK.of_keep fun b o e => ?_, os, bare⟩
        cases q : H b with
        | none => exact un.keep b o e q (by intro z; exact absurd (show b ∈ ([] : List Addr) from z) (by simp)) (by simp)
        | some u =>
          rcases hO b with z | ⟨ob, xs, z⟩
          · rw [q] at z; cases z
          · have z2 := un.frzs b ob _ z
            obtain ⟨e1, _⟩ := hok b _ z
            obtain ⟨e2, _⟩ := hok' b _ z2
            rw [e] at e1; cases e1
            exact e2
  cases hk : K.lookup a with
  | some o =>
    -- the script is one of the module's own objects
    have e := KX a o hk
    rw [ha] at e
    cases e
    refine core (fun _ => none) (fun _ => .inl rfl) (.inr ⟨_, vs.toArray, _, hk, rfl, rfl, rfl, by rw [List.size_toArray, lenV]; exact hl, by simpa using rv⟩) (fun b u z => by have z' : (none : Option HO) = some u := z; cases z') (fun b z => absurd rfl z) fun z => absurd rfl z
  | none =>
    refine core (fun b => if b = a then some (.frz { cls := .type "list", data := .seq vs.toArray } (.lst (ns.map V.int))) else none) (fun b => ?_) (.inl (.inr ⟨{ cls := .type "list", data := .seq vs.toArray }, if_pos rfl⟩)) (fun b u z => ?_) (fun b z => ?_) fun _ => hk
    · by_cases hb : b = a
      · exact .inr ⟨_, _, if_pos hb⟩
      · exact .inl (if_neg hb)
    · by_cases hb : b = a
      · have z' := (if_pos hb).symm.trans z
        cases z'
        subst hb
        exact ⟨ha, by rw [List.length_map]; exact hl, vs, _, rv, ha⟩
      · have z' := (if_neg hb).symm.trans z
        cases z'
    · by_cases hb : b = a
      · exact hb
      · exact absurd (if_neg hb) z
end L2

namespace L2
open PySem PySem.Spec PyProof.Rows

abbrev KOf {K : PySem.W.Frag} {h : Heap} (_ : K.In h) : PySem.W.Frag := K

/-- the goal that k_head leaves (case hc), from the law's promise. F gives the function object fd (K's own) once, then the promise over every base -/
theorem walk_of {l : PySem.W.OpenLaw} {n k : Nat} {q : Program} {loose : List Str} {XP : (Str → Option Value) → Heap → Prop} {YP : World → Heap → Prop} {d : DefRec} {K : Params → PySem.W.Frag} {CX : World → CXT} {sp : World → Sp} {x : Str}
    (hn : l.most = some n) (hn2 : n ≤ sizeLine) (hdf : d.params.defaults = []) (hr : Room k callerA)
    (hY : ∀ (w : World) (h : Heap), YP w h → (K w.params).In h)
    (F : ∀ (w : World) (mg : Str → Option Value) (fa : Addr) (h : Heap), (K w.params).In h → h.Ns mainGlobals mg → mg d.name = some (.ref fa) →
      ∃ fd : FuncData, (∀ (s : Shared) (u : Value), BindsTo s fd ⟨[u], []⟩ [(x, u)]) ∧
        ∀ base : Heap, (K w.params).In base → base.Ns mainGlobals mg → FnOk l.prog w (K w.params) mg base (CX w) k fa fd [x] (sp w))
    (hsp : ∀ (w : World) (H : Hp) (a : Addr) (ns : List Int), ns.length ≤ n → Only H → SqL (K w.params) H a (ns.map V.int) → sp w [.ref a] H (fun v _ => v = .bl true) fun _ _ _ => False)
    (hCX : ∀ (w : World) (H : Hp) (s : Shared) (e : Value) (s' : Shared), CX w [] H s (fun _ _ _ => False) e s' → False) :
    PySem.W.WalkO q loose XP YP l.row.toRowW d [] (fun f vs => PySem.call f vs) := by
  refine Att.attach_call hn hdf fun w s₀ s₁ mg mb fa o pm cd doc a vs ns G Y ho hd hcd hmg hobj hints hlen hg => ?_
  have KX := hY w _ Y
  obtain ⟨fd, hb, hF⟩ := F w mg fa _ KX G.T.g hmg
  exact law_call KX G.T.g G.T.b G.T.builtins G.T.nolimit hg hobj hints (Nat.le_trans hlen hn2) hr hF hb (fun H hO hS => hsp w H a ns hlen hO hS) fun H e s' => hCX w H s₁ e s'
end L2



/-! SHORT WORDS over the layer: a def of the text, its body, what a loop and a test want. -/
namespace L2
open PySem PySem.Spec PyProof.Rows

/-! ### the text by places -/
/-- the j-th statement of a class's body -/
def inClass (s : Stmt) (j : Nat) : Stmt := match s with
  | .ClassDef _ _ _ body _ _ _ _ _ _ _ => body.getD j (.Pass ⟨0, 0, 0, 0⟩)
  | _ => .Pass ⟨0, 0, 0, 0⟩
def defArgs (s : Stmt) : Arguments := match s with
  | .FunctionDef _ a _ _ _ _ _ _ _ _ => a
  | _ => { posonlyargs := [], args := [], vararg := none, kwonlyargs := [], kw_defaults := [], kwarg := none, defaults := [] }
def defBody (s : Stmt) : List Stmt := match s with
  | .FunctionDef _ _ b _ _ _ _ _ _ _ => b
  | _ => []
def defScope (s : Stmt) : Scope := match s with
  | .FunctionDef _ _ _ _ _ _ sc _ _ _ => sc
  | _ => { kind := .function, names := [], isGenerator := false, isCoroutine := false }

/-! ### no exception leaves a def -/
abbrev CX0 : CXT := fun _ _ _ _ _ _ => False
abbrev E0 : XK := fun _ _ _ => False
theorem pass0 {X : Cx} : Passes CX0 X E0 := fun _ _ _ _ _ _ _ h => h.elim

/-! ### a def (or method) of the text as it stands behind the top -/
structure Fun (K : PySem.W.Frag) (x qual : Str) (st : Stmt) (f : Addr) (fd : FuncData) : Prop where
  ex : ∃ (oc : Value) (od : Option Addr) (kV doc pm : Value) (an : Option Addr) (cdv ct : Value) (osl : Array (Option Value)),
    fd = PySem.W.fnOf x qual (defArgs st) (defBody st) (defScope st) .none kV doc pm an cdv ct ∧ K.lookup f = some ⟨oc, od, .func fd, osl⟩ ∧ PySem.W.codeIn K cdv qual = true
  kp : PySem.W.keepIn K (.ref f) = true
section
variable {P : Program} {w : World} {K : PySem.W.Frag} {mg : Str → Option Value} {base : Heap}
/-- THE RULE for a def: its body as a term of rules, and the reading of that term -/
theorem Fun.ok {x qual : Str} {st : Stmt} {f : Addr} {fd : FuncData} {N ps : List Str} {k : Nat} {sp : Sp} (F : Fun K x qual st f fd) (S : FnScope N ps (defScope st)) (len : ∀ vs H Q E, sp vs H Q E → vs.length = ps.length)
    (hbody : ∀ (cdv : Value) (A : Around) (outer : List Env) (s : Shared) (H : Hp) (vs : List V) (Q : VK) (E : XK), Room k (A.deeper (envOfC qual (defScope st) s.heap.objs.size f cdv)) → sp vs H Q E →
      ∃ t, PSs (cxOf CX0 P w K mg base N qual (defScope st) f cdv A outer s H E).nox (defBody st) t ∧ t { nx := fun _ H' => Q .non H', rt := Q } (start N vs) H) : FnOk P w K mg base CX0 (k + 1) f fd ps sp := by
  obtain ⟨oc, od, kV, doc, pm, an, cdv, ct, osl, rfl, lk, hcd⟩ := F.ex
  refine fn_of lk hcd S len fun A outer s H vs Q E hr hsp => ?_
  obtain ⟨t, h, q⟩ := hbody cdv A outer s H vs Q E hr hsp
  exact ⟨t, h.nox, q⟩
/-- how its arguments bind (no defaults): h is «fun _ _ _ _ _ _ us hl => match us, hl with | [_, _], _ => rfl», one _ a parameter -/
theorem Fun.binds {x qual : Str} {st : Stmt} {f : Addr} {fd : FuncData} {ps : List Str} (F : Fun K x qual st f fd)
    (h : ∀ (kV doc pm : Value) (an : Option Addr) (cdv ct : Value) (us : List Value), us.length = ps.length → bindArgs (PySem.W.fnOf x qual (defArgs st) (defBody st) (defScope st) .none kV doc pm an cdv ct) ⟨us, []⟩ = pure (ps.zip us)) : Binds K fd ps [] := by
  obtain ⟨oc, od, kV, doc, pm, an, cdv, ct, osl, rfl, lk, hcd⟩ := F.ex
  exact .all (h kV doc pm an cdv ct)
theorem fun_mk {x qual : Str} {st : Stmt} {f : Addr} {oc : Value} {od an : Option Addr} {osl : Array (Option Value)} {kV doc pm cdv ct : Value} (l : K.lookup f = some ⟨oc, od, .func (PySem.W.fnOf x qual (defArgs st) (defBody st) (defScope st) .none kV doc pm an cdv ct), osl⟩)
    (c : PySem.W.codeIn K cdv qual = true) (k : PySem.W.keepIn K (.ref f) = true) : Fun K x qual st f (PySem.W.fnOf x qual (defArgs st) (defBody st) (defScope st) .none kV doc pm an cdv ct) := ⟨⟨oc, od, kV, doc, pm, an, cdv, ct, osl, rfl, l, c⟩, k⟩
end
/-! ### expressions in short: the name that stands in the i-th slot -/
section
variable {X : Cx}
theorem pv (i : Nat) {x : Str} {pos : Pos} (hN : X.N[i]? = some x := by rfl) (hv : Vis X.env.scope x := by first | exact Or.inl rfl | exact Or.inr (Or.inl rfl) | exact Or.inr (Or.inr rfl)) (hd : (x == ("__debug__" : Str)) = false := by decide)
    (hcd : (x == ("__classdict__" : Str)) = false := by decide) : PE X (.Name x pos) (tVar i) := pe_var hN hv hd hcd
end

/-! ### tests -/
theorem iteF {A B : Prop} (h : B) : if false = true then A else B := by
  rw [if_neg Bool.false_ne_true]
  exact h
theorem iteT {A B : Prop} (h : A) : if true = true then A else B := by
  rw [if_pos rfl]
  exact h
theorem ite2 {c A B : Prop} [Decidable c] (h1 : c → A) (h2 : ¬ c → B) : if c then A else B := by
  by_cases h : c
  · rw [if_pos h]
    exact h1 h
  · rw [if_neg h]
    exact h2 h
/-! ### heaps -/
/-- all that was tracked is as it was -/
def Same (H H' : Hp) : Prop := ∀ b o, H b = some o → H' b = some o
theorem Same.refl (H : Hp) : Same H H := fun _ _ h => h
theorem Same.trans {H H1 H2 : Hp} (a : Same H H1) (b : Same H1 H2) : Same H H2 := fun c o h => b c o (a c o h)
theorem Same.free {H H' : Hp} (e : Same H H') {l : Addr} (h : H' l = Option.none) : H l = Option.none := by
  cases q : H l with
  | none => rfl
  | some o =>
    rw [e l o q] at h
    cases h
theorem Same.seq {K : PySem.W.Frag} {H H' : Hp} {a : Addr} {xs : List V} (e : Same H H') (h : SqL K H a xs) : SqL K H' a xs := by
  rcases h with (h | ⟨o, h⟩) | h
  · exact .inl (.inl (e _ _ h))
  · exact .inl (.inr ⟨o, e _ _ h⟩)
  · exact .inr h

end L2
namespace L2
open PySem PySem.Spec PyProof.Rows

/-! ### lists of pairs as tables -/
section
variable {κ : Type} [DecidableEq κ]
def valV (kvs : List (κ × V)) (k : κ) : Option V := (kvs.find? fun kv => decide (kv.1 = k)).map (·.2)
/-- in its place, or at the end -/
def putK (kvs : List (κ × V)) (k : κ) (v : V) : List (κ × V) :=
  if (kvs.any fun kv => decide (kv.1 = k)) = true then kvs.map (fun kv => if kv.1 = k then (kv.1, v) else kv) else kvs ++ [(k, v)]
def dropK (kvs : List (κ × V)) (k : κ) : List (κ × V) := kvs.filter fun kv => decide (kv.1 ≠ k)

end


/-! ### a tracked dict, its keys ints and texts or tuples of these -/
/-- raw entries of a dict with tuple keys -/
abbrev KT (H : Hp) : List (List Key × V) → List (List Key × Addr × Value) → Prop := Paired fun p q => p.1 = q.1 ∧ H q.2.1 = some (.tup (p.1.map kV)) ∧ RelV p.2 q.2.2
section
variable {P : Program} {w : World} {H : Hp} {h : Heap} {a : Addr}
end

/-- what the dict at a holds at the key y -/
def DGet (H : Hp) (a : Addr) (y : V) (r : Option V) : Prop :=
  (∃ kvs k, Rd H a (.dK kvs) ∧ y = kV k ∧ r = valV kvs k) ∨ ∃ kvs k b, Rd H a (.dT kvs) ∧ y = .ref b ∧ H b = some (.tup (k.map kV)) ∧ r = valV kvs k
/-- the heap behind a[y] = v -/
def DPut (H : Hp) (a : Addr) (y v : V) (H' : Hp) : Prop :=
  (∃ kvs k, H a = some (.dK kvs) ∧ y = kV k ∧ kvs.length < sizeLine ∧ H' = upd H a (.dK (putK kvs k v))) ∨
  ∃ kvs k b, H a = some (.dT kvs) ∧ y = .ref b ∧ H b = some (.tup (k.map kV)) ∧ kvs.length < sizeLine ∧ H' = upd H a (.dT (putK kvs k v))
section
variable {X : Cx} {pins : List (Addr × Obj)} {σ : St} {H : Hp} {s : Shared} {a : Addr} {y v : V} {u r : Value} {o : Option V} {A : Around} {E : Value → Shared → Prop}

end

section
variable {X : Cx} {pins : List (Addr × Obj)} {σ : St} {H : Hp} {s : Shared} {a : Addr} {kvs : List (Key × V)} {k : Key} {u : Value} {A : Around} {E : Value → Shared → Prop}
end


/-! ### readings and rules -/
/-- the element of a subscription, not a slice -/
def NoSl (i : Expr) : Prop := ∀ ov iv, subscripted i false ov iv = operate [ov, iv] (getItem ov iv)
/-- d[y] -/
def tDGet (td ty : TE) : TE := fun σ H Q => td σ H fun x H1 => ty σ H1 fun y H2 => ∃ a v, x = .ref a ∧ DGet H2 a y (some v) ∧ Q v H2
/-- y in d, y not in d -/
def tDIn (ty td : TE) : TE := fun σ H Q => ty σ H fun y H1 => td σ H1 fun x H2 => ∃ a o, x = .ref a ∧ DGet H2 a y o ∧ Q (.bl o.isSome) H2
def tDNotIn (ty td : TE) : TE := fun σ H Q => ty σ H fun y H1 => td σ H1 fun x H2 => ∃ a o, x = .ref a ∧ DGet H2 a y o ∧ Q (.bl (!o.isSome)) H2
/-- d[y] = v -/
def sDPut (td ty tv : TE) : TS := fun D σ H => tv σ H fun v H1 => td σ H1 fun x H2 => ty σ H2 fun y H3 => ∃ a H4, x = .ref a ∧ DPut H3 a y v H4 ∧ D.nx σ H4
/-- d[y] op= v -/
def sDAug (td ty tv : TE) (rd : V → V → Hp → VK → Prop) : TS := fun D σ H => td σ H fun x H1 => ty σ H1 fun y H2 => ∃ a v, x = .ref a ∧ DGet H2 a y (some v) ∧
  tv σ H2 fun y2 H3 => rd v y2 H3 fun z H4 => ∃ H5, DPut H4 a y z H5 ∧ D.nx σ H5
/-- del d[y] -/
def sDDel (td ty : TE) : TS := fun D σ H => td σ H fun x H1 => ty σ H1 fun y H2 => ∃ a kvs k, x = .ref a ∧ H2 a = some (.dK kvs) ∧ y = kV k ∧ (valV kvs k).isSome = true ∧ D.nx σ (upd H2 a (.dK (dropK kvs k)))

section
variable {X : Cx} {o i e value : Expr} {pos pos' tpos : Pos} {td ty tv : TE}
end


/-! ### displays -/
/-- {}, to be a dict of the kind that is wanted -/
def tDNewK : TE := fun _ H Q => ∀ p, H p = none → Q (.ref p) (upd H p (.dK []))
def tDNewT : TE := fun _ H Q => ∀ p, H p = none → Q (.ref p) (upd H p (.dT []))
section
variable {X : Cx} {pos : Pos}
end

/-- the pairs of a display, from the left -/
def tPairs : List (TE × TE) → St → Hp → (List (V × V) → Hp → Prop) → Prop
  | [], _, H, Q => Q [] H
  | (tk, tv) :: r, σ, H, Q => tk σ H fun x H1 => tv σ H1 fun y H2 => tPairs r σ H2 fun ps H3 => Q ((x, y) :: ps) H3
abbrev VV : List (V × V) → List (Value × Value) → Prop := Paired fun p q => RelV p.1 q.1 ∧ RelV p.2 q.2
def PPs (X : Cx) (pos : Pos) (keys : List (Option Expr)) (values : List Expr) (trs : List (TE × TE)) : Prop :=
  ∀ (pins : List (Addr × Obj)) (s : Shared) (σ : St) (H : Hp) (Q : List (V × V) → Hp → Prop), Inv X pins σ H s → tPairs trs σ H Q →
    wpAny (model X.prog X.w) X.A (evalPairs (pairTrees keys values X.env pos)) (fun vs s' => ∃ ps H', Inv X pins σ H' s' ∧ VV ps vs ∧ Q ps H') X.xe s
def mergeK (kvs more : List (Key × V)) : List (Key × V) := more.foldl (fun acc kv => putK acc kv.1 kv.2) kvs
/-- {k: v, ..} with keys ints and texts; the new dict stands empty while the pairs are made -/
def tDisp (trs : List (TE × TE)) : TE := fun σ H Q => ∀ p, H p = none → tPairs trs σ (upd H p (.dK [])) fun ps H2 => H2 p = some (.dK []) ∧ ∃ kvs : List (Key × V), ps = kvs.map (fun kv => (kV kv.1, kv.2)) ∧ kvs.length ≤ 15 ∧ Q (.ref p) (upd H2 p (.dK (mergeK [] kvs)))
/-! ### methods -/
/-- a method call o.m(e) of a built-in, with one argument: what must be seen of the text -/
structure M1 (X : Cx) (o : Expr) (m : Str) (apos : Pos) (e : Expr) (cpos : Pos) : Prop where
  base : attributeBase o m X.env (eval o X.env) = eval o X.env
  few : ((backTo cpos (starEach [e] X.env)).all (fun x => !x.1) && (backToKw cpos (keywordEach [] X.env)).all (fun x => x.1.isSome)
    && decide (([e] : List Expr).length + ([] : List Keyword).length + (if ([] : List Keyword).isEmpty then 0 else 1) < 30)) = true
  line : (apos.endLine == cpos.line) = true
  trees : backTo cpos (starEach [e] X.env) = [(false, eval e X.env)]
structure M2 (X : Cx) (o : Expr) (m : Str) (apos : Pos) (e f : Expr) (cpos : Pos) : Prop where
  base : attributeBase o m X.env (eval o X.env) = eval o X.env
  few : ((backTo cpos (starEach [e, f] X.env)).all (fun x => !x.1) && (backToKw cpos (keywordEach [] X.env)).all (fun x => x.1.isSome)
    && decide (([e, f] : List Expr).length + ([] : List Keyword).length + (if ([] : List Keyword).isEmpty then 0 else 1) < 30)) = true
  line : (apos.endLine == cpos.line) = true
  trees : backTo cpos (starEach [e, f] X.env) = [(false, eval e X.env), (false, eval f X.env)]

/-- a is a dict, whatever its keys -/
def IsD (H : Hp) (a : Addr) : Prop := (∃ kvs, Rd H a (.dK kvs)) ∨ ∃ kvs, Rd H a (.dT kvs)
section
variable {X : Cx} {pins : List (Addr × Obj)} {σ : St} {H : Hp} {s : Shared} {a : Addr} {y d : V} {u r : Value} {o : Option V} {A : Around} {E : Value → Shared → Prop}
end

def tDGet1 (td ty : TE) : TE := fun σ H Q => td σ H fun x H1 => ∃ a, x = .ref a ∧ IsD H1 a ∧ ty σ H1 fun y H2 => ∃ o, DGet H2 a y o ∧ Q (o.getD .non) H2
def tDGet2 (td ty tx : TE) : TE := fun σ H Q => td σ H fun x H1 => ∃ a, x = .ref a ∧ IsD H1 a ∧ ty σ H1 fun y H2 => tx σ H2 fun z H3 => ∃ o, DGet H3 a y o ∧ Q (o.getD z) H3
/-- d.pop(k): there; d.pop(k, x): there or not -/
def tDPop1 (td ty : TE) : TE := fun σ H Q => td σ H fun x H1 => ∃ a, x = .ref a ∧ IsD H1 a ∧ ty σ H1 fun y H2 => ∃ kvs k v, H2 a = some (.dK kvs) ∧ y = kV k ∧ valV kvs k = some v ∧ Q v (upd H2 a (.dK (dropK kvs k)))
def tDPop2 (td ty tx : TE) : TE := fun σ H Q => td σ H fun x H1 => ∃ a, x = .ref a ∧ IsD H1 a ∧ ty σ H1 fun y H2 => tx σ H2 fun z H3 => ∃ kvs k, H3 a = some (.dK kvs) ∧ y = kV k ∧
  (∀ v, valV kvs k = some v → Q v (upd H3 a (.dK (dropK kvs k)))) ∧ (valV kvs k = none → Q z H3)
section
variable {X : Cx} {o e f : Expr} {apos cpos : Pos} {td ty tx : TE}
end

/-! ### dict(d): a copy -/
section
variable {X : Cx} {pins : List (Addr × Obj)} {σ : St} {H : Hp} {s : Shared} {a : Addr} {kvs : List (Key × V)} {A : Around} {E : Value → Shared → Prop}
end


section
variable {X : Cx} {pins : List (Addr × Obj)} {σ : St} {H : Hp} {s : Shared} {a : Addr} {y : V} {u : Value} {A : Around} {E : Value → Shared → Prop}
end
end L2
namespace L2
open PySem PySem.Spec PyProof.Rows

theorem closure_fold (env : Env) : ∀ (names : List (Str × NameKind)) (cs : List (Str × Addr)), (∀ x, (x, NameKind.free) ∈ names → ∃ c, env.cells.lookup x = some c) →
    ∃ cl, (forIn names cs fun (p : Str × NameKind) (cs : List (Str × Addr)) => (if (p.2 == NameKind.free) = true then (do let c ← cellOf env p.1; pure (ForInStep.yield ((p.1, c) :: cs))) else pure (ForInStep.yield cs) : Sem (ForInStep (List (Str × Addr))))) = pure cl ∧
      (∀ x c, cl.lookup x = some c → env.cells.lookup x = some c ∨ cs.lookup x = some c) ∧ (∀ x, (x, NameKind.free) ∈ names → ∃ c, cl.lookup x = some c) ∧ (∀ x c, cs.lookup x = some c → ∃ d, cl.lookup x = some d)
  | [], cs, _ => ⟨cs, by simp, fun _ _ h => .inr h, (fun _ h => nomatch h), fun x c h => ⟨c, h⟩⟩
  | (n, k) :: r, cs, h => by
    by_cases hk : k = NameKind.free
    · subst hk
      obtain ⟨c, hc⟩ := h n (List.mem_cons_self ..)
      obtain ⟨cl, e, a, b, d⟩ := closure_fold env r ((n, c) :: cs) (fun x hx => h x (List.mem_cons_of_mem _ hx))
      have hcell : cellOf env n = pure c := by unfold cellOf; rw [hc]
      refine ⟨cl, ?_, fun x c' hx => ?_, fun x hx => ?_, fun x c' hx => ?_⟩
      · rw [List.forIn_cons]
        simp only [beq_self_eq_true, if_true, hcell, pure_bind]
        exact e
      · rcases a x c' hx with q | q
        · exact .inl q
        · rw [List.lookup_cons] at q
          by_cases hxn : (x == n) = true
          · rw [hxn] at q
            have hx' : x = n := by simpa using hxn
            subst hx'
            have : c = c' := by simpa using q
            subst this
            exact .inl hc
          · rw [Bool.eq_false_iff.mpr hxn] at q
            exact .inr q
      · rcases List.mem_cons.mp hx with q | q
        · have hx' : x = n := congrArg Prod.fst q
          subst hx'
          exact d x c (by rw [List.lookup_cons]; simp)
        · exact b x q
      · have : ∃ d', ((n, c) :: cs).lookup x = some d' := by
          rw [List.lookup_cons]
          by_cases hxn : (x == n) = true
          · rw [hxn]; exact ⟨c, rfl⟩
          · rw [Bool.eq_false_iff.mpr hxn]; exact ⟨c', hx⟩
        obtain ⟨d', hd'⟩ := this
        exact d x d' hd'
    · obtain ⟨cl, e, a, b, d⟩ := closure_fold env r cs (fun x hx => h x (List.mem_cons_of_mem _ hx))
      have hkf : (k == NameKind.free) = false := by simpa using hk
      refine ⟨cl, ?_, a, fun x hx => ?_, d⟩
      · rw [List.forIn_cons]
        simp only [hkf, Bool.false_eq_true, if_false, pure_bind]
        exact e
      · rcases List.mem_cons.mp hx with q | q
        · exact absurd (congrArg Prod.snd q).symm hk
        · exact b x q
theorem closure_ok (env : Env) (scope : Scope) (h : ∀ x, (x, NameKind.free) ∈ scope.names → ∃ c, env.cells.lookup x = some c) :
    ∃ cl, closureFor scope env = pure cl ∧ (∀ x c, cl.lookup x = some c → env.cells.lookup x = some c) ∧ (∀ x, (x, NameKind.free) ∈ scope.names → ∃ c, cl.lookup x = some c) := by
  obtain ⟨cl, e, a, b, _⟩ := closure_fold env scope.names [] h
  refine ⟨cl, ?_, fun x c hx => (a x c hx).elim id (fun z => by simp at z), b⟩
  unfold closureFor
  simp only [bind_pure]
  exact e

/-- the context of a comprehension's block -/
def cxC (X : Cx) (scope : Scope) (N' : List Str) (cl : List (Str × Addr)) (C : Addr) (s₀ : Shared) (H₀ : Hp) (fp : List Addr) (pn : List (Addr × Obj)) : Cx :=
  { X with N := N', s₀ := s₀, H₀ := H₀, env := compEnvC scope cl C X.env, outer := X.stack, ex := fp, fn := fun _ => false, pn := pn, xe := fun _ _ => False }
/-- which names of the block are the frame's own slots -/
inductive Cap (X : Cx) (scope : Scope) : List (Option Nat) → List Str → Prop
  | nil : Cap X scope [] []
  | own {x src N'} : Cap X scope src N' → Cap X scope (none :: src) (x :: N')
  | cap {x i src N'} : X.N[i]? = some x → scope.names.lookup x = some NameKind.free → (X.env.scope.names.lookup x = some NameKind.cell ∨ X.env.scope.names.lookup x = some NameKind.free) → Cap X scope src N' → Cap X scope (some i :: src) (x :: N')
def capSt (src : List (Option Nat)) (σ : St) : St := src.map fun o => match o with | none => none | some i => σ.getD i none
theorem Cap.length {X : Cx} {scope : Scope} : ∀ {src : List (Option Nat)} {N' : List Str}, Cap X scope src N' → src.length = N'.length
  | _, _, .nil => rfl
  | _, _, .own h => congrArg (· + 1) h.length
  | _, _, .cap _ _ _ h => congrArg (· + 1) h.length
theorem Cap.get {X : Cx} {scope : Scope} {σ : St} : ∀ {src : List (Option Nat)} {N' : List Str}, Cap X scope src N' → ∀ (j : Nat) (x : Str) (v : V), N'[j]? = some x → (capSt src σ)[j]? = some (some v) →
    ∃ i : Nat, X.N[i]? = some x ∧ σ[i]? = some (some v) ∧ scope.names.lookup x = some NameKind.free ∧ (X.env.scope.names.lookup x = some NameKind.cell ∨ X.env.scope.names.lookup x = some NameKind.free)
  | _, _, .nil, j, x, v, h, _ => by simp at h
  | _, _, .own h, 0, x, v, _, e => by simp [capSt] at e
  | _, _, .own h, j + 1, x, v, e1, e2 => h.get j x v (by simpa using e1) (by simpa [capSt] using e2)
  | _, _, .cap (x := y) (i := i) hN hf hk h, 0, x, v, e1, e2 => by
    have ex : y = x := by simpa using e1
    subst ex
    refine ⟨i, hN, ?_, hf, hk⟩
    simp only [capSt, List.map_cons, List.getElem?_cons_zero, Option.some.injEq] at e2
    rw [List.getD_eq_getElem?_getD] at e2
    cases q : σ[i]? with
    | none => rw [q] at e2; simp at e2
    | some o => rw [q] at e2; simp at e2; rw [e2]
  | _, _, .cap hN hf hk h, j + 1, x, v, e1, e2 => h.get j x v (by simpa using e1) (by simpa [capSt] using e2)

theorem lookup_relabel (env : Env) (x : Str) : ∀ {names : List (Str × NameKind)},
    (names.map fun (n, k) => if (k == NameKind.free && env.scope.kind == .function && env.kindOf n == some .cell) then (n, NameKind.cell) else (n, k)).lookup x =
      (names.lookup x).map fun k => if (k == NameKind.free && env.scope.kind == .function && env.kindOf x == some .cell) then NameKind.cell else k
  | [] => rfl
  | (n, k) :: r => by
    have ih := @lookup_relabel env x r
    rw [List.map_cons]
    dsimp only
    by_cases hx : (x == n) = true
    · have e : x = n := by simpa using hx
      subst e
      by_cases hc : (k == NameKind.free && env.scope.kind == .function && env.kindOf x == some .cell) = true
      · rw [if_pos hc, List.lookup_cons, List.lookup_cons, hx]
        simp only [Option.map_some]
        rw [if_pos hc]
      · rw [if_neg hc, List.lookup_cons, List.lookup_cons, hx]
        simp only [Option.map_some]
        rw [if_neg hc]
    · have hx' := Bool.eq_false_iff.mpr hx
      by_cases hc : (k == NameKind.free && env.scope.kind == .function && env.kindOf n == some .cell) = true
      · rw [if_pos hc]; simp only [List.lookup_cons, hx']; exact ih
      · rw [if_neg hc]; simp only [List.lookup_cons, hx']; exact ih
theorem lookup_mem_free {names : List (Str × NameKind)} {x : Str} (h : names.lookup x = some NameKind.free) : (x, NameKind.free) ∈ names := PySem.mem_of_lookup h

section
variable {X : Cx}
/-- the block's first state -/
theorem inv_comp {scope : Scope} {N' : List Str} {src : List (Option Nat)} {cl : List (Str × Addr)} {pins : List (Addr × Obj)} {σ : St} {H : Hp} {s s' : Shared} {h' : Heap} {tk : Nat} {fp : List Addr} {m : Str → Option Value}
    (hk : scope.kind = .function) (hcell : ∀ y ∈ scope.names, y.2 ≠ .cell) (hcap : Cap X scope src N')
    (a : ∀ x c, cl.lookup x = some c → X.env.cells.lookup x = some c) (b : ∀ x, (x, NameKind.free) ∈ scope.names → ∃ c, cl.lookup x = some c)
    (I : Inv X pins σ H s) (hf : ∀ b ∈ fp, FpOk X pins H b) (hfl : ∀ b ∈ fp, b < s.heap.objs.size) (es' : s' = { s with heap := h', toks := tk })
    (keep : ∀ b o, s.heap.get? b = some o → h'.get? b = some o) (hn : h'.Ns s.heap.objs.size m) :
    Inv (cxC X scope N' cl s.heap.objs.size s H fp (X.pn ++ pins)) [] (capSt src σ) H s' := by
  subst es'
  have kindOf : ∀ x, (compEnvC scope cl s.heap.objs.size X.env).kindOf x = (scope.names.lookup x).map fun k => if (k == NameKind.free && X.env.scope.kind == .function && X.env.kindOf x == some .cell) then NameKind.cell else k := fun x => lookup_relabel X.env x
  have freeOf : ∀ x, ((compEnvC scope cl s.heap.objs.size X.env).kindOf x = some .cell ∨ (compEnvC scope cl s.heap.objs.size X.env).kindOf x = some .free) → scope.names.lookup x = some .free := fun x h => by
    rw [kindOf] at h
    cases q : scope.names.lookup x with
    | none => rw [q] at h; simp at h
    | some k =>
      rw [q] at h
      by_cases hkf : k = NameKind.free
      · rw [hkf]
      · have hkf' : (k == NameKind.free) = false := by simpa using hkf
        simp only [Option.map_some, hkf', Bool.false_and, Bool.false_eq_true, if_false] at h
        rcases h with h | h
        · exact absurd (Option.some.inj h) (hcell _ (PySem.mem_of_lookup q))
        · exact absurd (Option.some.inj h) hkf
  refine ⟨⟨I.ok.mod, hk, I.ok.glob, I.ok.blt, Nat.le_refl _, fun x y c h1 h2 => I.ok.inj x y c (a x c h1) (a y c h2), fun x hx => b x (lookup_mem_free (freeOf x hx)), (fun x c z _ => nomatch z), I.ok.hd, I.ok.frames, .inl rfl, fun b' hb => ?_, I.bs, Nat.le_trans I.ok.bsz I.sz, fun b' o e hb => ?_, fun b' hb z => ?_, I.stack, I.stkFree⟩,
    rfl, I.bare, Un.kept keep, ⟨m, hn, fun j x v h1 h2 h3 => ?_⟩, fun x c h => ?_, I.hok.fresh (Nat.le_refl _), fun x c h => I.freeC x c (a x c h), fun p hp => ?_, I.hok.kept keep, ?_⟩
  · obtain ⟨f0, f1, f2, f3, f4, f5⟩ := hf b' hb
    exact ⟨Nat.ne_of_lt (hfl b' hb), fun x c h => f4 x c (a x c h)⟩
  · obtain ⟨f0, f1, f2, f3, f4, f5⟩ := hf b' hb
    rcases f3 with z | z
    · exact I.ok.noex b' o e z
    · exact absurd (Nat.lt_of_lt_of_le (Heap.lt_size e) (Nat.le_trans I.ok.bsz z)) (Nat.lt_irrefl _)
  · obtain ⟨f0, f1, f2, f3, f4, f5⟩ := hf b' hb
    rcases List.mem_cons.mp (I.stkSub b' z) with e | e
    · exact f1 e
    · exact f2 e
  · obtain ⟨i, e1, e2, e3, e4⟩ := hcap.get j x v h1 h2
    obtain ⟨m0, hn0, hl⟩ := I.loc
    obtain ⟨u, r, l⟩ := hl i x v e1 e2 (by rcases e4 with e4 | e4; exact .inr (.inl e4); exact .inr (.inr e4))
    refine ⟨u, r, ?_⟩
    rcases l with ⟨l, _⟩ | ⟨k, c, e, z⟩
    · have l' : X.env.scope.names.lookup x = some NameKind.local := l
      rcases e4 with e4 | e4 <;> (rw [e4] at l'; cases l')
    · refine .inr ⟨?_, ?_⟩
      · show (compEnvC scope cl s.heap.objs.size X.env).kindOf x = some .cell ∨ (compEnvC scope cl s.heap.objs.size X.env).kindOf x = some .free
        rw [kindOf, e3]
        simp only [Option.map_some]
        split
        · exact .inl rfl
        · exact .inr rfl
      · obtain ⟨c', hc'⟩ := b x (lookup_mem_free e3)
        have := a x c' hc'
        rw [e] at this
        cases this
        obtain ⟨o, ho, hd⟩ := z
        exact ⟨c, hc', o, keep _ _ ho, hd⟩
  · obtain ⟨v, o, ho, hd⟩ := I.cell x c (a x c h)
    exact ⟨v, o, keep _ _ ho, hd⟩
  · have hp' : p ∈ X.pn ++ pins := by simpa [cxC] using hp
    obtain ⟨e, n, ne, nf, d⟩ := I.pin p hp'
    refine ⟨keep _ _ e, n, Nat.ne_of_lt (Heap.lt_size e), fun z => ?_, d⟩
    rcases List.mem_cons.mp (I.stkSub p.1 z) with q | q
    · exact ne q
    · exact nf q
  · show (capSt src σ).length = N'.length
    rw [← hcap.length]
    simp [capSt]
end
end L2
namespace L2
open PySem PySem.Spec PyProof.Rows

/-! ### list comprehensions of one clause -/
section
variable {prog : Program} {w : World} {A : Around} {R : Result → Shared → Prop} {s : Shared}
/-- the loop, with what goes ahead of the store -/
theorem comp_loop {elt tg iter : Expr} {ifs : List Expr} {scope : Scope} {pos : Pos} {it acc : Value} {env : Env} (J : Nat → Shared → Prop)
    (turn : ∀ n s, J n s → wpAny (model prog w) A (pyNext it) (fun r s₁ => match r with
        | none => R (.ok .next) s₁
        | some v => wpAny (model prog w) A (letOwnedTupleGo tg it v) (fun _ z₁ => wpAny (model prog w) A (assign tg env v) (fun _ s₂ =>
            wpAny (model prog w) A (forIn ifs true fun c r => if r = true then do let ok ← isTrue c env (eval c env); pure (ForInStep.yield ok) else pure (ForInStep.yield r))
              (fun ok s₃ => if ok = true then wpAny (model prog w) A (eval elt env) (fun x s₄ => wpAny (model prog w) A (call (.builtin "list.append") [acc, x]) (fun _ s₅ => ∃ m, m < n ∧ J m s₅) (fun _ _ => False) s₄) (fun _ _ => False) s₃
                else ∃ m, m < n ∧ J m s₃) (fun _ _ => False) s₂) (fun _ _ => False) z₁) (fun _ _ => False) s₁) (fun _ _ => False) s)
    (n : Nat) (h : J n s) : codeAny (model prog w) A (.compLoop (.ListComp elt [⟨tg, iter, ifs, 0⟩] scope pos) 0 it acc env) R s := by
  refine codeAny_loop rfl J (fun n s hJ => ?_) n h
  show wpAny _ A (Sem.onRaise (compTurn (.ListComp elt [⟨tg, iter, ifs, 0⟩] scope pos) 0 it acc env) (fun x => do noteFrame x env; theTreesLotGoes x)) _ _ s
  refine wpAny_noted ?_
  rw [compTurn_list]
  have no : ∀ {E : Value → Shared → Prop}, ∀ (e : Value) (s' : Shared), False → E e s' := fun _ _ f => f.elim
  refine wpAny_bind (wpAny_standAt (wpAny_bind (wpAny_mono (turn n s hJ) (fun r s₁ h₁ => ?_) no)))
  cases r with
  | none => exact wpAny_pure h₁
  | some v =>
    refine wpAny_bind (wpAny_mono h₁ (fun _ z₁ hz => ?_) no)
    refine wpAny_bind (wpAny_mono hz (fun _ s₂ h₂ => wpAny_bind (wpAny_mono h₂ (fun ok s₃ h₃ => ?_) no)) no)
    cases ok with
    | false => exact wpAny_pure ⟨rfl, h₃⟩
    | true =>
      exact wpAny_bind (wpAny_bind (wpAny_mono h₃ (fun x s₄ h₄ => wpAny_bind (wpAny_mono h₄ (fun _ s₅ h₅ => wpAny_pure (wpAny_pure ⟨rfl, h₅⟩)) no)) no))
end

/-- the clause's tests -/
def PTs (X : Cx) (ifs : List Expr) (t : TT) : Prop :=
  ∀ (pins : List (Addr × Obj)) (s : Shared) (σ : St) (H : Hp) (Q : Bool → Hp → Prop), Inv X pins σ H s → t σ H Q →
    wpAny (model X.prog X.w) X.A (forIn ifs true fun c r => if r = true then do let ok ← isTrue c X.env (eval c X.env); pure (ForInStep.yield ok) else pure (ForInStep.yield r)) (TP X pins σ Q) X.xe s
def tYes : TT := fun _ H Q => Q true H
theorem pts_nil {X : Cx} : PTs X [] tYes := fun _ _ _ H _ I h => wpAny_tests_nil ⟨H, I, h⟩
theorem pts_one {X : Cx} {c : Expr} {t : TT} (h : PT X c t) : PTs X [c] t := fun pins s σ H Q I q => wpAny_tests_one (h pins s σ H Q I q)

/-- W: the turn, a measure, the items so far, the block's slots, the heap; N: what a turn is to reach -/
def LC (src : List (Option Nat)) (J : It) (g : TG) (tt : TT) (te : TE) (σ : St) (H1 : Hp) (Q : VK) (D : Addr) : Prop := ∃ W : Nat → Nat → List V → St → Hp → Prop, (∃ m, W 0 m [] (capSt src σ) (upd H1 D (.lst []))) ∧
  ∀ i m ys σ' H2, W i m ys σ' H2 → H2 D = some (.lst ys) ∧ ((J.stop i H2 ∧ Q (.ref D) H2) ∨ (J.go i H2 ∧ ∃ N : List V → St → Hp → Prop, (∀ ys' σ3 H3, N ys' σ3 H3 → ∃ m', m' < m ∧ W (i + 1) m' ys' σ3 H3) ∧ ∀ x H3, J.yld i H2 x H3 → g x σ' H3 fun σ2 H4 => tt σ2 H4 fun b H5 =>
    if b = true then te σ2 H5 fun y H6 => H6 D = some (.lst ys) ∧ ys.length < sizeLine ∧ N (ys ++ [y]) σ2 (upd H6 D (.lst (ys ++ [y])))
    else N ys σ2 H5))
def tLC (src : List (Option Nat)) (wi : TI) (g : TG) (tt : TT) (te : TE) : TE := fun σ H Q => wi σ H fun J H1 => ∀ D, H1 D = none → LC src J g tt te σ H1 Q D
section
variable {X : Cx}
theorem pe_lc {elt tg iter : Expr} {ifs : List Expr} {scope : Scope} {pos : Pos} {src : List (Option Nat)} {N' : List Str} {wi : TI} {g : TG} {tt : TT} {te : TE} (hcap : Cap X scope src N') (hc : X.calm = true) (hi : PI X tg iter wi)
    (hg : ∀ cl C s₀ H₀ fp pn, PG (cxC X scope N' cl C s₀ H₀ fp pn) tg g) (ht : ∀ cl C s₀ H₀ fp pn, PTs (cxC X scope N' cl C s₀ H₀ fp pn) ifs tt) (he : ∀ cl C s₀ H₀ fp pn, PE (cxC X scope N' cl C s₀ H₀ fp pn) elt te)
    (hfree : ∀ x, (x, NameKind.free) ∈ scope.names → X.env.scope.names.lookup x = some NameKind.cell ∨ X.env.scope.names.lookup x = some NameKind.free)
    (hk : scope.kind = .function := by rfl) (hcell : ∀ y ∈ scope.names, y.2 ≠ .cell := by decide) (hnames : ∀ y ∈ scope.names, y.2 = .local → scope.names.lookup y.1 = some .local := by decide +kernel)
    (hs : ∀ x, foldedSetIterable iter X.env x = pure x := by intro _; rfl) : PE X (.ListComp elt [⟨tg, iter, ifs, 0⟩] scope pos) (tLC src wi g tt te) := by
  intro pins s σ H Q I h
  have no : ∀ {E : Value → Shared → Prop}, ∀ (e : Value) (s' : Shared), False → E e s' := fun _ _ f => f.elim
  obtain ⟨cl, hcl, a, b⟩ := closure_ok X.env scope fun x hx => I.ok.has x (hfree x hx)
  rw [eval_ListComp]
  refine wpAny_comprehension_free (use := none) rfl hs hcl hk hnames (thn (hi pins s σ H _ I h) fun v s1 h1 => thn h1 fun itv s2 h2 => ?_)
  obtain ⟨it, fp, tn, J, H2, e, I2, T, st2, f2, q⟩ := h2
  subst e
  have hD : H2 s2.heap.objs.size = none := I2.hok.fresh (Nat.le_refl _)
  obtain ⟨W, ⟨m0, w0⟩, turn⟩ := q s2.heap.objs.size hD
  have I3 := I2.lnew (t' := s2.toks) (ys := []) (its := []) .nil (Nat.zero_le _)
  have fl2 : ∀ b ∈ fp, b < s2.heap.objs.size := fun b hb => by
    obtain ⟨o, e, _⟩ := T.obj _ _ st2 b hb
    exact Heap.lt_size e
  refine wpAny_newObj_type ?_
  generalize es3 : ({ s2 with heap := s2.heap.push { cls := .type "list", dict := none, data := .seq ([] : List Value).toArray } } : Shared) = s3
  have I3' : Inv X pins σ (upd H2 s2.heap.objs.size (.lst [])) s3 := es3 ▸ I3
  have keep3 : ∀ b o, s2.heap.get? b = some o → s3.heap.get? b = some o := fun b o e => by rw [← es3]; exact Heap.get?_push_of_some _ e
  have st3 : tn 0 s3.heap := T.keep _ _ _ st2 fun b _ o e => keep3 b o e
  have fl3 : ∀ b ∈ fp, b < s3.heap.objs.size := fun b hb => by
    obtain ⟨o, e, _⟩ := T.obj _ _ st3 b hb
    exact Heap.lt_size e
  have f3 : ∀ b ∈ fp, FpOk X pins (upd H2 s2.heap.objs.size (.lst [])) b := fun b hb => ⟨by rw [upd_ne (Nat.ne_of_lt (fl2 b hb))]; exact (f2 b hb).1, (f2 b hb).2⟩
  generalize eD : s2.heap.objs.size = D at *
  generalize eH3 : upd H2 D (.lst []) = H3 at *
  refine wpAny_newFunctionEnv hcell (by intro y hy; simp at hy) (fun h₁ hns₁ hsb₁ => ?_) hk
  have keep4 : ∀ b o, s3.heap.get? b = some o → h₁.get? b = some o := fun b o e => hsb₁.extBut b o (Nat.ne_of_lt (Heap.lt_size e)) (Heap.get?_push_of_some _ e)
  have I4 := inv_comp (N' := N') (src := src) (tk := s3.toks + ([] : List (Str × Value)).length) hk hcell hcap a b I3' f3 fl3 rfl keep4 hns₁
  -- the iterator's objects, through the block
  have stat : ∀ {H' : Hp}, (∀ b ∈ fp, H' b = none) → ∀ b ∈ fp, FpOk (cxC X scope N' cl s3.heap.objs.size s3 H3 fp (X.pn ++ pins)) [] H' b := fun hn b' hb => by
    obtain ⟨f0, f1, fs, fe, f4, f5⟩ := f3 b' hb
    refine ⟨hn b' hb, Nat.ne_of_lt (fl3 b' hb), fun z => ?_, .inl hb, fun x c h => f4 x c (a x c h), fun p hp => f5 p (by simpa [cxC] using hp)⟩
    rcases List.mem_cons.mp (I3'.stkSub b' z) with e | e
    · exact f1 e
    · exact fs e
  -- behind the block
  have fin : ∀ {H' : Hp} {s' : Shared} {σ' : St} {pins' : List (Addr × Obj)}, Inv (cxC X scope N' cl s3.heap.objs.size s3 H3 fp (X.pn ++ pins)) pins' σ' H' s' → ∀ h', Heap.SameBut s3.heap.objs.size s'.heap h' → Inv X pins σ H' { s' with heap := h' } := fun {H' s' σ' pins'} J' h' sb => by
    have same : ∀ b o, b ≠ s3.heap.objs.size → s'.heap.get? b = some o → h'.get? b = some o := fun b o hb e => sb.extBut b o hb e
    have u : Un (frs X.stack) fp H3 H' s3.heap s'.heap := J'.base
    refine I3'.call' (s' := { s' with heap := h' }) (ch := fp) J'.os ⟨fun b o e n hb hx => ?_, fun b o e n hb hx => ?_, u.free, fun b o e hx => ?_, u.tups, u.frzs, u.tbls⟩ (fun b o e => ?_) J'.bare fun b hb => ?_
    · exact same b o (Nat.ne_of_lt (Heap.lt_size e)) (u.keep b o e n hb hx)
    · obtain ⟨sl, z⟩ := u.slot b o e n hb hx
      exact ⟨sl, same b _ (Nat.ne_of_lt (Heap.lt_size e)) z⟩
    · obtain ⟨o', z⟩ := u.there b o e hx
      exact ⟨o', same b o' (Nat.ne_of_lt (Heap.lt_size e)) z⟩
    · have nC : ∀ c v, H' c = some v → c ≠ s3.heap.objs.size := fun c v z q => by
        have := J'.free
        rw [show (cxC X scope N' cl s3.heap.objs.size s3 H3 fp (X.pn ++ pins)).env.locals = s3.heap.objs.size from rfl, ← q, z] at this
        cases this
      refine (J'.hok b o e).stay (fun c v hc q => same c v ?_ q) (fun _ q => q) fun _ _ q => q
      rcases hc with z | z
      · rw [z]; exact nC b o e
      · exact nC c _ z
    · obtain ⟨f0, f1, fs, fe, f4, f5⟩ := f3 b hb
      exact ⟨fe, f1, f4, f5⟩
  have loop : codeAny (model X.prog X.w) X.A (.compLoop (.ListComp elt [⟨tg, iter, ifs, 0⟩] scope pos) 0 (.ref it) (.ref D) (compEnvC scope cl s3.heap.objs.size X.env))
      (compPost (model X.prog X.w) X.A X.xe none (EP X pins σ Q) (.ref D) s3.heap.objs.size) { s3 with heap := h₁, toks := s3.toks + ([] : List (Str × Value)).length } := by
    refine comp_loop (fun n s' => ∃ i ys σ' H', Inv (cxC X scope N' cl s3.heap.objs.size s3 H3 fp (X.pn ++ pins)) [] σ' H' s' ∧ tn i s'.heap ∧ (∀ b ∈ fp, H' b = none) ∧ W i n ys σ' H') ?_ m0 ⟨0, [], capSt src σ, H3, I4, T.keep _ _ _ st3 fun b _ o e => keep4 b o e, fun b hb => (f3 b hb).1, w0⟩
    rintro n s5 ⟨i, ys, σ5, H5, I5, st5, fr5, w5⟩
    obtain ⟨hDs, stop | go⟩ := turn i n ys σ5 H5 w5
    · obtain ⟨stop, qn⟩ := stop
      refine thn (T.done (cxC X scope N' cl s3.heap.objs.size s3 H3 fp (X.pn ++ pins)) rfl rfl rfl hc i [] s5 σ5 H5 _ I5 (stat fr5) st5 stop) fun r s6 ⟨hr, I6⟩ => ?_
      subst hr
      obtain ⟨m, hn, _⟩ := id I6.loc
      exact ⟨m, hn, fun h' sb => ⟨.ref D, H5, fin I6 h' sb, rfl, qn⟩⟩
    · obtain ⟨go, N, hN, step⟩ := go
      refine thn (T.item (cxC X scope N' cl s3.heap.objs.size s3 H3 fp (X.pn ++ pins)) rfl rfl rfl hc i [] s5 σ5 H5 _ I5 (stat fr5) st5 go) fun r s6 ⟨u, hr, h6⟩ => ?_
      subst hr
      refine thn h6 fun _ s7 ⟨x, H7, I7, r7, y7, st7, fr7⟩ => ?_
      have I7' := I7.pinned (stat fr7) (T.obj _ _ st7)
      have again : ∀ {s8 : Shared} {σ8 : St} {H8 : Hp} {ys' : List V}, Inv (cxC X scope N' cl s3.heap.objs.size s3 H3 fp (X.pn ++ pins)) ([] ++ pinsAt fp s7.heap) σ8 H8 s8 → (∃ m', m' < n ∧ W (i + 1) m' ys' σ8 H8) →
          ∃ m, m < n ∧ ∃ i ys σ' H', Inv (cxC X scope N' cl s3.heap.objs.size s3 H3 fp (X.pn ++ pins)) [] σ' H' s8 ∧ tn i s8.heap ∧ (∀ b ∈ fp, H' b = none) ∧ W i m ys σ' H' := fun {s8 σ8 H8 ys'} I8 ⟨m', hm, w8⟩ => by
        refine ⟨m', hm, i + 1, ys', σ8, H8, I8.unpinned, T.keep _ _ _ st7 fun b hb o e => (I8.pin (b, o) (List.mem_append_right _ (List.mem_append_right _ (mem_pinsAt hb e)))).1, fun b hb => ?_, w8⟩
        obtain ⟨o, e, d⟩ := T.obj _ _ st7 b hb
        exact (I8.pin (b, o) (List.mem_append_right _ (List.mem_append_right _ (mem_pinsAt hb e)))).2.1
      refine thn (hg cl _ s3 H3 fp _ _ s7 σ5 H7 x u _ I7' r7 (step x H7 y7)) fun _ s8 ⟨σ8, H8, I8, q8⟩ => ?_
      refine thn (ht cl _ s3 H3 fp _ _ s8 σ8 H8 _ I8 q8) fun ok s9 ⟨H9, I9, q9⟩ => ?_
      cases ok with
      | false => exact again I9 (hN _ _ _ q9)
      | true =>
        rw [if_pos rfl]
        refine thn (he cl _ s3 H3 fp _ _ s9 σ8 H9 _ I9 q9) fun y s10 ⟨yv, H10, I10, r10, q10⟩ => ?_
        obtain ⟨hDy, hlen, w10⟩ := q10
        refine thn (mt_append (X := cxC X scope N' cl s3.heap.objs.size s3 H3 fp (X.pn ++ pins)) _ s10 σ8 H10 (.ref D) [yv] (.ref D) [y] (fun _ H' => H' = upd H10 D (.lst (ys ++ [yv]))) I10 rfl (.cons r10 .nil) ⟨D, ys, yv, rfl, rfl, hDy, hlen, rfl⟩) fun _ s11 ⟨_, H11, I11, _, e11⟩ => ?_
        subst e11
        exact again I11 (hN _ _ _ w10)
  exact codeAny_compStart_list loop (T.self _ 0 _ _ _ (T.keep _ _ _ st3 fun b _ o e => keep4 b o e) loop)
end
end L2
namespace L2
open PySem PySem.Spec PyProof.Rows

/-! ### texts: slices -/
def cutS (x : Str) (lo hi : Option Int) : Str := ⟨((x.cps.toList.drop (HT.sIx x.length 0 lo)).take (HT.sIx x.length x.length hi - HT.sIx x.length 0 lo)).toArray⟩
theorem sliceIx_eq (lo hi : Option Int) (n : Nat) : Builtin.Str.strSliceIndices lo hi 1 n = (List.range (HT.sIx n n hi - HT.sIx n 0 lo)).map fun k => HT.sIx n 0 lo + k := by
  have clip : ∀ (v : Int) (d : Nat), max 0 (min (if v < 0 then v + (n : Int) else v) (n : Int)) = ((HT.sIx n d (some v) : Nat) : Int) := fun v d => by
    show _ = (((if v < 0 then (v + (n : Int)).toNat else min v.toNat n) : Nat) : Int)
    by_cases hv : v < 0
    · simp only [if_pos hv]; omega
    · simp only [if_neg hv]; omega
  have key : ∀ (i j : Nat), sliceRange (i : Int) (j : Int) 1 = (List.range (j - i)).map fun k => i + k := fun i j => by
    unfold sliceRange
    have e : (if (1 : Int) > 0 then (if (i : Int) < (j : Int) then ((j : Int) - (i : Int) + 1 - 1) / 1 else 0) else (if (i : Int) > (j : Int) then ((i : Int) - (j : Int) - 1 - 1) / (-1) else 0)).toNat = j - i := by
      rw [if_pos (by decide)]
      by_cases h : (i : Int) < (j : Int)
      · rw [if_pos h, Int.ediv_one]; omega
      · rw [if_neg h]; omega
    dsimp only
    rw [e]
    refine List.map_congr_left fun k _ => ?_
    omega
  have lo' : (match lo with | none => (0 : Int) | some v => max 0 (min (if v < 0 then v + (n : Int) else v) (n : Int))) = ((HT.sIx n 0 lo : Nat) : Int) := by
    cases lo with
    | none => rfl
    | some v => exact clip v 0
  have hi' : (match hi with | none => (n : Int) | some v => max 0 (min (if v < 0 then v + (n : Int) else v) (n : Int))) = ((HT.sIx n n hi : Nat) : Int) := by
    cases hi with
    | none => rfl
    | some v => exact clip v n
  rw [← key, ← lo', ← hi']
  unfold Builtin.Str.strSliceIndices
  cases lo <;> cases hi <;> simp
theorem slice_eq (x : Str) (lo hi : Option Int) : Txt.slice x lo hi = cutS x lo hi := by
  have hle1 := HT.sIx_le x.length 0 (Nat.zero_le _) lo
  have hle2 := HT.sIx_le x.length x.length (Nat.le_refl _) hi
  have core : ((Builtin.Str.strSliceIndices lo hi 1 x.length).filterMap (x.cps[·]?)) = (x.cps.toList.drop (HT.sIx x.length 0 lo)).take (HT.sIx x.length x.length hi - HT.sIx x.length 0 lo) := by
    rw [sliceIx_eq, List.filterMap_map]
    generalize HT.sIx x.length 0 lo = i
    generalize HT.sIx x.length x.length hi - i = k
    have gen : ∀ (l : List Nat) (k : Nat), (List.range k).filterMap (fun m => l[m]?) = l.take k := by
      intro l k
      induction k with
      | zero => simp
      | succ k ih =>
        rw [List.range_succ, List.filterMap_append, ih]
        by_cases hk : k < l.length
        · rw [List.take_succ_eq_append_getElem hk]; simp [hk]
        · have h1 : l.take (k + 1) = l := List.take_of_length_le (by omega)
          have h2 : l.take k = l := List.take_of_length_le (by omega)
          rw [h1, h2]; simp [hk]
    have e : ((fun j => x.cps[j]?) ∘ fun k => i + k) = fun m => (x.cps.toList.drop i)[m]? := by
      funext m
      simp [List.getElem?_drop]
    rw [e, gen]
  unfold Txt.slice cutS
  rw [core]
  split
  · rename_i h
    simp only [beq_self_eq_true, Bool.true_and, beq_iff_eq] at h
    rw [sliceIx_eq, List.length_map, List.length_range] at h
    have h0 : HT.sIx x.length 0 lo = 0 ∨ x.length = 0 := by omega
    have e : (x.cps.toList.drop (HT.sIx x.length 0 lo)).take (HT.sIx x.length x.length hi - HT.sIx x.length 0 lo) = x.cps.toList := by
      have hl : x.cps.toList.length = x.length := by simp [Str.length]
      rcases h0 with h0 | h0
      · rw [h, h0, List.drop_zero, List.take_of_length_le (by omega)]
      · have : x.cps.toList = [] := List.eq_nil_of_length_eq_zero (by omega)
        rw [this]; simp
    rw [e]
  · rfl
theorem cutS_length_le (x : Str) (lo hi : Option Int) : (cutS x lo hi).length ≤ x.length := by
  rw [← slice_eq]; exact Txt.slice_le x lo hi
def rSlS : V → Option Int → Option Int → Hp → VK → Prop := fun x lo hi H Q => ∃ z, x = .str z ∧ z.length ≤ sizeLine ∧ Q (.str (cutS z lo hi)) H
section
variable {X : Cx}
theorem sl_str : SlR X rSlS := by
  intro pins s σ H x v vl vu lo hi sl Q I rx hs pl pu h
  obtain ⟨z, rfl, hz, q⟩ := h
  obtain ⟨t, rfl⟩ := rx
  refine ⟨"str", _, F.slot_str_getitem.lookup, typeIs_str _ _ _, ?_⟩
  have fin : ∀ (l u : Option (Int × Tok)), l.map (·.1) = lo → u.map (·.1) = hi → s.heap.IsSlice sl l u none → wpAny (model X.prog X.w) X.A (getItem (.str z t) (.ref sl)) (EP X pins σ Q) X.xe s := fun l u el eu hsl => by
    refine wpAny_getItem_str_slice (l := l) (u := u) (st := none) hsl rfl ?_
    have e : (if (((none : Option (Int × Tok)).map (·.1)).getD 1 == 1 && (slicePicked z l u none).length == z.length) = true then z else ⟨((slicePicked z l u none).filterMap (z.cps[·]?)).toArray⟩) = cutS z lo hi := by
      rw [← slice_eq, ← el, ← eu]
      rfl
    refine post_val_or_str ⟨by rw [e]; exact Nat.le_trans (cutS_length_le z lo hi) hz, fun t' k => ?_⟩
    rw [e]
    exact ⟨.str (cutS z lo hi), H, I.tok k, ⟨t', rfl⟩, q⟩
  obtain ⟨o, ho, hc, hd⟩ := hs
  cases pl with
  | none =>
    cases pu with
    | none => exact fin none none rfl rfl ⟨o, ho, hc, hd⟩
    | int j tj => exact fin none (some (j, tj)) rfl rfl ⟨o, ho, hc, hd⟩
  | int i ti =>
    cases pu with
    | none => exact fin (some (i, ti)) none rfl rfl ⟨o, ho, hc, hd⟩
    | int j tj => exact fin (some (i, ti)) (some (j, tj)) rfl rfl ⟨o, ho, hc, hd⟩
/-! ### texts: their signs, one after another -/
def Its (x : Str) : It := ⟨fun i _ => i < x.length, fun i H v H' => H' = H ∧ ∃ c, x.cps.toList[i]? = some c ∧ v = .str ⟨#[c]⟩, fun i _ => x.length ≤ i⟩
theorem turn_str {P : Program} {w : World} {K : PySem.W.Frag} {tg : Expr} (x : Str) (t : Tok) (it : Addr) : Turn P w K tg (Its x) [it] it (fun i h => h.IsStrIter it "str_ascii_iterator" x t i ∨ h.IsStrIter it "str_iterator" x t i) where
  mem := by simp
  obj := fun i h st b hb => by
    have e : b = it := by simpa using hb
    subst e
    rcases st with ⟨o, e, c, d⟩ | ⟨o, e, c, d⟩ <;> exact ⟨o, e, fun v z => by rw [d] at z; cases z⟩
  keep := fun i h h' st k => by
    rcases st with ⟨o, e, c⟩ | ⟨o, e, c⟩
    · exact .inl ⟨o, k it (by simp) o e, c⟩
    · exact .inr ⟨o, k it (by simp) o e, c⟩
  item := by
    intro X hP hw hK hc i pins s σ H E I hf st hg
    subst hP hw hK
    have hi : i < x.cps.size := hg
    have hx : x.cps[i]? = some x.cps[i] := by simp [hi]
    obtain ⟨f0, f1, f2, f3, f4, f5⟩ := hf it (by simp)
    have fin : ∀ (ty : String) (h' : Heap), ["enumerate", "zip", "dict_itemiterator", "dict_reverseitemiterator", "odict_iterator", "itertools.zip_longest", "itertools.pairwise"].contains ty = false → h'.IsStrIter it ty x t (i + 1) → Heap.SameBut it s.heap h' →
        (h'.IsStrIter it ty x t (i + 1) → (h'.IsStrIter it "str_ascii_iterator" x t (i + 1) ∨ h'.IsStrIter it "str_iterator" x t (i + 1))) →
        ∃ u, some (Value.str ⟨#[x.cps[i]]⟩ s.toks) = some u ∧ wpAny (model X.prog X.w) X.A (letOwnedTupleGo tg (.ref it) u) (fun _ s2 => ∃ y H', Inv X pins σ H' s2 ∧ RelV y u ∧ (Its x).yld i H y H' ∧
          (s2.heap.IsStrIter it "str_ascii_iterator" x t (i + 1) ∨ s2.heap.IsStrIter it "str_iterator" x t (i + 1)) ∧ ∀ b ∈ [it], H' b = none) E { s with heap := h', toks := s.toks + 1 } := fun ty h' hn st' sb hor => by
      have I1 : Inv X pins σ H { s with heap := h', toks := s.toks + 1 } := I.turned (t' := s.toks + 1) (fun b o hb e => (sb.2 b hb).trans e) f0 f1 f3 f4 f5
      obtain ⟨o, e, c, d⟩ := id st'
      exact ⟨_, rfl, go_of (s := { s with heap := h', toks := s.toks + 1 }) e c d hn ⟨.str ⟨#[x.cps[i]]⟩, H, I1, ⟨_, rfl⟩, ⟨rfl, x.cps[i], by simp [hi], rfl⟩, hor st', fun b hb => (hf b hb).1⟩⟩
    rcases st with st | st
    · exact wpAny_pyNext_ascii_item st hx fun h' st' sb => fin _ h' (by decide) st' sb .inl
    · exact wpAny_pyNext_wide_item st hx fun h' st' sb => fin _ h' (by decide) st' sb .inr
  done := by
    intro X hP hw hK hc i pins s σ H E I hf st hg
    subst hP hw hK
    have hi : x.cps.size ≤ i := hg
    have hx : x.cps[i]? = none := by simp [hi]
    obtain ⟨f0, f1, f2, f3, f4, f5⟩ := hf it (by simp)
    rcases st with st | st
    · exact wpAny_pyNext_ascii_end (I.ok.hd hc) st hx fun h' eb => ⟨rfl, I.turned (t' := s.toks) (fun b o hb e => eb b o hb e) f0 f1 f3 f4 f5⟩
    · exact wpAny_pyNext_wide_end (I.ok.hd hc) st hx fun h' eb => ⟨rfl, I.turned (t' := s.toks) (fun b o hb e => eb b o hb e) f0 f1 f3 f4 f5⟩
  self := fun A i s Q E st h => by
    rcases st with st | st
    · exact wpAny_pyIter_slot st.typeIs F.slot_str_ascii_iterator_iter (wpAny_call_entry F.slot_str_ascii_iterator_iter st.typeIs F.entry_str_ascii_iterator_iter (wpAny_pure ⟨_, rfl, "str_ascii_iterator", _, st.typeIs, F.slot_str_ascii_iterator_next.lookup, h⟩) (F.args_str_ascii_iterator_iter_1 _))
    · exact wpAny_pyIter_slot st.typeIs F.slot_str_iterator_iter (wpAny_call_entry F.slot_str_iterator_iter st.typeIs F.entry_str_iterator_iter (wpAny_pure ⟨_, rfl, "str_iterator", _, st.typeIs, F.slot_str_iterator_next.lookup, h⟩) (F.args_str_iterator_iter_1 _))
end
end L2
namespace L2
open PySem PySem.Spec PyProof.Rows
section
variable {X : Cx} {tg : Expr}
def iStr (tl : TE) : TI := fun σ H R => tl σ H fun x H1 => ∃ z, x = .str z ∧ R (Its z) H1
theorem pi_str {l : Expr} {tl : TE} (hl : PE X l tl) : PI X tg l (iStr tl) := by
  intro pins s σ H R I h
  refine thn (hl pins s σ H _ I h) fun v s1 ⟨x, H1, I1, r1, q1⟩ => ?_
  obtain ⟨z, e, q⟩ := q1
  subst e
  obtain ⟨t, rfl⟩ := r1
  refine wpAny_pyIter_strU ?_
  refine ⟨s1.heap.objs.size, [s1.heap.objs.size], _, _, H1, rfl, I1.kept (t' := s1.toks) fun b o e => Heap.get?_push_of_some _ e, turn_str z t _, ?_, fun b hb => ?_, q⟩
  · unfold strIterType
    split
    · exact .inl ⟨_, Heap.get?_push_size _ rfl, rfl, rfl⟩
    · exact .inr ⟨_, Heap.get?_push_size _ rfl, rfl, rfl⟩
  · have e : b = s1.heap.objs.size := by simpa using hb
    subst e
    exact I1.fpOk (Nat.le_refl _) (I1.hok.fresh (Nat.le_refl _))
/-- over a sequence that yields the items of xs, whatever the turns do -/
def ItSeq (J : It) (P : Hp → Prop) (xs : List V) : Prop := ∀ H, P H → ∀ i, (∀ x, xs[i]? = some x → J.go i H ∧ ∀ y H', J.yld i H y H' → H' = H ∧ y = x) ∧ (xs.length ≤ i → J.stop i H)
theorem itseq_str (z : Str) (P : Hp → Prop) : ItSeq (Its z) P (z.cps.toList.map fun c => .str ⟨#[c]⟩) := fun H _ i => by
  refine ⟨fun x hx => ?_, fun hi => ?_⟩
  · rw [List.getElem?_map] at hx
    cases e : z.cps.toList[i]? with
    | none => rw [e] at hx; simp at hx
    | some c =>
      rw [e] at hx
      have hx' : V.str ⟨#[c]⟩ = x := by simpa using hx
      subst hx'
      have hi : i < z.cps.toList.length := (List.getElem?_eq_some_iff.mp e).1
      refine ⟨by show i < z.cps.size; simpa using hi, fun y H' ⟨e1, c', e2, e3⟩ => ⟨e1, ?_⟩⟩
      rw [e] at e2
      cases e2
      exact e3
  · show z.cps.size ≤ i
    simpa using hi
theorem itseq_tup {K : PySem.W.Frag} {a : Addr} {xs : List V} : ItSeq (Itt K a) (fun H => SqT K H a xs) xs := fun H hq i => by
  refine ⟨fun x hx => ⟨⟨xs, x, hq, hx⟩, fun y H' ⟨e1, e2⟩ => ⟨e1, ?_⟩⟩, fun hi => ⟨xs, hq, hi⟩⟩
  have := e2 xs hq
  rw [hx] at this
  exact (Option.some.inj this).symm
theorem itseq_list {K : PySem.W.Frag} {a : Addr} {xs : List V} : ItSeq (Itl K a) (fun H => SqL K H a xs) xs := fun H hq i => by
  refine ⟨fun x hx => ⟨⟨xs, x, hq, hx⟩, fun y H' ⟨e1, e2⟩ => ⟨e1, ?_⟩⟩, fun hi => ⟨xs, hq, hi⟩⟩
  have := e2 xs hq
  rw [hx] at this
  exact (Option.some.inj this).symm
theorem itseq_range {lo : Int} {n : Nat} {P : Hp → Prop} : ItSeq (Itr lo n) P ((List.range n).map fun (i : Nat) => V.int (lo + i)) := fun H hq i => by
  refine ⟨fun x hx => ?_, fun hi => by show n ≤ i; simpa using hi⟩
  have hi : i < n := by
    have := (List.getElem?_eq_some_iff.mp hx).1
    simpa using this
  refine ⟨hi, fun y H' ⟨e1, e2⟩ => ⟨e1, ?_⟩⟩
  rw [List.getElem?_map, List.getElem?_range hi] at hx
  rw [e2]
  simpa using hx
theorem ItSeq.imp {J : It} {P P' : Hp → Prop} {xs : List V} (h : ItSeq J P xs) (hp : ∀ H, P' H → P H) : ItSeq J P' xs := fun H q => h H (hp H q)
/-- a comprehension over such a sequence, by what holds between two turns -/
theorem lc_by {J : It} {P : Hp → Prop} {xs : List V} (hJ : ItSeq J P xs) {src : List (Option Nat)} {g : TG} {tt : TT} {te : TE} {σ : St} {H1 : Hp} {Q : VK} {D : Addr} (Pv : Nat → List V → St → Hp → Prop)
    (h0 : Pv 0 [] (capSt src σ) (upd H1 D (.lst []))) (hP : ∀ i ys σ' H', Pv i ys σ' H' → P H' ∧ H' D = some (.lst ys))
    (step : ∀ i ys σ' H' x, xs[i]? = some x → Pv i ys σ' H' → g x σ' H' fun σ2 H4 => tt σ2 H4 fun b H5 => if b = true then te σ2 H5 fun y H6 => H6 D = some (.lst ys) ∧ ys.length < sizeLine ∧ Pv (i + 1) (ys ++ [y]) σ2 (upd H6 D (.lst (ys ++ [y]))) else Pv (i + 1) ys σ2 H5)
    (fin : ∀ ys σ' H', Pv xs.length ys σ' H' → Q (.ref D) H') :
    LC src J g tt te σ H1 Q D := by
  refine ⟨fun i m ys σ' H' => m = xs.length - i ∧ i ≤ xs.length ∧ Pv i ys σ' H', ⟨xs.length, by simp, Nat.zero_le _, h0⟩, ?_⟩
  rintro i m ys σ' H2 ⟨rfl, hi, p⟩
  obtain ⟨hp, hD⟩ := hP i ys σ' H2 p
  refine ⟨hD, ?_⟩
  by_cases hlt : i < xs.length
  · obtain ⟨go, yl⟩ := (hJ H2 hp i).1 xs[i] (by simp [hlt])
    refine .inr ⟨go, fun ys' σ3 H3 => Pv (i + 1) ys' σ3 H3, fun ys' σ3 H3 p' => ⟨xs.length - (i + 1), by omega, rfl, hlt, p'⟩, fun x H3 y => ?_⟩
    obtain ⟨e1, e2⟩ := yl x H3 y
    subst e1 e2
    exact step i ys σ' _ _ (by simp [hlt]) p
  · have e : i = xs.length := by omega
    subst e
    exact .inl ⟨(hJ H2 hp _).2 (Nat.le_refl _), fin ys σ' H2 p⟩
theorem Same.upd_new {H : Hp} {p : Addr} (h : H p = none) (o : HO) : Same H (upd H p o) := fun b u q => by rw [upd_ne (ne_of_none q h)]; exact q
theorem Same.upd_over {H H' : Hp} {p : Addr} (h : H p = none) (e : Same H H') (o : HO) : Same H (upd H' p o) := fun b u q => by rw [upd_ne (ne_of_none q h)]; exact e b u q
theorem Same.tup {K : PySem.W.Frag} {H H' : Hp} {a : Addr} {xs : List V} (e : Same H H') (h : SqT K H a xs) : SqT K H' a xs := by
  rcases h with (h | ⟨o, h⟩) | h
  · exact .inl (.inl (e _ _ h))
  · exact .inl (.inr ⟨o, e _ _ h⟩)
  · exact .inr h
end

/-! ### all, any, join -/
section
variable {X : Cx}
theorem bools_of : ∀ {bs : List Bool} {us : List Value}, Vals (bs.map V.bl) us → LSm.BoolsAre us bs
  | [], _, h => by rw [Vals.zero h]; exact .nil
  | b :: bs, us, h => by
    have h' : Vals (V.bl b :: bs.map V.bl) us := h
    cases h' with
    | cons r t => cases (show _ = Value.bool b from r); exact .cons b (bools_of t)
theorem call_all_bools (hc : X.calm = true) : CallR X (.builtin "all") (fun xs H Q => ∃ (p : Addr) (bs : List Bool), xs = [.ref p] ∧ SqL X.K H p (bs.map V.bl) ∧ Q (.bl (bs.all id)) H) := by
  intro pins s σ H xs us Q I r h
  obtain ⟨p, bs, rfl, hq, q⟩ := h
  obtain ⟨u, rfl, rx⟩ := vals1 r
  cases rx
  obtain ⟨its, r', pl, hz⟩ := I.list hq
  have hb := bools_of r'
  have hl := pl.isList
  have hlt : p < s.heap.objs.size := by obtain ⟨_, e, _⟩ := hl; exact Heap.lt_size e
  refine call_all_walk (wpAny_pyIter_list hl ?_)
  refine ⟨s.heap.objs.size, [s.heap.objs.size, p], [s.heap.objs.size], its.toArray.size, _, _, fun i => (bs[i]?).getD true, rfl, Walks.list (A := X.A.in1) (I.ok.hd hc) _ p (Nat.ne_of_lt hlt) its.toArray,
    ⟨⟨_, Heap.get?_push_size _ rfl, rfl, rfl⟩, hl.push _⟩, fun i v s' Q' E' hP hQ => ?_, fun h' tk hk => ?_⟩
  · obtain ⟨b, e, rfl⟩ := hb.get i v (by simpa using hP)
    simp only [e, Option.getD_some] at hQ
    exact wpAny_truthy_bool hQ
  · have e : ((List.range its.toArray.size).all fun i => (bs[i]?).getD true) = bs.all id := by
      rw [List.size_toArray, hb.length]; exact LSm.range_all bs
    rw [e]
    exact ⟨.bl _, H, I.kept (t' := tk) (LSm.kept_iter hk), rfl, q⟩
theorem strs_of : ∀ {ys : List Str} {us : List Value}, Vals (ys.map V.str) us → StrsAre us ys
  | [], _, h => by rw [Vals.zero h]; exact .nil
  | y :: ys, us, h => by
    have h' : Vals (V.str y :: ys.map V.str) us := h
    cases h' with
    | cons r t => obtain ⟨t', rfl⟩ := r; exact .cons y t' (strs_of t)
/-- sep.join(a list of texts) -/
def rJoin (K : PySem.W.Frag) : V → List V → Hp → VK → Prop := fun x vs H Q => ∃ (z : Str) (p : Addr) (ys : List Str), x = .str z ∧ vs = [.ref p] ∧ SqL K H p (ys.map V.str) ∧ (ys.map (·.length)).sum + ys.length * z.length ≤ 16777216 ∧ Q (.str (Txt.join z ys)) H
theorem mt_join : MtR X "str.join" (rJoin X.K) := by
  intro pins s σ H x vs v us Q I rx rv h
  obtain ⟨z, p, ys, rfl, rfl, hq, hl, q⟩ := h
  obtain ⟨t, rfl⟩ := rx
  obtain ⟨u, rfl, ru⟩ := rv.one
  cases ru
  obtain ⟨its, r, pl, hz⟩ := I.list hq
  exact join_list pl.isList (by simpa using strs_of r) hl fun t' k => ⟨.str _, H, I.tok k, ⟨t', rfl⟩, q⟩

/-! ### isinstance(e, a built-in type), isinstance(e, an own class) -/
def clsV : V → Option Value
  | .ty n => some (.type n)
  | .ref a => some (.ref a)
  | _ => none
theorem call_isinst : CallR X (.builtin "isinstance") (fun xs H Q => ∃ x c cv t b, xs = [x, c] ∧ clsV c = some cv ∧ TyOf X.K H x t ∧ PySem.W.kitOne X.K t cv = some b ∧ Q (.bl b) H) := by
  intro pins s σ H xs us Q I r h
  obtain ⟨x, c, cv, t, b, rfl, ec, ty, e, q⟩ := h
  obtain ⟨u, w', rfl, ru, rw'⟩ := vals2 r
  have ew : w' = cv := by
    cases c with
    | ty n => cases (show w' = Value.type n from rw'); simpa [clsV] using ec
    | ref a => cases (show w' = Value.ref a from rw'); simpa [clsV] using ec
    | _ => simp [clsV] at ec
  subst ew
  exact isinst_ok I ru ty e fun tk => ⟨.bl b, H, I.tok tk, rfl, q⟩

/-! ### == of two lists, != of two lists: flat items -/
def eqVs (xs ys : List V) : Bool := xs.length == ys.length && (List.range xs.length).all fun j => match xs[j]?, ys[j]? with | some x, some y => eqV x y | _, _ => false
end
end L2
namespace L2
open PySem PySem.Spec PyProof.Rows
/-! ### zip of two sequences -/
/-- an iterator within a zip: at k, in the heap h, the next is what get tells -/
structure Sub (P : Program) (w : World) (i : Addr) (St : Nat → Heap → Prop) (Ready : Heap → (Nat → Option Value) → Prop) : Prop where
  obj : ∀ k h, St k h → ∃ o, h.get? i = some o ∧ ∀ v, o.data ≠ .cell v
  keep : ∀ k h h', St k h → (∀ o, h.get? i = some o → h'.get? i = some o) → St k h'
  item : ∀ (A : Around) (k : Nat) (s : Shared) (get : Nat → Option Value) (x : Value) (Q : Value → Shared → Prop) (E : Value → Shared → Prop), St k s.heap → Ready s.heap get → get k = some x →
    (∀ h' tk, St (k + 1) h' → Heap.SameBut i s.heap h' → Q x { s with heap := h', toks := tk }) → wpAny (model P w) A (Builtin.SmallTypes.nextOf (.ref i)) Q E s
  fin : ∀ (A : Around) (k : Nat) (s : Shared) (get : Nat → Option Value) (Q : Value → Shared → Prop) (E : Value → Shared → Prop), A.handled = none → St k s.heap → Ready s.heap get → get k = none →
    (∀ h' e, Heap.ExtBut i s.heap h' → (∃ o, h'.get? e = some o ∧ o.cls = .type "StopIteration") → E (.ref e) { s with heap := h' }) → wpAny (model P w) A (Builtin.SmallTypes.nextOf (.ref i)) Q E s
section
variable {prog : Program} {w : World} {A : Around} {E : Value → Shared → Prop} {s : Shared}
theorem nextOf_tuple_item {it t : Addr} {i : Nat} {items : Array Value} {x : Value} {Q : Value → Shared → Prop} (hit : s.heap.IsTupleIter it t i) (ht : s.heap.IsTuple t items) (hx : items[i]? = some x)
    (hQ : ∀ h', h'.IsTupleIter it t (i + 1) → Heap.SameBut it s.heap h' → Q x { s with heap := h' }) : wpAny (model prog w) A (Builtin.SmallTypes.nextOf (.ref it)) Q E s := by
  obtain ⟨o, ho, hc, hd⟩ := id hit
  obtain ⟨ol, hol, _, nl, hdl⟩ := ht
  unfold Builtin.SmallTypes.nextOf
  refine wpAny_bind (wpAny_callSpecial?_slot (name := Str.ofString "__next__") hit.typeIs F.slot_tuple_iterator_next (wpAny_call_entry F.slot_tuple_iterator_next hit.typeIs F.entry_tuple_iterator_next ?_ (F.args_tuple_iterator_next_1 _)))
  show wpAny _ _ (field (.ref it) 0 >>= _) _ _ s
  refine wpAny_bind (wpAny_field ho hd (x := .ref t) rfl ?_)
  show wpAny _ _ (if (Value.ref t == Value.none) = true then _ else _) _ _ s
  rw [if_neg (show ¬ ((Value.ref t == Value.none) = true) from Bool.false_ne_true)]
  show wpAny _ _ (field (.ref it) 1 >>= _) _ _ s
  refine wpAny_bind (wpAny_field ho hd (x := .int i 0) rfl ?_)
  show wpAny _ _ (seqItems? (.ref t) >>= _) _ _ s
  refine wpAny_bind (wpAny_seqItems hol hdl ?_)
  simp only [Int.toNat_natCast, hx]
  refine wpAny_bind (wpAny_setField ho hd (by simp) (wpAny_pure ⟨x, rfl, wpAny_pure (hQ _ ?_ (Heap.SameBut.update ..))⟩))
  exact ⟨_, Heap.get?_update_self _ ho (Obj.isFreed_of_fields (Obj.data_mapFields hd _)), (Obj.cls_mapFields ..).trans hc, by rw [Obj.data_mapFields hd]; simp [rawInt]⟩
theorem nextOf_tuple_end {it t : Addr} {i : Nat} {items : Array Value} {Q : Value → Shared → Prop} (hh : A.handled = none) (hit : s.heap.IsTupleIter it t i) (ht : s.heap.IsTuple t items) (hx : items[i]? = none)
    (hE : ∀ h' e, Heap.ExtBut it s.heap h' → (∃ o, h'.get? e = some o ∧ o.cls = .type "StopIteration") → E (.ref e) { s with heap := h' }) : wpAny (model prog w) A (Builtin.SmallTypes.nextOf (.ref it)) Q E s := by
  obtain ⟨o, ho, hc, hd⟩ := id hit
  obtain ⟨ol, hol, _, nl, hdl⟩ := ht
  unfold Builtin.SmallTypes.nextOf
  refine wpAny_bind (wpAny_callSpecial?_slot (name := Str.ofString "__next__") hit.typeIs F.slot_tuple_iterator_next (wpAny_call_entry F.slot_tuple_iterator_next hit.typeIs F.entry_tuple_iterator_next ?_ (F.args_tuple_iterator_next_1 _)))
  show wpAny _ _ (field (.ref it) 0 >>= _) _ _ s
  refine wpAny_bind (wpAny_field ho hd (x := .ref t) rfl ?_)
  show wpAny _ _ (if (Value.ref t == Value.none) = true then _ else _) _ _ s
  rw [if_neg (show ¬ ((Value.ref t == Value.none) = true) from Bool.false_ne_true)]
  show wpAny _ _ (field (.ref it) 1 >>= _) _ _ s
  refine wpAny_bind (wpAny_field ho hd (x := .int i 0) rfl ?_)
  show wpAny _ _ (seqItems? (.ref t) >>= _) _ _ s
  refine wpAny_bind (wpAny_seqItems hol hdl ?_)
  simp only [Int.toNat_natCast, hx]
  refine wpAny_bind (wpAny_rule (wpAny_bind (wpAny_setField ho hd (by simp) ?_)))
  show wpAny _ _ (newExc (.type "StopIteration") [] >>= _) _ _ _
  refine wpAny_bind ?_
  simp only [newExc, newTuple]
  refine wpAny_bind (wpAny_newObj_type ?_ (by size_fits))
  refine wpAny_bind (m := firstArgMember _ _) (wpAny_of_eq (a := Value.none) (by first | rfl | (simp only [firstArgMember]; rfl)) ?_)
  refine wpAny_newObj_type ?_ (by size_fits)
  simp only [raiseNew]
  refine wpAny_bind (wpAny_handled ?_)
  first | rw [show A.in1.handled = none from hh] | rw [hh]
  refine wpAny_bind (wpAny_pure (wpAny_throw ?_))
  exact hE _ _ (((Heap.SameBut.update ..).extBut.push _).push _) ⟨_, Heap.get?_push_size _ rfl, rfl⟩
end
theorem sub_tuple {P : Program} {w : World} (i t : Addr) : Sub P w i (fun k h => h.IsTupleIter i t k) (fun h get => ∃ items : Array Value, h.IsTuple t items ∧ ∀ k, get k = items[k]?) where
  obj := fun k h ⟨o, e, c, d⟩ => ⟨o, e, fun v z => by rw [d] at z; cases z⟩
  keep := fun k h h' st q => st.at q
  item := fun A k s get x Q E st ⟨items, ht, hg⟩ hx hQ => nextOf_tuple_item st ht ((hg k).symm.trans hx) fun h' st' sb => hQ h' s.toks st' sb
  fin := fun A k s get Q E hh st ⟨items, ht, hg⟩ hx hE => nextOf_tuple_end hh st ht ((hg k).symm.trans hx) hE
theorem sub_list {P : Program} {w : World} (i t : Addr) : Sub P w i (fun k h => h.IsListIter i t k) (fun h get => ∃ items : Array Value, h.IsList t items ∧ ∀ k, get k = items[k]?) where
  obj := fun k h ⟨o, e, c, d⟩ => ⟨o, e, fun v z => by rw [d] at z; cases z⟩
  keep := fun k h h' st q => st.at q
  item := fun A k s get x Q E st ⟨items, ht, hg⟩ hx hQ => wpAny_nextOf_list_item st ht ((hg k).symm.trans hx) fun h' st' sb => hQ h' s.toks st' sb
  fin := fun A k s get Q E hh st ⟨items, ht, hg⟩ hx hE => wpAny_nextOf_list_end hh st ht ((hg k).symm.trans hx) hE

structure ZApart (z TI TO i1 i2 : Addr) : Prop where
  a : TI ≠ z
  b : TO ≠ z
  c : i1 ≠ z
  d : i2 ≠ z
  e : TI ≠ TO
  f : TI ≠ i1
  g : TI ≠ i2
  h : TO ≠ i1
  i : TO ≠ i2
  j : i1 ≠ i2
section
variable {prog : Program} {w : World} {A : Around} {E : Value → Shared → Prop} {s : Shared} {z TI TO i1 i2 : Addr} {S1 S2 : Nat → Heap → Prop} {R1 R2 : Heap → (Nat → Option Value) → Prop} {g1 g2 : Nat → Option Value} {k : Nat} {a b : Value}
theorem zip_item {x y : Value} {Q : Option Value → Shared → Prop} (D : ZApart z TI TO i1 i2) (U1 : Sub prog w i1 S1 R1) (U2 : Sub prog w i2 S2 R2)
    (k1 : ∀ h h' g, R1 h g → (∀ c o, c ≠ z → c ≠ TO → c ≠ i1 → c ≠ i2 → h.get? c = some o → h'.get? c = some o) → R1 h' g) (k2 : ∀ h h' g, R2 h g → (∀ c o, c ≠ z → c ≠ TO → c ≠ i1 → c ≠ i2 → h.get? c = some o → h'.get? c = some o) → R2 h' g)
    (hz : IsZip s.heap z TI TO .none) (hTI : IsPair s.heap TI (.ref i1) (.ref i2)) (hTO : IsPair s.heap TO a b) (h1 : S1 k s.heap) (h2 : S2 k s.heap) (r1 : R1 s.heap g1) (r2 : R2 s.heap g2) (hx : g1 k = some x) (hy : g2 k = some y)
    (hQ : ∀ h' tk, IsZip h' z TI TO (rawInt s.heap.objs.size) → IsPair h' TO x y → S1 (k + 1) h' → S2 (k + 1) h' → IsPair h' s.heap.objs.size x y → h'.objs.size = s.heap.objs.size + 1 →
      (∀ c o, c ≠ z → c ≠ TO → c ≠ i1 → c ≠ i2 → s.heap.get? c = some o → h'.get? c = some o) → Q (some (.ref s.heap.objs.size)) { s with heap := h', toks := tk }) :
    wpAny (model prog w) A (pyNext (.ref z)) Q E s := by
  have hT : s.TypeIs (.ref z) "zip" := ⟨_, hz, rfl⟩
  unfold pyNext
  refine wpAny_bind (wpAny_attempt (wpAny_callSpecial?_slot (name := Str.ofString "__next__") hT F.slot_zip_next (wpAny_call_entry F.slot_zip_next hT F.entry_zip_next ?_ (F.args_zip_next_1 _))))
  show wpAny _ _ (field (.ref z) 2 >>= _) _ _ _
  refine wpAny_bind (wpAny_field hz rfl (x := .bool false) rfl ?_)
  show wpAny _ _ (field (.ref z) 3 >>= _) _ _ _
  refine wpAny_bind (wpAny_field hz rfl (x := .ref TI) rfl ?_)
  refine wpAny_bind (wpAny_seqItems hTI rfl ?_)
  show wpAny _ _ (Builtin.SmallTypes.ownedTupleIsFree (.ref z) >>= _) _ _ _
  refine wpAny_bind ?_
  unfold Builtin.SmallTypes.ownedTupleIsFree
  refine wpAny_bind (wpAny_field hz rfl (x := .none) rfl (wpAny_pure ?_))
  simp only [if_true]
  refine wpAny_bind (wpAny_rule ?_)
  refine wpAny_bind (wpAny_field hz rfl (x := .ref TO) rfl ?_)
  refine wpAny_bind (wpAny_setField_rec hz (by simp) fun h₁ hz₁ hs₁ => ?_)
  replace hz₁ : IsZip h₁ z TI TO .ellipsis := hz₁
  refine wpAny_bind ?_
  simp only [List.zipIdx_cons, List.zipIdx_nil, List.forIn_cons, List.forIn_nil]
  refine wpAny_bind (wpAny_bind (wpAny_onRaise ?_))
  show wpAny _ _ (Builtin.SmallTypes.nextOf (.ref i1) >>= _) _ _ _
  have S1₁ : S1 k h₁ := U1.keep _ _ _ h1 fun o e => hs₁.extBut _ _ D.c e
  have R1₁ : R1 h₁ g1 := k1 _ _ _ r1 fun c o c1 _ _ _ e => hs₁.extBut _ _ c1 e
  refine wpAny_bind (U1.item _ k { s with heap := h₁ } g1 x _ _ S1₁ R1₁ hx fun h₂ tk₂ S1₂ hs₂ => wpAny_pure ?_)
  have hTO₂ : IsPair h₂ TO a b := hs₂.extBut _ _ D.h (hs₁.extBut _ _ D.b hTO)
  refine wpAny_bind (wpAny_seqItems hTO₂ rfl ?_)
  refine wpAny_bind (wpAny_updateSeq_pair hTO₂ fun h₃ hTO₃ hs₃ => ?_)
  replace hTO₃ : IsPair h₃ TO x b := hTO₃
  refine wpAny_bind (wpAny_letGo (wpAny_pure ?_))
  refine wpAny_bind (wpAny_bind (wpAny_onRaise ?_))
  show wpAny _ _ (Builtin.SmallTypes.nextOf (.ref i2) >>= _) _ _ _
  have kk₃ : ∀ c o, c ≠ z → c ≠ TO → c ≠ i1 → c ≠ i2 → s.heap.get? c = some o → h₃.get? c = some o := fun c o c1 c2 c3 c4 e => hs₃.extBut _ _ c2 (hs₂.extBut _ _ c3 (hs₁.extBut _ _ c1 e))
  have S2₃ : S2 k h₃ := U2.keep _ _ _ h2 fun o e => hs₃.extBut _ _ D.i.symm (hs₂.extBut _ _ D.j.symm (hs₁.extBut _ _ D.d e))
  refine wpAny_bind (U2.item _ k { s with heap := h₃, toks := tk₂ } g2 y _ _ S2₃ (k2 _ _ _ r2 kk₃) hy fun h₄ tk₄ S2₄ hs₄ => wpAny_pure ?_)
  have hTO₄ : IsPair h₄ TO x b := hs₄.extBut _ _ D.i hTO₃
  refine wpAny_bind (wpAny_seqItems hTO₄ rfl ?_)
  refine wpAny_bind (wpAny_updateSeq_pair hTO₄ fun h₅ hTO₅ hs₅ => ?_)
  replace hTO₅ : IsPair h₅ TO x y := hTO₅
  refine wpAny_bind (wpAny_letGo (wpAny_pure (wpAny_pure ?_)))
  refine wpAny_bind (wpAny_seqItems hTO₅ rfl ?_)
  refine wpAny_bind (wpAny_newTuple ?_)
  have hsz : h₅.objs.size = s.heap.objs.size := by rw [hs₅.1, hs₄.1, hs₃.1, hs₂.1, hs₁.1]
  have hz₅ : IsZip h₅ z TI TO .ellipsis := hs₅.extBut _ _ D.b.symm (hs₄.extBut _ _ D.d.symm (hs₃.extBut _ _ D.b.symm (hs₂.extBut _ _ D.c.symm hz₁)))
  have hk₅ : ∀ c o, c ≠ z → c ≠ TO → c ≠ i1 → c ≠ i2 → s.heap.get? c = some o → h₅.get? c = some o := fun c o c1 c2 c3 c4 e => hs₅.extBut _ _ c2 (hs₄.extBut _ _ c4 (kk₃ c o c1 c2 c3 c4 e))
  have S1₅ : S1 (k + 1) h₅ := U1.keep _ _ _ S1₂ fun o e => hs₅.extBut _ _ D.h.symm (hs₄.extBut _ _ D.j (hs₃.extBut _ _ D.h.symm e))
  have S2₅ : S2 (k + 1) h₅ := U2.keep _ _ _ S2₄ fun o e => hs₅.extBut _ _ D.i.symm e
  have hzlt : z < h₅.objs.size := Heap.lt_size hz₅
  show wpAny _ _ (Builtin.SmallTypes.ownedTupleHandOut (.ref z) (.ref h₅.objs.size) >>= _) _ _ _
  refine wpAny_bind ?_
  unfold Builtin.SmallTypes.ownedTupleHandOut
  have hz₆ : IsZip (h₅.push { cls := .type "tuple", data := .seq #[x, y] }) z TI TO .ellipsis := Heap.get?_push_of_some _ hz₅
  refine wpAny_bind (wpAny_setField_rec hz₆ (by simp) fun h₇ hz₇ hs₇ => ?_)
  replace hz₇ : IsZip h₇ z TI TO (rawInt h₅.objs.size) := hz₇
  refine wpAny_setField_rec hz₇ (by simp) fun h₈ hz₈ hs₈ => ?_
  replace hz₈ : IsZip h₈ z TI TO (rawInt h₅.objs.size) := hz₈
  have up : ∀ c o, c ≠ z → h₅.get? c = some o → h₈.get? c = some o := fun c o c1 e => hs₈.extBut _ _ c1 (hs₇.extBut _ _ c1 (Heap.get?_push_of_some _ e))
  have hT₈ : IsPair h₈ h₅.objs.size x y := hs₈.extBut _ _ (Nat.ne_of_gt hzlt) (hs₇.extBut _ _ (Nat.ne_of_gt hzlt) (Heap.get?_push_size _ rfl))
  have hz8 : h₈.objs.size = h₅.objs.size + 1 := by rw [hs₈.1, hs₇.1, Heap.size_push]
  rw [hsz] at hz₈ hT₈ hz8
  refine wpAny_pure ⟨_, rfl, wpAny_pure ?_⟩
  show Q (some (.ref h₅.objs.size)) _
  rw [hsz]
  exact hQ h₈ tk₄ hz₈ (up _ _ D.b hTO₅) (U1.keep _ _ _ S1₅ fun o e => up _ o D.c e) (U2.keep _ _ _ S2₅ fun o e => up _ o D.d e) hT₈ hz8 fun c o c1 c2 c3 c4 e => up c o c1 (hk₅ c o c1 c2 c3 c4 e)
theorem zip_end {Q : Option Value → Shared → Prop} (hh : A.handled = none) (D : ZApart z TI TO i1 i2) (U1 : Sub prog w i1 S1 R1) (U2 : Sub prog w i2 S2 R2)
    (k1 : ∀ h h' g, R1 h g → (∀ c o, c ≠ z → c ≠ TO → c ≠ i1 → c ≠ i2 → h.get? c = some o → h'.get? c = some o) → R1 h' g) (k2 : ∀ h h' g, R2 h g → (∀ c o, c ≠ z → c ≠ TO → c ≠ i1 → c ≠ i2 → h.get? c = some o → h'.get? c = some o) → R2 h' g)
    (hz : IsZip s.heap z TI TO .none) (hTI : IsPair s.heap TI (.ref i1) (.ref i2)) (hTO : IsPair s.heap TO a b) (h1 : S1 k s.heap) (h2 : S2 k s.heap) (r1 : R1 s.heap g1) (r2 : R2 s.heap g2) (hend : g1 k = none ∨ g2 k = none)
    (hQ : ∀ h' tk, (∀ c o, c ≠ z → c ≠ TO → c ≠ i1 → c ≠ i2 → s.heap.get? c = some o → h'.get? c = some o) → Q none { s with heap := h', toks := tk }) : wpAny (model prog w) A (pyNext (.ref z)) Q E s := by
  have hT : s.TypeIs (.ref z) "zip" := ⟨_, hz, rfl⟩
  unfold pyNext
  refine wpAny_bind (wpAny_attempt (wpAny_callSpecial?_slot (name := Str.ofString "__next__") hT F.slot_zip_next (wpAny_call_entry F.slot_zip_next hT F.entry_zip_next ?_ (F.args_zip_next_1 _))))
  show wpAny _ _ (field (.ref z) 2 >>= _) _ _ _
  refine wpAny_bind (wpAny_field hz rfl (x := .bool false) rfl ?_)
  show wpAny _ _ (field (.ref z) 3 >>= _) _ _ _
  refine wpAny_bind (wpAny_field hz rfl (x := .ref TI) rfl ?_)
  refine wpAny_bind (wpAny_seqItems hTI rfl ?_)
  show wpAny _ _ (Builtin.SmallTypes.ownedTupleIsFree (.ref z) >>= _) _ _ _
  refine wpAny_bind ?_
  unfold Builtin.SmallTypes.ownedTupleIsFree
  refine wpAny_bind (wpAny_field hz rfl (x := .none) rfl (wpAny_pure ?_))
  simp only [if_true]
  refine wpAny_bind (wpAny_rule ?_)
  refine wpAny_bind (wpAny_field hz rfl (x := .ref TO) rfl ?_)
  refine wpAny_bind (wpAny_setField_rec hz (by simp) fun h₁ hz₁ hs₁ => ?_)
  replace hz₁ : IsZip h₁ z TI TO .ellipsis := hz₁
  refine wpAny_bind ?_
  simp only [List.zipIdx_cons, List.zipIdx_nil, List.forIn_cons, List.forIn_nil]
  refine wpAny_bind (wpAny_bind (wpAny_onRaise ?_))
  show wpAny _ _ (Builtin.SmallTypes.nextOf (.ref i1) >>= _) _ _ _
  have S1₁ : S1 k h₁ := U1.keep _ _ _ h1 fun o e => hs₁.extBut _ _ D.c e
  have R1₁ : R1 h₁ g1 := k1 _ _ _ r1 fun c o c1 _ _ _ e => hs₁.extBut _ _ c1 e
  cases hx : g1 k with
  | none =>
    refine wpAny_bind (U1.fin _ k { s with heap := h₁ } g1 _ _ hh S1₁ R1₁ hx fun h₂ e hs₂ he => ?_)
    obtain ⟨oe, hoe, hce⟩ := he
    have hz₂ : IsZip h₂ z TI TO .ellipsis := hs₂ _ _ D.c.symm hz₁
    have hez : e ≠ z := fun x => by subst x; rw [hz₂] at hoe; cases hoe; simp at hce
    refine wpAny_setField_rec hz₂ (by simp) fun h₃ _ hs₃ => ?_
    refine wpAny_bind (wpAny_isInstance (T := "StopIteration") (b := true) ⟨oe, hs₃.extBut _ _ hez hoe, hce⟩ isSubtype_stop ?_)
    exact wpAny_pure (hQ h₃ s.toks fun c o c1 _ c3 _ x => hs₃.extBut _ _ c1 (hs₂ _ _ c3 (hs₁.extBut _ _ c1 x)))
  | some x =>
    have hy : g2 k = none := by rcases hend with h | h; rw [hx] at h; cases h; exact h
    refine wpAny_bind (U1.item _ k { s with heap := h₁ } g1 x _ _ S1₁ R1₁ hx fun h₂ tk₂ S1₂ hs₂ => wpAny_pure ?_)
    have hTO₂ : IsPair h₂ TO a b := hs₂.extBut _ _ D.h (hs₁.extBut _ _ D.b hTO)
    refine wpAny_bind (wpAny_seqItems hTO₂ rfl ?_)
    refine wpAny_bind (wpAny_updateSeq_pair hTO₂ fun h₃ hTO₃ hs₃ => ?_)
    refine wpAny_bind (wpAny_letGo (wpAny_pure ?_))
    refine wpAny_bind (wpAny_bind (wpAny_onRaise ?_))
    show wpAny _ _ (Builtin.SmallTypes.nextOf (.ref i2) >>= _) _ _ _
    have kk₃ : ∀ c o, c ≠ z → c ≠ TO → c ≠ i1 → c ≠ i2 → s.heap.get? c = some o → h₃.get? c = some o := fun c o c1 c2 c3 c4 e => hs₃.extBut _ _ c2 (hs₂.extBut _ _ c3 (hs₁.extBut _ _ c1 e))
    have S2₃ : S2 k h₃ := U2.keep _ _ _ h2 fun o e => hs₃.extBut _ _ D.i.symm (hs₂.extBut _ _ D.j.symm (hs₁.extBut _ _ D.d e))
    refine wpAny_bind (U2.fin _ k { s with heap := h₃, toks := tk₂ } g2 _ _ hh S2₃ (k2 _ _ _ r2 kk₃) hy fun h₄ e hs₄ he => ?_)
    obtain ⟨oe, hoe, hce⟩ := he
    have hz₄ : IsZip h₄ z TI TO .ellipsis := hs₄ _ _ D.d.symm (hs₃.extBut _ _ D.b.symm (hs₂.extBut _ _ D.c.symm hz₁))
    have hez : e ≠ z := fun x => by subst x; rw [hz₄] at hoe; cases hoe; simp at hce
    refine wpAny_setField_rec hz₄ (by simp) fun h₅ _ hs₅ => ?_
    refine wpAny_bind (wpAny_isInstance (T := "StopIteration") (b := true) ⟨oe, hs₅.extBut _ _ hez hoe, hce⟩ isSubtype_stop ?_)
    exact wpAny_pure (hQ h₅ tk₂ fun c o c1 c2 c3 c4 x => hs₅.extBut _ _ c1 (hs₄ _ _ c4 (kk₃ c o c1 c2 c3 c4 x)))
end
end L2
namespace L2
open PySem PySem.Spec PyProof.Rows
/-! ### zip(a, b): the object -/
abbrev zpH (h : Heap) (o1 o2 : Obj) : Heap := ((h.push o1).push o2)
abbrev zpT (h : Heap) (o1 o2 : Obj) : Heap := (zpH h o1 o2).push { cls := .type "tuple", data := .seq #[.ref h.objs.size, .ref (h.push o1).objs.size] }
abbrev zpO (h : Heap) (o1 o2 : Obj) : Heap := (zpT h o1 o2).push { cls := .type "tuple", data := .seq #[.none, .none] }
abbrev zpZ (h : Heap) (o1 o2 : Obj) : Heap := (zpO h o1 o2).push { cls := .type "zip", data := .fields #[.none, .bool false, .bool false, .ref (zpH h o1 o2).objs.size, .ref (zpT h o1 o2).objs.size] }
/-- iter(v) is a new object o, whatever stands beside -/
def ItersTo (h : Heap) (v : Value) (o : Obj) : Prop := ∀ (prog : Program) (w : World) (A : Around) (E : Value → Shared → Prop) (s : Shared) (Q : Value → Shared → Prop), (∀ b ob, h.get? b = some ob → s.heap.get? b = some ob) →
  Q (.ref s.heap.objs.size) { s with heap := s.heap.push o } → wpAny (model prog w) A (pyIter v) Q E s
theorem itersTo_tuple {h : Heap} {t : Addr} {items : Array Value} (ht : h.IsTuple t items) : ItersTo h (.ref t) { cls := .type "tuple_iterator", data := .fields #[.ref t, .int 0 0] } := fun prog w A E s Q k q => by
  obtain ⟨o, e, r⟩ := ht
  exact wpAny_pyIter_tuple (items := items) ⟨o, k _ _ e, r⟩ q
theorem itersTo_list {h : Heap} {t : Addr} {items : Array Value} (ht : h.IsList t items) : ItersTo h (.ref t) { cls := .type "list_iterator", data := .fields #[.ref t, .int 0 0] } := fun prog w A E s Q k q => by
  obtain ⟨o, e, r⟩ := ht
  exact wpAny_pyIter_list (items := items) ⟨o, k _ _ e, r⟩ q
theorem meets_zip2 (v1 v2 : Value) (o1 o2 : Obj) :
    Meets (Builtin.«zip.__new__» ⟨[.type "zip", v1, v2], []⟩) (fun _ R s => ItersTo s.heap v1 o1 ∧ ItersTo s.heap v2 o2 ∧ R (.ok (.ret (.ref (zpO s.heap o1 o2).objs.size))) { s with heap := zpZ s.heap o1 o2 }) :=
  .of_wp fun prog w A R s h => by
    obtain ⟨hp, g, d, tk, os⟩ := s
    obtain ⟨h1, h2, h⟩ := h
    have hsub := sub_zip
    have p1 : ∀ {A' : Around} {E : Value → Shared → Prop} {Q : Value → Shared → Prop}, Q (.ref hp.objs.size) ⟨hp.push o1, g, d, tk, os⟩ → wpAny (model prog w) A' (pyIter v1) Q E ⟨hp, g, d, tk, os⟩ := fun q => h1 prog w _ _ ⟨hp, g, d, tk, os⟩ _ (fun _ _ e => e) q
    have p2 : ∀ {A' : Around} {E : Value → Shared → Prop} {Q : Value → Shared → Prop}, Q (.ref (hp.push o1).objs.size) ⟨(hp.push o1).push o2, g, d, tk, os⟩ → wpAny (model prog w) A' (pyIter v2) Q E ⟨hp.push o1, g, d, tk, os⟩ := fun q => h2 prog w _ _ ⟨hp.push o1, g, d, tk, os⟩ _ (fun _ _ e => Heap.get?_push_of_some _ e) q
    wp_walk using p1, p2
    exact ⟨_, rfl, h⟩
section
variable {prog : Program} {w : World} {A : Around} {E : Value → Shared → Prop} {s : Shared}
theorem call_zip2 {v1 v2 : Value} {o1 o2 : Obj} {Q : Value → Shared → Prop} (p1 : ItersTo s.heap v1 o1) (p2 : ItersTo s.heap v2 o2) (f1 : o1.isFreed = false) (f2 : o2.isFreed = false)
    (h : ∀ h', IsZip h' (s.heap.objs.size + 4) (s.heap.objs.size + 2) (s.heap.objs.size + 3) .none → IsPair h' (s.heap.objs.size + 2) (.ref s.heap.objs.size) (.ref (s.heap.objs.size + 1)) → IsPair h' (s.heap.objs.size + 3) .none .none →
      h'.get? s.heap.objs.size = some o1 → h'.get? (s.heap.objs.size + 1) = some o2 → h'.objs.size = s.heap.objs.size + 5 → (∀ c o, s.heap.get? c = some o → h'.get? c = some o) → Q (.ref (s.heap.objs.size + 4)) { s with heap := h' }) :
    wpAny (model prog w) A (call (.type "zip") [v1, v2]) Q E s := by
  refine callType_new F.called_zip (by decide) (F.typeCall_zip_2 _ _) (F.newCall_zip_2 _ _) (fun obj => F.args_object_init_3 obj _ _) F.entry_zip_new (meets_zip2 v1 v2 o1 o2) ⟨p1, p2, ?_⟩
  have z1 : (s.heap.push o1).objs.size = s.heap.objs.size + 1 := Heap.size_push ..
  have z2 : (zpH s.heap o1 o2).objs.size = s.heap.objs.size + 2 := by rw [Heap.size_push, z1]
  have z3 : (zpT s.heap o1 o2).objs.size = s.heap.objs.size + 3 := by rw [Heap.size_push, z2]
  have z4 : (zpO s.heap o1 o2).objs.size = s.heap.objs.size + 4 := by rw [Heap.size_push, z3]
  have z5 : (zpZ s.heap o1 o2).objs.size = s.heap.objs.size + 5 := by rw [Heap.size_push, z4]
  have g5 : (zpZ s.heap o1 o2).get? (zpO s.heap o1 o2).objs.size = some _ := Heap.get?_push_size _ rfl
  have g4 : (zpZ s.heap o1 o2).get? (zpT s.heap o1 o2).objs.size = some _ := Heap.get?_push_of_some _ (Heap.get?_push_size _ rfl)
  have g3 : (zpZ s.heap o1 o2).get? (zpH s.heap o1 o2).objs.size = some _ := Heap.get?_push_of_some _ (Heap.get?_push_of_some _ (Heap.get?_push_size _ rfl))
  have g2 : (zpZ s.heap o1 o2).get? (s.heap.push o1).objs.size = some o2 := Heap.get?_push_of_some _ (Heap.get?_push_of_some _ (Heap.get?_push_of_some _ (Heap.get?_push_size _ f2)))
  have g1 : (zpZ s.heap o1 o2).get? s.heap.objs.size = some o1 := Heap.get?_push_of_some _ (Heap.get?_push_of_some _ (Heap.get?_push_of_some _ (Heap.get?_push_of_some _ (Heap.get?_push_size _ f1))))
  show _ ∧ _
  rw [z2, z3, z4] at g5
  rw [z1, z2] at g3
  rw [z3] at g4
  rw [z1] at g2
  rw [z4]
  exact ⟨⟨_, g5, rfl⟩, h _ g5 g3 g4 g1 g2 z5 fun c o x => Heap.get?_push_of_some _ (Heap.get?_push_of_some _ (Heap.get?_push_of_some _ (Heap.get?_push_of_some _ (Heap.get?_push_of_some _ x))))⟩
end

section
variable {X : Cx} {pins : List (Addr × Obj)} {σ : St} {H : Hp} {s : Shared} {h' : Heap}
/-- several untracked records of ours have turned, and a new tuple is tracked -/
theorem Inv.turnedL {t' : Nat} {ch : List Addr} (I : Inv X pins σ H s) (k : ∀ b o, b ∉ ch → s.heap.get? b = some o → h'.get? b = some o) (hf : ∀ b ∈ ch, FpOk X pins H b) : Inv X pins σ H { s with heap := h', toks := t' } := by
  have nit : ∀ b u, H b = some u → b ∉ ch := fun b u e z => by rw [(hf b z).1] at e; cases e
  refine I.step (g' := s.gens) (d' := s.drawn) (ch := ch) (fun b hb => ?_) (fun b o _ _ hc e _ => k b o hc e) (fun b o _ _ hc e _ => ⟨o.slots, k b o hc e⟩) (fun _ _ _ _ n => n)
    (fun b o hc e => ⟨o, k b o hc e⟩) (fun _ _ e => e) (fun _ _ _ e => e) (fun b ps e => ⟨#[], by rw [e]; simp⟩) (fun m hm => ?_) (fun b u e => ?_) I.bare
  · obtain ⟨f0, f1, f2, f3, f4, f5⟩ := hf b hb
    exact ⟨f3, f1, f4, f5⟩
  · obtain ⟨o, es, ep, ho, r⟩ := hm
    exact ⟨o, es, ep, k _ o (fun z => (hf _ z).2.1 rfl) ho, r⟩
  · refine (I.hok b u e).stay (fun c v hc q => k c v ?_ q) (fun _ q => q) fun _ _ q => q
    rcases hc with z | z
    · rw [z]; exact nit b u e
    · exact nit c _ z
theorem Inv.turnedT {t' : Nat} {ch : List Addr} {T : Addr} {vs : List V} (I : Inv X pins σ H s) (k : ∀ b o, b ∉ ch → s.heap.get? b = some o → h'.get? b = some o) (hf : ∀ b ∈ ch, FpOk X pins H b) (hT : s.heap.objs.size ≤ T)
    (new : ObjOk X.prog X.w (upd H T (.tup vs)) h' T (.tup vs)) : Inv X pins σ (upd H T (.tup vs)) { s with heap := h', toks := t' } := by
  have hn : H T = none := I.hok.fresh hT
  have nit : ∀ b u, H b = some u → b ∉ ch := fun b u e z => by rw [(hf b z).1] at e; cases e
  have nT : ∀ b o, s.heap.get? b = some o → b ≠ T := fun b o e z => absurd (Heap.lt_size e) (by rw [z]; exact Nat.not_lt.mpr hT)
  have up : ∀ b u, H b = some u → upd H T (.tup vs) b = some u := fun b u e => by rw [upd_ne (ne_of_none e hn)]; exact e
  refine I.step (g' := s.gens) (d' := s.drawn) (ch := ch) (fun b hb => ?_) (fun b o _ _ hc e _ => k b o hc e) (fun b o _ _ hc e _ => ⟨o.slots, k b o hc e⟩) (fun b o _ e n => by rw [upd_ne (nT b o e)]; exact n)
    (fun b o hc e => ⟨o, k b o hc e⟩) (fun b xs e => up b _ e) (fun b o u e => up b _ e) (fun b ps e => ⟨#[], by rw [up b _ e]; simp⟩) (fun m hm => ?_) (fun b u e => ?_) I.bare
  · obtain ⟨f0, f1, f2, f3, f4, f5⟩ := hf b hb
    exact ⟨f3, f1, f4, f5⟩
  · obtain ⟨o, es, ep, ho, r⟩ := hm
    exact ⟨o, es, ep, k _ o (fun z => (hf _ z).2.1 rfl) ho, r⟩
  · by_cases hb : b = T
    · subst hb; rw [upd_same] at e; cases e; exact new
    · rw [upd_ne hb] at e
      refine (I.hok b u e).stay (fun c v hc q => k c v ?_ q) (fun c q => up c _ q) fun c xs q => up c _ q
      rcases hc with z | z
      · rw [z]; exact nit b u e
      · exact nit c _ z
end

/-- what zip(a, b) yields: pairs, each a new tuple -/
def Itz (G1 G2 : Hp → List V → Prop) : It :=
  ⟨fun i H => ∃ xs ys x y, G1 H xs ∧ G2 H ys ∧ xs[i]? = some x ∧ ys[i]? = some y, fun i H v H' => ∃ T, v = .ref T ∧ H T = none ∧ ∀ xs ys x y, G1 H xs → G2 H ys → xs[i]? = some x → ys[i]? = some y → H' = upd H T (.tup [x, y]),
    fun i H => ∃ xs ys, G1 H xs ∧ G2 H ys ∧ (xs.length ≤ i ∨ ys.length ≤ i)⟩
/-- a sequence as a zip's part: what of the abstract heap tells its items -/
structure Part (K : PySem.W.Frag) (G : Hp → List V → Prop) (Si : Addr → Nat → Heap → Prop) (R : Heap → (Nat → Option Value) → Prop) (own : Addr) : Prop where
  sub : ∀ (P : Program) (w : World) (i : Addr), Sub P w i (Si i) R
  ready : ∀ (X : Cx), X.K = K → ∀ (pins : List (Addr × Obj)) (σ : St) (H : Hp) (s : Shared) (xs : List V), Inv X pins σ H s → G H xs → ∃ us : List Value, Vals xs us ∧ R s.heap (fun k => us[k]?)
  inj : ∀ (X : Cx), X.K = K → ∀ (pins : List (Addr × Obj)) (σ : St) (H : Hp) (s : Shared) (xs ys : List V), Inv X pins σ H s → G H xs → G H ys → xs = ys
  keep : ∀ h h' g, R h g → (∀ o, h.get? own = some o → h'.get? own = some o) → R h' g
theorem part_tuple {K : PySem.W.Frag} (a : Addr) : Part K (fun H xs => SqT K H a xs) (fun i k h => h.IsTupleIter i a k) (fun h get => ∃ items : Array Value, h.IsTuple a items ∧ ∀ k, get k = items[k]?) a where
  sub := fun P w i => sub_tuple i a
  ready := fun X hK pins σ H s xs I hq => by
    subst hK
    obtain ⟨its, r, ht, _⟩ := I.tuple hq
    exact ⟨its, r, its.toArray, ht, fun k => by simp⟩
  inj := fun X hK pins σ H s xs ys I h1 h2 => by subst hK; exact I.tuple_inj h1 h2
  keep := fun h h' g ⟨items, ⟨o, e, r⟩, q⟩ k => ⟨items, ⟨o, k o e, r⟩, q⟩
theorem part_list {K : PySem.W.Frag} (a : Addr) : Part K (fun H xs => SqL K H a xs) (fun i k h => h.IsListIter i a k) (fun h get => ∃ items : Array Value, h.IsList a items ∧ ∀ k, get k = items[k]?) a where
  sub := fun P w i => sub_list i a
  ready := fun X hK pins σ H s xs I hq => by
    subst hK
    obtain ⟨its, r, ht, _⟩ := I.list hq
    exact ⟨its, r, its.toArray, ht.isList, fun k => by simp⟩
  inj := fun X hK pins σ H s xs ys I h1 h2 => by subst hK; exact I.list_inj h1 h2
  keep := fun h h' g ⟨items, ⟨o, e, r⟩, q⟩ k => ⟨items, ⟨o, k o e, r⟩, q⟩
theorem turn_zip {P : Program} {w : World} {K : PySem.W.Frag} {elts : List Expr} {kk : Nat} {pos : Pos} {G1 G2 : Hp → List V → Prop} {S1 S2 : Addr → Nat → Heap → Prop} {R1 R2 : Heap → (Nat → Option Value) → Prop} {a1 a2 : Addr}
    (p1 : Part K G1 S1 R1 a1) (p2 : Part K G2 S2 R2 a2) {z TI TO i1 i2 : Addr} (D : ZApart z TI TO i1 i2) (n1 : a1 ∉ [z, TO, i1, i2]) (n2 : a2 ∉ [z, TO, i1, i2]) :
    Turn P w K (.Tuple elts kk pos) (Itz G1 G2) [z, TI, TO, i1, i2] z (fun i h => IsZip h z TI TO .none ∧ IsPair h TI (.ref i1) (.ref i2) ∧ (∃ a b, IsPair h TO a b) ∧ S1 i1 i h ∧ S2 i2 i h) where
  mem := by simp
  obj := fun i h ⟨hz, hTI, ⟨a, b, hTO⟩, h1, h2⟩ c hc => by
    simp only [List.mem_cons, List.not_mem_nil, or_false] at hc
    rcases hc with rfl | rfl | rfl | rfl | rfl
    · exact ⟨_, hz, fun v e => by cases e⟩
    · exact ⟨_, hTI, fun v e => by cases e⟩
    · exact ⟨_, hTO, fun v e => by cases e⟩
    · exact (p1.sub P w _).obj _ _ h1
    · exact (p2.sub P w _).obj _ _ h2
  keep := fun i h h' ⟨hz, hTI, ⟨a, b, hTO⟩, h1, h2⟩ q =>
    ⟨q z (by simp) _ hz, q TI (by simp) _ hTI, ⟨a, b, q TO (by simp) _ hTO⟩, (p1.sub P w i1).keep _ _ _ h1 (q i1 (by simp)), (p2.sub P w i2).keep _ _ _ h2 (q i2 (by simp))⟩
  item := by
    intro X hP hw hK hc i pins s σ H E I hf ⟨hz, hTI, ⟨a, b, hTO⟩, h1, h2⟩ hg
    subst hP hw
    obtain ⟨xs, ys, x, y, g1, g2, hx, hy⟩ := hg
    obtain ⟨us1, r1, rd1⟩ := p1.ready X hK pins σ H s xs I g1
    obtain ⟨us2, r2, rd2⟩ := p2.ready X hK pins σ H s ys I g2
    obtain ⟨u, hu, ru⟩ := r1.get hx
    obtain ⟨v, hv, rv⟩ := r2.get hy
    have out : ∀ c, c ≠ z → c ≠ TO → c ≠ i1 → c ≠ i2 → c ∉ [z, TO, i1, i2] := fun c c1 c2 c3 c4 hm => by
      simp only [List.mem_cons, List.not_mem_nil, or_false] at hm
      rcases hm with e | e | e | e <;> contradiction
    have sep : ∀ {c : Addr}, c ∉ [z, TO, i1, i2] → c ≠ z ∧ c ≠ TO ∧ c ≠ i1 ∧ c ≠ i2 := fun hm => ⟨fun e => hm (by simp [e]), fun e => hm (by simp [e]), fun e => hm (by simp [e]), fun e => hm (by simp [e])⟩
    obtain ⟨m1, m2, m3, m4⟩ := sep n1
    obtain ⟨m5, m6, m7, m8⟩ := sep n2
    refine zip_item (k := i) D (p1.sub _ _ i1) (p2.sub _ _ i2) (fun h h' g r q => p1.keep _ _ _ r fun o e => q a1 o m1 m2 m3 m4 e) (fun h h' g r q => p2.keep _ _ _ r fun o e => q a2 o m5 m6 m7 m8 e) hz hTI hTO h1 h2 rd1 rd2 hu hv fun h' tk hz' hTO' h1' h2' hT' hsz keep => ?_
    refine ⟨_, rfl, ?_⟩
    refine wpAny_letOwnedTupleGo_zip (s := { s with heap := h', toks := tk }) hz' fun h'' hz'' sb => ?_
    have zlt : z < s.heap.objs.size := Heap.lt_size hz
    have kp : ∀ c o, c ∉ [z, TO, i1, i2] → s.heap.get? c = some o → h''.get? c = some o := fun c o hm e => by
      obtain ⟨c1, c2, c3, c4⟩ := sep hm
      exact sb.extBut c o c1 (keep c o c1 c2 c3 c4 e)
    have hT'' : IsPair h'' s.heap.objs.size u v := sb.extBut _ _ (Nat.ne_of_gt zlt) hT'
    have fp4 : ∀ c ∈ [z, TO, i1, i2], FpOk X pins H c := fun c hm => hf c (by
      simp only [List.mem_cons, List.not_mem_nil, or_false] at hm ⊢
      rcases hm with e | e | e | e <;> simp [e])
    have I' := I.turnedT (t' := tk) (h' := h'') (T := s.heap.objs.size) (vs := [x, y]) kp fp4 (Nat.le_refl _) (show ObjOk X.prog X.w _ h'' _ (.tup [x, y]) from ⟨by show 2 ≤ sizeLine; decide, [u, v], .cons ru (.cons rv .nil), _, hT'', rfl, _, rfl⟩)
    have fresh : H s.heap.objs.size = none := I.hok.fresh (Nat.le_refl _)
    refine ⟨.ref s.heap.objs.size, _, I', rfl, ⟨_, rfl, fresh, fun xs' ys' x' y' g1' g2' hx' hy' => ?_⟩, ⟨hz'', sb.extBut _ _ D.a (keep _ _ D.a D.e D.f D.g hTI), ⟨_, _, sb.extBut _ _ D.b hTO'⟩, (p1.sub X.prog X.w i1).keep _ _ _ h1' fun o e => sb.extBut _ _ D.c e, (p2.sub X.prog X.w i2).keep _ _ _ h2' fun o e => sb.extBut _ _ D.d e⟩, fun c hm => ?_⟩
    · rw [p1.inj X hK pins σ H s _ _ I g1' g1, hx] at hx'
      rw [p2.inj X hK pins σ H s _ _ I g2' g2, hy] at hy'
      cases hx'
      cases hy'
      rfl
    · have h0 := (hf c hm).1
      have clt : c < s.heap.objs.size := by
        simp only [List.mem_cons, List.not_mem_nil, or_false] at hm
        rcases hm with rfl | rfl | rfl | rfl | rfl
        · exact zlt
        · exact Heap.lt_size hTI
        · exact Heap.lt_size hTO
        · obtain ⟨o, e, _⟩ := (p1.sub X.prog X.w _).obj _ _ h1; exact Heap.lt_size e
        · obtain ⟨o, e, _⟩ := (p2.sub X.prog X.w _).obj _ _ h2; exact Heap.lt_size e
      rw [upd_ne (Nat.ne_of_lt clt)]
      exact h0
  done := by
    intro X hP hw hK hc i pins s σ H E I hf ⟨hz, hTI, ⟨a, b, hTO⟩, h1, h2⟩ hg
    subst hP hw
    obtain ⟨xs, ys, g1, g2, hend⟩ := hg
    obtain ⟨us1, r1, rd1⟩ := p1.ready X hK pins σ H s xs I g1
    obtain ⟨us2, r2, rd2⟩ := p2.ready X hK pins σ H s ys I g2
    have sep : ∀ {c : Addr}, c ∉ [z, TO, i1, i2] → c ≠ z ∧ c ≠ TO ∧ c ≠ i1 ∧ c ≠ i2 := fun hm => ⟨fun e => hm (by simp [e]), fun e => hm (by simp [e]), fun e => hm (by simp [e]), fun e => hm (by simp [e])⟩
    obtain ⟨m1, m2, m3, m4⟩ := sep n1
    obtain ⟨m5, m6, m7, m8⟩ := sep n2
    have l1 := r1.length
    have l2 := r2.length
    refine zip_end (k := i) (I.ok.hd hc) D (p1.sub _ _ i1) (p2.sub _ _ i2) (fun h h' g r q => p1.keep _ _ _ r fun o e => q a1 o m1 m2 m3 m4 e) (fun h h' g r q => p2.keep _ _ _ r fun o e => q a2 o m5 m6 m7 m8 e) hz hTI hTO h1 h2 rd1 rd2 ?_ fun h' tk keep => ?_
    · rcases hend with e | e
      · exact .inl (by simp; omega)
      · exact .inr (by simp; omega)
    · refine ⟨rfl, I.turnedL (ch := [z, TO, i1, i2]) (fun c o hm e => ?_) fun c hm => hf c (by
        simp only [List.mem_cons, List.not_mem_nil, or_false] at hm ⊢
        rcases hm with e | e | e | e <;> simp [e])⟩
      obtain ⟨c1, c2, c3, c4⟩ := sep hm
      exact keep c o c1 c2 c3 c4 e
  self := fun A i s Q E ⟨hz, _⟩ q => wpAny_pyIter_zip hz q
end L2
namespace L2
open PySem PySem.Spec PyProof.Rows
section
variable {X : Cx} {elts : List Expr} {kk : Nat} {tpos : Pos}
theorem zapart_new (n : Nat) : ZApart (n + 4) (n + 2) (n + 3) n (n + 1) := by
  constructor <;> (intro e; have e' : @Eq Nat _ _ := e; omega)
/-- zip(a, b) of two tuples, of two lists -/
def iZipT (K : PySem.W.Frag) (ta : TA) : TI := fun σ H R => ta σ H fun vs H1 => ∃ a b xs ys, vs = [.ref a, .ref b] ∧ SqT K H1 a xs ∧ SqT K H1 b ys ∧ R (Itz (fun H xs => SqT K H a xs) (fun H ys => SqT K H b ys)) H1
def iZipL (K : PySem.W.Frag) (ta : TA) : TI := fun σ H R => ta σ H fun vs H1 => ∃ a b xs ys, vs = [.ref a, .ref b] ∧ SqL K H1 a xs ∧ SqL K H1 b ys ∧ R (Itz (fun H xs => SqL K H a xs) (fun H ys => SqL K H b ys)) H1
theorem zip_pie {pins : List (Addr × Obj)} {σ : St} {H : Hp} {s : Shared} {R : It → Hp → Prop} {E : Value → Shared → Prop} {G1 G2 : Hp → List V → Prop} {S1 S2 : Addr → Nat → Heap → Prop} {R1 R2 : Heap → (Nat → Option Value) → Prop} {a b : Addr} {o1 o2 : Obj}
    (I : Inv X pins σ H s) (p1 : Part X.K G1 S1 R1 a) (p2 : Part X.K G2 S2 R2 b) (t1 : ItersTo s.heap (.ref a) o1) (t2 : ItersTo s.heap (.ref b) o2) (f1 : o1.isFreed = false) (f2 : o2.isFreed = false) (la : a < s.heap.objs.size) (lb : b < s.heap.objs.size)
    (s1 : ∀ h i, h.get? i = some o1 → S1 i 0 h) (s2 : ∀ h i, h.get? i = some o2 → S2 i 0 h) (q : R (Itz G1 G2) H) :
    wpAny (model X.prog X.w) X.A (call (.type "zip") [.ref a, .ref b]) (fun v s1 => wpAny (model X.prog X.w) X.A (pyIter v) (PIE X pins σ (.Tuple elts kk tpos) R) E s1) E s := by
  refine call_zip2 t1 t2 f1 f2 fun h' hz hTI hTO g1 g2 hsz keep => ?_
  refine wpAny_pyIter_zip hz ?_
  have I1 : Inv X pins σ H { s with heap := h' } := I.kept (t' := s.toks) keep
  refine ⟨_, [s.heap.objs.size + 4, s.heap.objs.size + 2, s.heap.objs.size + 3, s.heap.objs.size, s.heap.objs.size + 1], _, _, H, rfl, I1, turn_zip (K := X.K) p1 p2 (zapart_new s.heap.objs.size) ?_ ?_, ⟨hz, hTI, ⟨_, _, hTO⟩, s1 _ _ g1, s2 _ _ g2⟩, fun c hc => ?_, q⟩
  · intro hm
    simp only [List.mem_cons, List.not_mem_nil, or_false] at hm
    rcases hm with e | e | e | e <;> (have e' : @Eq Nat _ _ := e; have la' : @LT.lt Nat _ a s.heap.objs.size := la; have lb' : @LT.lt Nat _ b s.heap.objs.size := lb; omega)
  · intro hm
    simp only [List.mem_cons, List.not_mem_nil, or_false] at hm
    rcases hm with e | e | e | e <;> (have e' : @Eq Nat _ _ := e; have la' : @LT.lt Nat _ a s.heap.objs.size := la; have lb' : @LT.lt Nat _ b s.heap.objs.size := lb; omega)
  · have hle : s.heap.objs.size ≤ c := by
      simp only [List.mem_cons, List.not_mem_nil, or_false] at hc
      rcases hc with e | e | e | e | e <;> (have e' : @Eq Nat _ _ := e; show @LE.le Nat _ s.heap.objs.size c; omega)
    exact I.fpOk hle (I.hok.fresh hle)
theorem pi_zipL {a b : Expr} {ta : TA} {p pos : Pos} (hg : Gl X "zip") (hm : X.mg "zip" = none) (ha : PA X [a, b] ta) (hs : starEach [a, b] X.env = [(false, eval a X.env), (false, eval b X.env)] := by rfl) (hs2 : starEach [b] X.env = [(false, eval b X.env)] := by rfl) :
    PI X (.Tuple elts kk tpos) (.Call (.Name "zip" p) [a, b] [] pos) (iZipL X.K ta) := by
  intro pins s σ H R I h
  refine Call_ (ld_blt I hg hm boot_zip (PyProof.Rows.callWith_type1 (thn (ha pos pins s σ H _ I h) fun us s1 ⟨vs, H1, I1, r1, q1⟩ => ?_) (by rw [hs, hs2]) (by rw [hs2]; rfl)))
  obtain ⟨x, y, xs, ys, e, hx, hy, q⟩ := q1
  subst e
  obtain ⟨u, v, rfl, ru, rv⟩ := r1.two
  cases ru
  cases rv
  obtain ⟨i1, _, ht1, _⟩ := I1.list hx
  obtain ⟨i2, _, ht2, _⟩ := I1.list hy
  have l1 : x < s1.heap.objs.size := by obtain ⟨_, e, _⟩ := ht1.isList; exact Heap.lt_size e
  have l2 : y < s1.heap.objs.size := by obtain ⟨_, e, _⟩ := ht2.isList; exact Heap.lt_size e
  exact zip_pie I1 (part_list x) (part_list y) (itersTo_list ht1.isList) (itersTo_list ht2.isList) rfl rfl l1 l2 (fun h i e => ⟨_, e, rfl, rfl⟩) (fun h i e => ⟨_, e, rfl, rfl⟩) q
/-- a comprehension over anything of n turns -/
theorem lc_gen {J : It} {P : Hp → Prop} {n : Nat} (hgo : ∀ i H, P H → i < n → J.go i H) (hstop : ∀ H, P H → J.stop n H) {src : List (Option Nat)} {g : TG} {tt : TT} {te : TE} {σ : St} {H1 : Hp} {Q : VK} {D : Addr} (Pv : Nat → List V → St → Hp → Prop)
    (h0 : Pv 0 [] (capSt src σ) (upd H1 D (.lst []))) (hP : ∀ i ys σ' H', Pv i ys σ' H' → P H' ∧ H' D = some (.lst ys))
    (step : ∀ i ys σ' H', i < n → Pv i ys σ' H' → ∀ x H3, J.yld i H' x H3 → g x σ' H3 fun σ2 H4 => tt σ2 H4 fun b H5 => if b = true then te σ2 H5 fun y H6 => H6 D = some (.lst ys) ∧ ys.length < sizeLine ∧ Pv (i + 1) (ys ++ [y]) σ2 (upd H6 D (.lst (ys ++ [y]))) else Pv (i + 1) ys σ2 H5)
    (fin : ∀ ys σ' H', Pv n ys σ' H' → Q (.ref D) H') :
    LC src J g tt te σ H1 Q D := by
  refine ⟨fun i m ys σ' H' => m = n - i ∧ i ≤ n ∧ Pv i ys σ' H', ⟨n, by simp, Nat.zero_le _, h0⟩, ?_⟩
  rintro i m ys σ' H2 ⟨rfl, hi, p⟩
  obtain ⟨hp, hD⟩ := hP i ys σ' H2 p
  refine ⟨hD, ?_⟩
  by_cases hlt : i < n
  · refine .inr ⟨hgo i H2 hp hlt, fun ys' σ3 H3 => Pv (i + 1) ys' σ3 H3, fun ys' σ3 H3 p' => ⟨n - (i + 1), by omega, rfl, hlt, p'⟩, fun x H3 y => step i ys σ' H2 hlt p x H3 y⟩
  · have e : i = n := by omega
    subst e
    exact .inl ⟨hstop H2 hp, fin ys σ' H2 p⟩

/-- .. without a test -/
theorem lc_on {J : It} {P : Hp → Prop} {xs : List V} (hJ : ItSeq J P xs) {src : List (Option Nat)} {g : TG} {te : TE} {σ : St} {H1 : Hp} {Q : VK} {D : Addr} (Pv : Nat → List V → St → Hp → Prop)
    (h0 : Pv 0 [] (capSt src σ) (upd H1 D (.lst []))) (hP : ∀ i ys σ' H', Pv i ys σ' H' → P H' ∧ H' D = some (.lst ys))
    (mono : ∀ x σ H Q Q', (∀ σ' H', Q σ' H' → Q' σ' H') → g x σ H Q → g x σ H Q')
    (step : ∀ i ys σ' H' x, xs[i]? = some x → Pv i ys σ' H' → g x σ' H' fun σ2 H4 => te σ2 H4 fun y H6 => H6 D = some (.lst ys) ∧ ys.length < sizeLine ∧ Pv (i + 1) (ys ++ [y]) σ2 (upd H6 D (.lst (ys ++ [y]))))
    (fin : ∀ ys σ' H', Pv xs.length ys σ' H' → Q (.ref D) H') : LC src J g tYes te σ H1 Q D :=
  lc_by hJ Pv h0 hP (fun i ys σ' H' x hx p => by
    refine mono _ _ _ _ _ ?_ (step i ys σ' H' x hx p)
    intro σ2 H4 q
    unfold tYes
    dsimp only
    rw [if_pos rfl]
    exact q) fin
theorem gName_mono (i : Nat) : ∀ x σ H Q Q', (∀ σ' H', Q σ' H' → Q' σ' H') → gName i x σ H Q → gName i x σ H Q' := fun _ _ _ _ _ h q => h _ _ q
theorem lc_gen_on {J : It} {P : Hp → Prop} {n : Nat} (hgo : ∀ i H, P H → i < n → J.go i H) (hstop : ∀ H, P H → J.stop n H) {src : List (Option Nat)} {g : TG} {te : TE} {σ : St} {H1 : Hp} {Q : VK} {D : Addr} (Pv : Nat → List V → St → Hp → Prop)
    (h0 : Pv 0 [] (capSt src σ) (upd H1 D (.lst []))) (hP : ∀ i ys σ' H', Pv i ys σ' H' → P H' ∧ H' D = some (.lst ys))
    (mono : ∀ x σ H Q Q', (∀ σ' H', Q σ' H' → Q' σ' H') → g x σ H Q → g x σ H Q')
    (step : ∀ i ys σ' H', i < n → Pv i ys σ' H' → ∀ x H3, J.yld i H' x H3 → g x σ' H3 fun σ2 H4 => te σ2 H4 fun y H6 => H6 D = some (.lst ys) ∧ ys.length < sizeLine ∧ Pv (i + 1) (ys ++ [y]) σ2 (upd H6 D (.lst (ys ++ [y]))))
    (fin : ∀ ys σ' H', Pv n ys σ' H' → Q (.ref D) H') : LC src J g tYes te σ H1 Q D :=
  lc_gen hgo hstop Pv h0 hP (fun i ys σ' H' hi p x H3 y => by
    refine mono _ _ _ _ _ ?_ (step i ys σ' H' hi p x H3 y)
    intro σ2 H4 q
    unfold tYes
    dsimp only
    rw [if_pos rfl]
    exact q) fin
/-! ### for over a text, over anything of n turns -/
end
end L2
namespace L2
open PySem PySem.Spec PyProof.Rows
/-! ### short words: the surroundings of a law as one thing, its defs by their promises -/
structure Gx where
  P : Program
  w : World
  K : PySem.W.Frag
  mg : Str → Option Value
  base : Heap
def Cx.gx (X : Cx) : Gx := ⟨X.prog, X.w, X.K, X.mg, X.base⟩
/-- a def of the top as it stands there -/
def Gx.Raw (g : Gx) (x qual : Str) (st : Stmt) (ps : List Str) : Prop := ∃ f fd, Fun g.K x qual st f fd ∧ Binds g.K fd ps [] ∧ g.mg x = some (.ref f)
/-- .. with its promise, k calls deep -/
def Gx.Fn (g : Gx) (k : Nat) (x : Str) (ps : List Str) (sp : Sp) : Prop := ∃ f fd, FnOk g.P g.w g.K g.mg g.base CX0 k f fd ps sp ∧ Binds g.K fd ps [] ∧ PySem.W.keepIn g.K (.ref f) = true ∧ g.mg x = some (.ref f)
/-- a method of the class at C -/
def Gx.RawM (g : Gx) (C : Addr) (m qual : Str) (st : Stmt) (ps : List Str) : Prop := ∃ f fd, Fun g.K m qual st f fd ∧ Binds g.K fd ps [] ∧ Meth g.K C m f
def Gx.Me (g : Gx) (k : Nat) (C : Addr) (m : Str) (ps : List Str) (sp : Sp) : Prop := ∃ f fd, FnOk g.P g.w g.K g.mg g.base CX0 k f fd ps sp ∧ Binds g.K fd ps [] ∧ Meth g.K C m f
/-- the class's own making -/
def Gx.RawI (g : Gx) (x : Str) (C : Addr) (qual : Str) (st : Stmt) (ps : List Str) : Prop := ∃ f fd, Fun g.K "__init__" qual st f fd ∧ Binds g.K fd ps [] ∧ Mk g.K C f ∧ g.mg x = some (.ref C)
def Gx.Ma (g : Gx) (k : Nat) (x : Str) (C : Addr) (ps : List Str) (sp : Sp) : Prop := ∃ f fd, FnOk g.P g.w g.K g.mg g.base CX0 k f fd ps sp ∧ Binds g.K fd ps [] ∧ Mk g.K C f ∧ g.mg x = some (.ref C)
def Gx.Con (g : Gx) (x : Str) (v : V) : Prop := ∃ u, g.mg x = some u ∧ RelV v u
/-- the body's context -/
abbrev Gx.cx (g : Gx) (N : List Str) (qual : Str) (st : Stmt) (f : Addr) (cdv : Value) (A : Around) (outer : List Env) (s : Shared) (H : Hp) (E : XK) : Cx := (cxOf CX0 g.P g.w g.K g.mg g.base N qual (defScope st) f cdv A outer s H E).nox
def Body (g : Gx) (k : Nat) (N : List Str) (qual : Str) (st : Stmt) (sp : Sp) : Prop := ∀ (f : Addr) (cdv : Value) (A : Around) (outer : List Env) (s : Shared) (H : Hp) (vs : List V) (Q : VK) (E : XK), Room k (g.cx N qual st f cdv A outer s H E).A → sp vs H Q E →
  ∃ t, PSs (g.cx N qual st f cdv A outer s H E) (defBody st) t ∧ t { nx := fun _ H' => Q .non H', rt := Q } (start N vs) H
section
variable {g : Gx} {k : Nat} {x qual m : Str} {st : Stmt} {N ps : List Str} {sp : Sp} {C : Addr}
theorem Gx.Raw.fn (R : g.Raw x qual st ps) (S : FnScope N ps (defScope st)) (len : ∀ vs H Q E, sp vs H Q E → vs.length = ps.length) (b : Body g k N qual st sp) : g.Fn (k + 1) x ps sp := by
  obtain ⟨f, fd, F, bd, hm⟩ := R
  exact ⟨f, fd, F.ok S len fun cdv A outer s H vs Q E hr h => b f cdv A outer s H vs Q E hr h, bd, F.kp, hm⟩
theorem Gx.RawM.me (R : g.RawM C m qual st ps) (S : FnScope N ps (defScope st)) (len : ∀ vs H Q E, sp vs H Q E → vs.length = ps.length) (b : Body g k N qual st sp) : g.Me (k + 1) C m ps sp := by
  obtain ⟨f, fd, F, bd, hm⟩ := R
  exact ⟨f, fd, F.ok S len fun cdv A outer s H vs Q E hr h => b f cdv A outer s H vs Q E hr h, bd, hm⟩
theorem Gx.RawI.ma (R : g.RawI x C qual st ps) (S : FnScope N ps (defScope st)) (len : ∀ vs H Q E, sp vs H Q E → vs.length = ps.length) (b : Body g k N qual st sp) : g.Ma (k + 1) x C ps sp := by
  obtain ⟨f, fd, F, bd, hm, hg⟩ := R
  exact ⟨f, fd, F.ok S len fun cdv A outer s H vs Q E hr h => b f cdv A outer s H vs Q E hr h, bd, hm, hg⟩
theorem Gx.Fn.mono {j : Nat} (F : g.Fn j x ps sp) (h : j ≤ k) : g.Fn k x ps sp := by
  obtain ⟨f, fd, F, r⟩ := F
  exact ⟨f, fd, F.mono h, r⟩
theorem Gx.Me.mono {j : Nat} (F : g.Me j C m ps sp) (h : j ≤ k) : g.Me k C m ps sp := by
  obtain ⟨f, fd, F, r⟩ := F
  exact ⟨f, fd, F.mono h, r⟩
/-- nothing can be asked: no call is left -/
theorem Gx.Raw.none (R : g.Raw x qual st ps) (no : ∀ vs H Q E, ¬ sp vs H Q E) : g.Fn k x ps sp := by
  obtain ⟨f, fd, F, bd, hm⟩ := R
  exact ⟨f, fd, ⟨fun vs H Q E h => absurd h (no vs H Q E), fun A outer s H args us vs Q E _ _ _ _ h => absurd h (no vs H Q E)⟩, bd, F.kp, hm⟩
theorem Gx.RawM.none (R : g.RawM C m qual st ps) (no : ∀ vs H Q E, ¬ sp vs H Q E) : g.Me k C m ps sp := by
  obtain ⟨f, fd, F, bd, hm⟩ := R
  exact ⟨f, fd, ⟨fun vs H Q E h => absurd h (no vs H Q E), fun A outer s H args us vs Q E _ _ _ _ h => absurd h (no vs H Q E)⟩, bd, hm⟩
end
section
variable {g : Gx} {X : Cx} {k j : Nat} {x m : Str} {ps : List Str} {sp : Sp} {C : Addr} {e o : Expr} {es : List Expr} {t : TA} {ta : TE} {p pos apos : Pos}
/-- f(e, ..) -/
theorem pe_fn (F : g.Fn j x ps sp) (hr : Room k X.A) (ha : PA X (e :: es) t) (hj : j ≤ k := by omega) (hX : X.gx = g := by rfl) (hg : Gl X x := by rfl) (hdb : (x == ("__debug__" : Str)) = false := by decide)
    (he : starEach (e :: es) X.env = (false, eval e X.env) :: starEach es X.env := by rfl) (hpl : (backTo pos (starEach es X.env)).any (·.1) = false := by rfl) : PE X (.Call (.Name x p) (e :: es) [] pos) (tCall sp [] E0 t) := by
  subst hX
  obtain ⟨f, fd, F, b, kp, hm⟩ := F
  exact pe_call F (hr.mono hj) hg hm kp b .nil pass0 ha hdb he hpl
/-- o.m(e, ..) -/
theorem pe_me {pl : Sem Bool} (F : g.Me j C m ps sp) (c : Cls g.K C) (hr : Room k X.A) (ho : PE X o ta) (ha : PA X (e :: es) t) (hj : j ≤ k := by omega) (hX : X.gx = g := by rfl)
    (hst : starEach (e :: es) X.env = (false, eval e X.env) :: starEach es X.env := by rfl) (hpl : (backTo pos (starEach es X.env)).any (·.1) = false := by rfl)
    (ht : eval (.Call (.Attribute o m apos) (e :: es) [] pos) X.env = (do
      let ov ← eval o X.env
      standAt apos.atName
      let (f, first) ← holding [ov] (getMethod ov m pl)
      callWith pos f first (backTo pos (starEach (e :: es) X.env)) (backToKw pos (keywordEach [] X.env))) := by rfl) : PE X (.Call (.Attribute o m apos) (e :: es) [] pos) (tMeth C m sp [] E0 ta t) := by
  subst hX
  obtain ⟨f, fd, F, b, hm⟩ := F
  exact pe_meth ho c hm F (hr.mono hj) b .nil pass0 ha hst hpl ht
/-- C(e, ..) -/
theorem pe_ma (F : g.Ma j x C ps sp) (hr : Room k X.A) (ha : PA X (e :: es) t) (hj : j + 1 ≤ k := by omega) (hX : X.gx = g := by rfl) (hg : Gl X x := by rfl) (hdb : (x == ("__debug__" : Str)) = false := by decide)
    (he : starEach (e :: es) X.env = (false, eval e X.env) :: starEach es X.env := by rfl) (hpl : (backTo pos (starEach es X.env)).any (·.1) = false := by rfl) : PE X (.Call (.Name x p) (e :: es) [] pos) (tMake C sp [] E0 t) := by
  subst hX
  obtain ⟨f, fd, F, b, M, hm⟩ := F
  exact pe_make M F (hr.mono hj) hg hm b .nil pass0 ha hdb he hpl
/-- a built-in function, type -/
theorem pe_bf {id : String} {r : List V → Hp → VK → Prop} (hm : g.mg x = none) (hc : CallR X (.builtin id) r) (ha : PA X (e :: es) t) (hv : bootBuiltins x = some (.builtin id) := by decide +kernel) (hX : X.gx = g := by rfl) (hg : Gl X x := by rfl) (hn : x ≠ "__name__" := by decide) (hdb : (x == ("__debug__" : Str)) = false := by decide)
    (he : starEach (e :: es) X.env = (false, eval e X.env) :: starEach es X.env := by rfl) (hpl : (backTo pos (starEach es X.env)).any (·.1) = false := by rfl) : PE X (.Call (.Name x p) (e :: es) [] pos) (tCB r t) := by
  subst hX
  exact pe_callB hc hg hm hv ha hn hdb he hpl
theorem pe_bt {T : String} {r : List V → Hp → VK → Prop} (hm : g.mg x = none) (hc : CallR X (.type T) r) (ha : PA X (e :: es) t) (hv : bootBuiltins x = some (.type T) := by decide +kernel) (hX : X.gx = g := by rfl) (hg : Gl X x := by rfl) (hn : x ≠ "__name__" := by decide) (hdb : (x == ("__debug__" : Str)) = false := by decide)
    (he : starEach (e :: es) X.env = (false, eval e X.env) :: starEach es X.env := by rfl) (hpl : (backTo pos (starEach es X.env)).any (·.1) = false := by rfl) : PE X (.Call (.Name x p) (e :: es) [] pos) (tCB r t) := by
  subst hX
  exact pe_callTy hc hg hm hv ha hn hdb he hpl
/-- a built-in type's name -/
theorem pe_bn {T : String} (hm : g.mg x = none) (hv : bootBuiltins x = some (.type T) := by decide +kernel) (hX : X.gx = g := by rfl) (hg : Gl X x := by rfl) (hn : x ≠ "__name__" := by decide) (hdb : (x == ("__debug__" : Str)) = false := by decide) : PE X (.Name x pos) (tC (.ty T)) := by
  subst hX
  exact pe_bltn hg hm hv rfl hn hdb
end
/-! ### code lists as texts -/
def S (l : List Nat) : Str := ⟨l.toArray⟩
theorem S_list (l : List Nat) : (S l).cps.toList = l := by simp [S]
theorem S_len (l : List Nat) : (S l).length = l.length := by simp [S, Str.length]
theorem S_app (a b : List Nat) : S a ++ S b = S (a ++ b) := by
  show Str.append (S a) (S b) = S (a ++ b)
  simp [Str.append, S]
theorem cutS_lo (l : List Nat) (i : Nat) : cutS (S l) (some (i : Int)) none = S (l.drop i) := by
  unfold cutS
  rw [S_list, S_len, HT.sIx_nat, HT.sIx_none]
  show S _ = S _
  congr 1
  by_cases h : i ≤ l.length
  · rw [Nat.min_eq_left h, List.take_of_length_le (by simp)]
  · rw [Nat.min_eq_right (by omega), List.drop_eq_nil_of_le (Nat.le_refl _), List.drop_eq_nil_of_le (by omega)]
    simp
theorem cutS_hi (l : List Nat) (j : Nat) : cutS (S l) none (some (j : Int)) = S (l.take j) := by
  unfold cutS
  rw [S_list, S_len, HT.sIx_nat, HT.sIx_none]
  show S _ = S _
  congr 1
  simp only [List.drop_zero, Nat.sub_zero]
  by_cases h : j ≤ l.length
  · rw [Nat.min_eq_left h]
  · rw [Nat.min_eq_right (by omega), List.take_of_length_le (by omega), List.take_of_length_le (by omega)]
def joinL (s : List Nat) : List (List Nat) → List Nat
  | [] => []
  | [x] => x
  | x :: y :: r => x ++ s ++ joinL s (y :: r)
theorem join_S (s : List Nat) : ∀ ys : List (List Nat), Txt.join (S s) (ys.map S) = S (joinL s ys) := fun ys => by
  have e : Txt.join (S s) (ys.map S) = Str.join (S s) (ys.map S) := eq_of_beq (join_plain_closes _ _)
  rw [e]
  induction ys with
  | nil => rfl
  | cons x r ih =>
    cases r with
    | nil => rfl
    | cons y r =>
      have ih' := ih (eq_of_beq (join_plain_closes _ _))
      show S x ++ S s ++ Str.join (S s) ((y :: r).map S) = _
      rw [ih', S_app, S_app]
      rfl
end L2
namespace L2
open PySem PySem.Spec PyProof.Rows
/-! ### what the top has written -/
section
variable {K : PySem.W.Frag} {h : Heap} {mg : Str → Option Value} {P : Program} {w : World} {base : Heap} {f C : Addr} {x qual m : Str} {st : Stmt} {ps : List Str} {oc kV dc pm cd ct : Value} {od an : Option Addr} {sl : Array (Option Value)}
theorem raw_mk (X : K.In h) (G : h.Ns mainGlobals mg) (ps : List Str)
    (a : PySem.W.nsIn K mainGlobals x = some (some (.ref f))) (l : K.lookup f = some ⟨oc, od, .func (PySem.W.fnOf x x (defArgs st) (defBody st) (defScope st) .none kV dc pm an cd ct), sl⟩) (c : PySem.W.codeIn K cd x = true) (k : PySem.W.keepIn K (.ref f) = true)
    (b : ∀ (kV doc pm : Value) (an : Option Addr) (cdv ct : Value) (us : List Value), us.length = ps.length → bindArgs (PySem.W.fnOf x x (defArgs st) (defBody st) (defScope st) .none kV doc pm an cdv ct) ⟨us, []⟩ = pure (ps.zip us)) :
    ∀ P w base, (Gx.mk P w K mg base).Raw x x st ps := fun P w base =>
  have F := fun_mk (st := st) l c k
  ⟨f, _, F, F.binds b, PySem.W.mg_of X G a⟩
theorem rawM_mk (X : K.In h) (G : h.Ns mainGlobals mg) (ps : List Str)
    (a : PySem.W.findIn K (.ref C) m = some (some (.ref f))) (i : PySem.W.isFn K (.ref f) = true) (l : K.lookup f = some ⟨oc, od, .func (PySem.W.fnOf m qual (defArgs st) (defBody st) (defScope st) .none kV dc pm an cd ct), sl⟩) (c : PySem.W.codeIn K cd qual = true) (k : PySem.W.keepIn K (.ref f) = true)
    (b : ∀ (kV doc pm : Value) (an : Option Addr) (cdv ct : Value) (us : List Value), us.length = ps.length → bindArgs (PySem.W.fnOf m qual (defArgs st) (defBody st) (defScope st) .none kV doc pm an cdv ct) ⟨us, []⟩ = pure (ps.zip us)) :
    ∀ P w base, (Gx.mk P w K mg base).RawM C m qual st ps := fun P w base =>
  have F := fun_mk (st := st) l c k
  ⟨f, _, F, F.binds b, ⟨a, i, k⟩⟩
theorem rawI_mk (X : K.In h) (G : h.Ns mainGlobals mg) (ps : List Str) (aC : PySem.W.nsIn K mainGlobals x = some (some (.ref C))) (mk : PySem.W.makesIn K C = true) (kc : PySem.W.keepIn K (.ref C) = true)
    (a : PySem.W.findIn K (.ref C) "__init__" = some (some (.ref f))) (i : PySem.W.isFn K (.ref f) = true) (l : K.lookup f = some ⟨oc, od, .func (PySem.W.fnOf "__init__" qual (defArgs st) (defBody st) (defScope st) .none kV dc pm an cd ct), sl⟩) (c : PySem.W.codeIn K cd qual = true) (k : PySem.W.keepIn K (.ref f) = true)
    (b : ∀ (kV doc pm : Value) (an : Option Addr) (cdv ct : Value) (us : List Value), us.length = ps.length → bindArgs (PySem.W.fnOf "__init__" qual (defArgs st) (defBody st) (defScope st) .none kV doc pm an cdv ct) ⟨us, []⟩ = pure (ps.zip us)) :
    ∀ P w base, (Gx.mk P w K mg base).RawI x C qual st ps := fun P w base =>
  have F := fun_mk (st := st) l c k
  ⟨f, _, F, F.binds b, ⟨mk, a, i, kc⟩, PySem.W.mg_of X G aC⟩
end
/-- the law's own promise -/
def spTrue (K : PySem.W.Frag) : Sp := fun vs H Q _ => ∃ (a : Addr) (ns : List Int), vs = [.ref a] ∧ SqL K H a (ns.map V.int) ∧ ns.length ≤ 63 ∧ ∀ H', Q (.bl true) H'
/-- the law's def as it stands at the top -/
def LawRaw (K : PySem.W.Frag) (mg : Str → Option Value) (st : Stmt) (x n : Str) : Prop := ∃ f fd, Fun K n n st f fd ∧ (∀ (s : Shared) (u : Value), BindsTo s fd ⟨[u], []⟩ [(x, u)]) ∧ mg n = some (.ref f)
theorem lawRaw_mk {K : PySem.W.Frag} {h : Heap} {mg : Str → Option Value} {f : Addr} {x n : Str} {st : Stmt} {oc kV dc pm cd ct : Value} {od an : Option Addr} {sl : Array (Option Value)} (X : K.In h) (G : h.Ns mainGlobals mg)
    (a : PySem.W.nsIn K mainGlobals n = some (some (.ref f))) (l : K.lookup f = some ⟨oc, od, .func (PySem.W.fnOf n n (defArgs st) (defBody st) (defScope st) .none kV dc pm an cd ct), sl⟩) (c : PySem.W.codeIn K cd n = true) (k : PySem.W.keepIn K (.ref f) = true)
    (b : ∀ (kV doc pm : Value) (an : Option Addr) (cdv ct : Value) (s : Shared) (u : Value), BindsTo s (PySem.W.fnOf n n (defArgs st) (defBody st) (defScope st) .none kV doc pm an cdv ct) ⟨[u], []⟩ [(x, u)]) : LawRaw K mg st x n :=
  ⟨f, _, fun_mk (st := st) l c k, b kV dc pm an cd ct, PySem.W.mg_of X G a⟩
/-- from the law's body to the claim -/
theorem walk_gx {l : PySem.W.OpenLaw} {q : Program} {loose : List Str} {XP : (Str → Option Value) → Heap → Prop} {YP : World → Heap → Prop} {d : DefRec} {K : Params → PySem.W.Frag} (k : Nat) (x : Str) (st : Stmt) (N : List Str) (hn : l.most = some 63) (hdf : d.params.defaults = []) (hk : Room (k + 1) callerA) (S : FnScope N [x] (defScope st))
    (hY : ∀ (w : World) (h : Heap), YP w h → (K w.params).In h)
    (F : ∀ (w : World) (mg : Str → Option Value) (h : Heap), (K w.params).In h → h.Ns mainGlobals mg → LawRaw (K w.params) mg st x d.name ∧ ∀ base, Body (Gx.mk l.prog w (K w.params) mg base) k N d.name st (spTrue (K w.params))) :
    PySem.W.WalkO q loose XP YP l.row.toRowW d [] (fun f vs => PySem.call f vs) := by
  refine L2.walk_of (n := 63) (k := k + 1) (x := x) (CX := fun _ => CX0) (sp := fun w => spTrue (K w.params)) hn (by decide) hdf hk hY (fun w mg fa h KX G hmg => ?_) (fun _ _ a ns hl _ hS => ⟨a, ns, rfl, hS, hl, fun _ => rfl⟩) fun _ _ _ _ _ z => z
  obtain ⟨⟨f, fd, Fu, hb, hm⟩, B⟩ := F w mg h KX G
  have e := hmg.symm.trans hm
  cases e
  exact ⟨fd, hb, fun base _ _ => Fu.ok S (fun vs H Q E h => by obtain ⟨a, ns, rfl, _⟩ := h; rfl) fun cdv A outer s H vs Q E hr h => B base fa cdv A outer s H vs Q E hr h⟩
end L2
namespace L2
open PySem PySem.Spec PyProof.Rows
section
variable {X : Cx}
/-- a number's bits, by a power above it -/
theorem bits_lt {a : Int} {m : Nat} (h : a.natAbs < 2 ^ m) : Builtin.Int.intBits a ≤ m := by
  unfold Builtin.Int.intBits
  split
  · omega
  · rename_i h0
    have h0 : a.natAbs ≠ 0 := by simpa using h0
    have := (Nat.log2_lt h0).mpr h
    omega
/-- a product whose bits are told -/
def CMulB (i j : Int) : Prop := ∃ m n : Nat, i.natAbs < 2 ^ m ∧ j.natAbs < 2 ^ n ∧ m + n ≤ 100000000
theorem CMulB.ok {i j : Int} (h : CMulB i j) : IntMulOk i j := by
  obtain ⟨m, n, h1, h2, h3⟩ := h
  exact IntMulOk.of_le (bits_lt h1) (bits_lt h2) (by omega)
def CDivL (i j : Int) : Prop := 0 < j ∧ j.natAbs < 2 ^ 9000
theorem op_fdivL : OpR X (binaryOp .FloorDiv) (rI CDivL fun i j => .int (i / j)) := opI fun i j _ _ _ _ _ hc q => by
  have h1 : (0 : Int) < j := hc.1
  have h2 := hc.2
  have h3 : j.natAbs ≠ 0 := by omega
  exact floordiv_int (by omega) (by rw [Int.fdiv_eq_ediv_of_nonneg i (by omega)]; exact q) (.inl (PyProof.noPylong_of_log2 ((Nat.log2_lt h3).mpr h2)))
theorem small_div {j : Int} (h : 0 < j) (h2 : j < 1073741824) {i : Int} : CDivL i j := ⟨h, Nat.lt_of_lt_of_le (show j.natAbs < 2 ^ 30 by omega) (Nat.pow_le_pow_right (by decide) (by decide))⟩
end
end L2
namespace L2
open PySem PySem.Spec PyProof.Rows
theorem cxOf_K {CX : CXT} {P : Program} {w : World} {K : PySem.W.Frag} {mg : Str → Option Value} {base : Heap} {N : List Str} {qual : Str} {scope : Scope} {f : Addr} {cd : Value} {A : Around} {outer : List Env} {s : Shared} {H : Hp} {E : XK} :
    (cxOf CX P w K mg base N qual scope f cd A outer s H E).K = K := rfl
theorem nox_K {X : Cx} : X.nox.K = X.K := rfl
/-! loops, said of the reading itself -/
section
variable {g : TG} {tb : TS} {D : Ends} {σ : St} {H : Hp}
theorem tFor_range1 {ta : TA} {n : Nat} (Pv : Nat → St → Hp → Prop) (ha : ∀ R : List V → Hp → Prop, R [.int n] H → ta σ H R) (hn : n < 2 ^ 62) (h0 : Pv 0 σ H)
    (hs : ∀ i σ H, i < n → Pv i σ H → g (.int i) σ H fun σ2 H2 => tb { D with nx := Pv (i + 1), ct := Pv (i + 1), bk := D.nx } σ2 H2) (hd : ∀ σ H, Pv n σ H → D.nx σ H) : tFor (iRng1 ta) g tb D σ H := by
  refine ha _ ⟨n, rfl, by omega, by omega, ?_⟩
  refine for_range (lo := 0) (n := n) Pv h0 (fun i σ H hi p => ?_) hd
  have e : (0 : Int) + i = i := by omega
  rw [e]; exact hs i σ H hi p
theorem tFor_list {K : PySem.W.Frag} {tl : TE} {a : Addr} {xs : List V} (Pv : Nat → St → Hp → Prop) (ha : ∀ R : V → Hp → Prop, R (.ref a) H → tl σ H R) (h0 : Pv 0 σ H) (hl : ∀ i σ H, i ≤ xs.length → Pv i σ H → SqL K H a xs)
    (hs : ∀ i x σ H, xs[i]? = some x → Pv i σ H → g x σ H fun σ2 H2 => tb { D with nx := Pv (i + 1), ct := Pv (i + 1), bk := D.nx } σ2 H2) (hd : ∀ σ H, Pv xs.length σ H → D.nx σ H) : tFor (iList K tl) g tb D σ H := by
  refine ha _ ⟨a, rfl, ⟨xs, hl 0 σ H (Nat.zero_le _) h0⟩, ?_⟩
  exact for_list Pv h0 hl hs hd
end
end L2
namespace L2
open PySem PySem.Spec PyProof.Rows
section
variable {X : Cx}
/-- the sum of a list of ints -/
theorem call_sum_ints (hc : X.calm = true := by rfl) : CallR X (.builtin "sum") (fun xs H Q => ∃ (p : Addr) (ns : List Int), xs = [.ref p] ∧ SqL X.K H p (ns.map V.int) ∧ Q (.int ns.sum) H) := by
  intro pins s σ H xs us Q I r h
  obtain ⟨p, ns, rfl, hq, q⟩ := h
  obtain ⟨u, rfl, rx⟩ := vals1 r
  cases rx
  obtain ⟨its, r', pl, hz⟩ := I.list hq
  have hi := intsAre_of r'
  have hl := pl.isList
  obtain ⟨xs, ex⟩ := hi.allInts.items
  rw [ex] at hl
  have e : preSum (numAt xs) xs.size = ns.sum := by
    have h1 := nums_intItems (xs := xs)
    rw [← ex] at h1
    have h2 := hi.numsOf
    rw [preSum_eq, List.take_of_length_le (by simp)]
    rw [← h1]
    exact congrArg List.sum h2
  refine sum_intListG (I.ok.hd hc) hl fun h' tk t' hk => ?_
  rw [e]
  exact ⟨.int _, H, I.kept (t' := tk) hk, ⟨t', rfl⟩, q⟩
end
/-! ### enumerate over a list -/
/-- what enumerate yields: pairs of a place and a thing, each a new tuple -/
def Ite (G : Hp → List V → Prop) : It :=
  ⟨fun i H => ∃ xs x, G H xs ∧ xs[i]? = some x, fun i H v H' => ∃ T, v = .ref T ∧ H T = none ∧ ∀ xs x, G H xs → xs[i]? = some x → H' = upd H T (.tup [.int i, x]), fun i H => ∃ xs, G H xs ∧ xs.length ≤ i⟩
theorem turn_enumL {P : Program} {w : World} {K : PySem.W.Frag} {elts : List Expr} {kk : Nat} {pos : Pos} {a e it : Addr} (ne : e ≠ it) (na : a ≠ e ∧ a ≠ it) :
    Turn P w K (.Tuple elts kk pos) (Ite fun H xs => SqL K H a xs) [e, it] e (fun i h => (∃ old, IsEnum h e it i old) ∧ h.IsListIter it a i) where
  mem := by simp
  obj := fun i h ⟨⟨old, he⟩, hi⟩ c hc => by
    simp only [List.mem_cons, List.not_mem_nil, or_false] at hc
    rcases hc with rfl | rfl
    · exact ⟨_, he, fun v z => by cases z⟩
    · obtain ⟨o, q, _, d⟩ := hi
      exact ⟨o, q, fun v z => by rw [d] at z; cases z⟩
  keep := fun i h h' ⟨⟨old, he⟩, hi⟩ q => ⟨⟨old, q e (by simp) _ he⟩, hi.at fun o z => q it (by simp) o z⟩
  item := by
    intro X hP hw hK hc i pins s σ H E I hf ⟨⟨old, he⟩, hi⟩ hg
    subst hP hw hK
    obtain ⟨xs, x, g1, hx⟩ := hg
    obtain ⟨its, rv, pl, hz⟩ := I.list g1
    obtain ⟨u, hu, ru⟩ := rv.get hx
    refine wpAny_pyNext_enum_item he hi pl.isList (x := u) (by simpa using hu) ne fun h1 ho hi1 hT hsz kp => ?_
    refine ⟨_, rfl, ?_⟩
    refine wpAny_letOwnedTupleGo_enum (s := { s with heap := h1, toks := s.toks + 1 }) ho fun h2 he2 sb => ?_
    have elt : e < s.heap.objs.size := Heap.lt_size he
    have kp2 : ∀ c o, c ∉ [e, it] → s.heap.get? c = some o → h2.get? c = some o := fun c o hm z => by
      have c1 : c ≠ e := fun q => hm (by simp [q])
      have c2 : c ≠ it := fun q => hm (by simp [q])
      exact sb.extBut c o c1 (kp c o c1 c2 z)
    have hT2 : h2.get? s.heap.objs.size = some { cls := .type "tuple", data := .seq #[.int i s.toks, u] } := sb.extBut _ _ (Nat.ne_of_gt elt) hT
    have I' := I.turnedT (t' := s.toks + 1) (h' := h2) (T := s.heap.objs.size) (vs := [.int i, x]) kp2 hf (Nat.le_refl _) (show ObjOk X.prog X.w _ h2 _ (.tup [.int i, x]) from ⟨by show 2 ≤ sizeLine; decide, [.int i s.toks, u], .cons ⟨_, rfl⟩ (.cons ru .nil), _, hT2, rfl, _, rfl⟩)
    have fresh : H s.heap.objs.size = none := I.hok.fresh (Nat.le_refl _)
    refine ⟨.ref s.heap.objs.size, _, I', rfl, ⟨_, rfl, fresh, fun xs' x' g1' hx' => ?_⟩, ⟨⟨_, by simpa using he2⟩, hi1.at fun o z => sb.extBut _ _ (Ne.symm ne) z⟩, fun c hm => ?_⟩
    · rw [I.list_inj g1' g1, hx] at hx'
      cases hx'
      rfl
    · have h0 := (hf c hm).1
      have clt : c < s.heap.objs.size := by
        simp only [List.mem_cons, List.not_mem_nil, or_false] at hm
        rcases hm with rfl | rfl
        · exact elt
        · obtain ⟨o, q, _⟩ := hi; exact Heap.lt_size q
      rw [upd_ne (Nat.ne_of_lt clt)]
      exact h0
  done := by
    intro X hP hw hK hc i pins s σ H E I hf ⟨⟨old, he⟩, hi⟩ hg
    subst hP hw hK
    obtain ⟨xs, g1, hx⟩ := hg
    obtain ⟨its, rv, pl, hz⟩ := I.list g1
    have hl := rv.length
    obtain ⟨f0, f1, f2, f3, f4, f5⟩ := hf it (by simp)
    exact wpAny_pyNext_enum_end (I.ok.hd hc) he hi pl.isList (by simp; omega) fun h' eb => ⟨rfl, I.turned (t' := s.toks) (fun b o hb z => eb b o hb z) f0 f1 f3 f4 f5⟩
  self := fun _ _ _ _ _ ⟨⟨_, he⟩, _⟩ h => wpAny_pyIter_enum he h
section
variable {X : Cx} {elts : List Expr} {kk : Nat} {tpos : Pos}
def iEnumL (K : PySem.W.Frag) (ta : TA) : TI := fun σ H R => ta σ H fun vs H1 => ∃ a xs, vs = [.ref a] ∧ SqL K H1 a xs ∧ R (Ite fun H xs => SqL K H a xs) H1
theorem pi_enumL {a : Expr} {ta : TA} {p pos : Pos} (hg : Gl X "enumerate") (hm : X.mg "enumerate" = none) (ha : PA X [a] ta) (hs : starEach [a] X.env = [(false, eval a X.env)] := by rfl) :
    PI X (.Tuple elts kk tpos) (.Call (.Name "enumerate" p) [a] [] pos) (iEnumL X.K ta) := by
  intro pins s σ H R I h
  refine Call_ (ld_blt I hg hm boot_enumerate (PyProof.Rows.callWith_type1 (thn (ha pos pins s σ H _ I h) fun us s1 ⟨vs, H1, I1, r1, q1⟩ => ?_) hs rfl))
  obtain ⟨x, xs, e, hx, q⟩ := q1
  subst e
  obtain ⟨u, rfl, ru⟩ := vals1 r1
  cases ru
  obtain ⟨i1, _, pl, _⟩ := I1.list hx
  have l1 : x < s1.heap.objs.size := by obtain ⟨_, e, _⟩ := pl.isList; exact Heap.lt_size e
  refine call_enumerate_list pl.isList fun h' he hi hsz keep => ?_
  refine wpAny_pyIter_enum he ?_
  have I2 : Inv X pins σ H1 { s1 with heap := h' } := I1.kept (t' := s1.toks) keep
  have l1' : @LT.lt Nat _ x s1.heap.objs.size := l1
  refine ⟨_, [s1.heap.objs.size + 1, s1.heap.objs.size], _, _, H1, rfl, I2, turn_enumL (by intro z; have z' : @Eq Nat _ _ := z; omega) ⟨by intro z; have z' : @Eq Nat _ _ := z; omega, by intro z; have z' : @Eq Nat _ _ := z; omega⟩, ⟨⟨_, he⟩, hi⟩, fun c hc => ?_, q⟩
  have hle : s1.heap.objs.size ≤ c := by
    simp only [List.mem_cons, List.not_mem_nil, or_false] at hc
    rcases hc with e | e <;> (have e' : @Eq Nat _ _ := e; show @LE.le Nat _ s1.heap.objs.size c; omega)
  exact I1.fpOk hle (I1.hok.fresh hle)
end
end L2
namespace L2
open PySem PySem.Spec PyProof.Rows
/-! ### == and != of data of any depth -/
mutual
/-- the data that a value of the heap stands for -/
inductive Den (K : PySem.W.Frag) (H : Hp) : V → PyData → Prop
  | non : Den K H .non .none
  | bl (b : Bool) : Den K H (.bl b) (.bool b)
  | int (i : Int) : Den K H (.int i) (.int i)
  | str (x : Str) (h : PyData.strOk x = true) : Den K H (.str x) (.str x)
  | lst {a : Addr} {vs : List V} {ds : List PyData} : SqL K H a vs → Dens K H vs ds → Den K H (.ref a) (.list ds)
  | tup {a : Addr} {vs : List V} {ds : List PyData} : SqT K H a vs → Dens K H vs ds → Den K H (.ref a) (.tuple ds)
inductive Dens (K : PySem.W.Frag) (H : Hp) : List V → List PyData → Prop
  | nil : Dens K H [] []
  | cons {v : V} {d : PyData} {vs : List V} {ds : List PyData} : Den K H v d → Dens K H vs ds → Dens K H (v :: vs) (d :: ds)
end
mutual
theorem Den.lay {K : PySem.W.Frag} {H : Hp} : ∀ {v : V} {d : PyData}, Den K H v d → d.canLay0 = true
  | _, _, .non => rfl
  | _, _, .bl b => rfl
  | _, _, .int i => rfl
  | _, _, .str x h => by simpa [PyData.canLay0] using h
  | _, _, .lst _ hs => by rw [PyData.canLay0]; exact hs.lay
  | _, _, .tup _ hs => by rw [PyData.canLay0]; exact hs.lay
theorem Dens.lay {K : PySem.W.Frag} {H : Hp} : ∀ {vs : List V} {ds : List PyData}, Dens K H vs ds → PyData.canLayAll0 ds = true
  | _, _, .nil => rfl
  | _, _, .cons h hs => by rw [PyData.canLayAll0, h.lay, hs.lay]; rfl
end
section
variable {X : Cx}
mutual
theorem Den.reads {pins : List (Addr × Obj)} {σ : St} {H : Hp} {s : Shared} (I : Inv X pins σ H s) : ∀ {v : V} {d : PyData} {u : Value}, Den X.K H v d → RelV v u → ∃ as, Reads s.heap u d as
  | _, _, u, .non, r => by cases (show u = .none from r); exact ⟨_, .none⟩
  | _, _, u, .bl b, r => by cases (show u = .bool b from r); exact ⟨_, .bool b⟩
  | _, _, u, .int i, r => by obtain ⟨t, rfl⟩ := r; exact ⟨_, .int i t⟩
  | _, _, u, .str x h, r => by obtain ⟨t, rfl⟩ := r; exact ⟨_, .str x t⟩
  | _, _, u, .lst (a := a) h hs, r => by
    cases (show u = .ref a from r)
    obtain ⟨its, rv, pl, hz⟩ := I.list h
    obtain ⟨as, ra⟩ := hs.reads I rv
    obtain ⟨o, e1, e2, n, e3⟩ := pl.isList
    exact ⟨_, .list e1 e2 e3 (by simpa using ra)⟩
  | _, _, u, .tup (a := a) h hs, r => by
    cases (show u = .ref a from r)
    obtain ⟨its, rv, pl, hz⟩ := I.tuple h
    obtain ⟨as, ra⟩ := hs.reads I rv
    obtain ⟨o, e1, e2, n, e3⟩ := (show s.heap.IsTuple a its.toArray from pl)
    exact ⟨_, .tuple e1 e2 e3 (by simpa using ra)⟩
theorem Dens.reads {pins : List (Addr × Obj)} {σ : St} {H : Hp} {s : Shared} (I : Inv X pins σ H s) : ∀ {vs : List V} {ds : List PyData} {us : List Value}, Dens X.K H vs ds → Vals vs us → ∃ as, ReadsAll s.heap us ds as
  | _, _, us, .nil, r => by cases r; exact ⟨_, .nil⟩
  | _, _, us, .cons h hs, r => by
    cases r with
    | cons r rr =>
      obtain ⟨as, ra⟩ := h.reads I r
      obtain ⟨bs, rb⟩ := hs.reads I rr
      exact ⟨_, .cons ra rb⟩
end
theorem op_eqD (hu : X.A.units + 64 < cLine) : OpR X (compareOp .Eq) (fun x y H Q => ∃ d e, Den X.K H x d ∧ Den X.K H y e ∧ d.depth ≤ 64 ∧ Q (.bl (PyData.eqv d e)) H) := by
  intro pins s σ H x y v u Q I rx ry h
  obtain ⟨d, e, hd, he, dp, q⟩ := h
  obtain ⟨as, ra⟩ := hd.reads I rx
  obtain ⟨bs, rb⟩ := he.reads I ry
  exact SeqAt.rcAt_reads ra rb hd.lay he.lay (by omega) _ _ _ _ ⟨.bl _, H, I, rfl, q⟩
theorem op_neD (hu : X.A.units + 64 < cLine) : OpR X (compareOp .NotEq) (fun x y H Q => ∃ d e, Den X.K H x d ∧ Den X.K H y e ∧ d.depth ≤ 64 ∧ Q (.bl (!PyData.eqv d e)) H) := by
  intro pins s σ H x y v u Q I rx ry h
  obtain ⟨d, e, hd, he, dp, q⟩ := h
  obtain ⟨as, ra⟩ := hd.reads I rx
  obtain ⟨bs, rb⟩ := he.reads I ry
  exact SeqAt.compareNe_reads ra rb hd.lay he.lay (by omega) ⟨.bl _, H, I, rfl, q⟩
end
/-! ### comprehensions -/
theorem take_snoc {α : Type} {l : List α} {i : Nat} {x : α} (h : l[i]? = some x) : l.take (i + 1) = l.take i ++ [x] := by
  obtain ⟨hi, hc⟩ := List.getElem?_eq_some_iff.mp h
  rw [List.take_succ_eq_append_getElem hi, hc]
theorem lc_map {J : It} {P : Hp → Prop} {xs : List V} (hJ : ItSeq J P xs) {src : List (Option Nat)} {te : TE} {σ : St} {H1 : Hp} {Q : VK} {D : Addr} (ys : List V) (hP : ∀ H', Same H1 H' → P H') (hD : H1 D = none) (hl : ys.length = xs.length) (hlen : xs.length ≤ 100000)
    (step : ∀ (i : Nat) x y H', xs[i]? = some x → ys[i]? = some y → Same H1 H' → ∀ R : VK, (∀ H'', Same H' H'' → R y H'') → te (some x :: capSt src σ) H' R)
    (fin : ∀ H', Same H1 H' → H' D = some (.lst ys) → Q (.ref D) H') : LC (none :: src) J (gName 0) tYes te σ H1 Q D := by
  have h6 : 100000 < sizeLine := by decide
  refine lc_on hJ (fun i zs σ' H' => zs = ys.take i ∧ (∃ o, σ' = o :: capSt src σ) ∧ Same H1 H' ∧ H' D = some (.lst zs)) ⟨by simp, ⟨none, rfl⟩, .upd_new hD _, upd_same⟩ (fun i zs σ' H' p => ⟨hP _ p.2.2.1, p.2.2.2⟩) (gName_mono 0) ?_ ?_
  · rintro i zs σ' H' x hx ⟨rfl, ⟨o, rfl⟩, sm, hd⟩
    have hi := (List.getElem?_eq_some_iff.mp hx).1
    have hy : ys[i]? = some (ys[i]'(by omega)) := List.getElem?_eq_getElem _
    show te (some x :: capSt src σ) H' _
    refine step i x _ H' hx hy sm _ fun H'' s2 => ⟨s2 _ _ hd, ?_, (take_snoc hy).symm, ⟨_, rfl⟩, .upd_over hD (sm.trans s2) _, upd_same⟩
    rw [List.length_take]; omega
  · rintro zs σ' H' ⟨rfl, _, sm, hd⟩
    rw [← hl, List.take_length] at hd
    exact fin H' sm hd
theorem gTup2_mono' (K : PySem.W.Frag) (i j : Nat) : ∀ x σ H Q Q', (∀ σ' H', Q σ' H' → Q' σ' H') → gTup K 2 (gCons (gName i) (gCons (gName j) gNil)) x σ H Q → gTup K 2 (gCons (gName i) (gCons (gName j) gNil)) x σ H Q' := by
  rintro x σ H Q Q' h ⟨a, xs, e, sq, l, v, r, e1, v2, r2, e2, e3, q⟩
  exact ⟨a, xs, e, sq, l, v, r, e1, v2, r2, e2, e3, h _ _ q⟩
end L2
namespace L2
open PySem PySem.Spec PyProof.Rows
/-! a block cut behind its first statements -/
section
variable {a b c d e r : TS} {D : Ends} {σ : St} {H : Hp} (M : St → Hp → Prop) (h1 : ∀ σ H, M σ H → r D σ H)
include h1
theorem cut1 (h2 : ∀ N : St → Hp → Prop, (∀ σ H, M σ H → N σ H) → a { D with nx := N } σ H) : tSeq a r D σ H := h2 (r D) h1
theorem cut2 (h2 : ∀ N : St → Hp → Prop, (∀ σ H, M σ H → N σ H) → tSeq a b { D with nx := N } σ H) : tSeq a (tSeq b r) D σ H := h2 (r D) h1
theorem cut4 (h2 : ∀ N : St → Hp → Prop, (∀ σ H, M σ H → N σ H) → tSeq a (tSeq b (tSeq c d)) { D with nx := N } σ H) : tSeq a (tSeq b (tSeq c (tSeq d r))) D σ H := h2 (r D) h1
end
theorem scal_ii (i j : Int) : scal (.int i) (.int j) = true := rfl
theorem scal_ss (i j : Str) : scal (.str i) (.str j) = true := rfl
theorem cut_list {α : Type} (xs : List α) (i j : Nat) : (xs.drop (min i xs.length)).take (min j xs.length - min i xs.length) = (xs.drop i).take (j - i) := by
  by_cases hi : i ≤ xs.length
  · rw [Nat.min_eq_left hi]
    by_cases hj : j ≤ xs.length
    · rw [Nat.min_eq_left hj]
    · rw [Nat.min_eq_right (by omega), List.take_of_length_le (by rw [List.length_drop]; omega), List.take_of_length_le (by rw [List.length_drop]; omega)]
  · rw [List.drop_of_length_le (by omega), List.drop_of_length_le (show xs.length ≤ i by omega)]
    simp
theorem cutV_nn (xs : List V) (i j : Nat) : cutV xs (some (i : Int)) (some (j : Int)) = (xs.drop i).take (j - i) := by
  unfold cutV
  rw [HT.sIx_nat, HT.sIx_nat]
  exact cut_list xs i j
theorem cutV_hi (xs : List V) (j : Nat) : cutV xs none (some (j : Int)) = xs.take j := by
  unfold cutV
  rw [HT.sIx_nat, HT.sIx_none, List.drop_zero, Nat.sub_zero]
  have := cut_list xs 0 j
  simpa using this
theorem cutV_lo (xs : List V) (i : Nat) : cutV xs (some (i : Int)) none = xs.drop i := by
  unfold cutV
  rw [HT.sIx_nat, HT.sIx_none]
  by_cases hi : i ≤ xs.length
  · rw [Nat.min_eq_left hi, List.take_of_length_le (by rw [List.length_drop]; omega)]
  · rw [List.drop_of_length_le (by omega), List.drop_of_length_le (show xs.length ≤ i by omega)]
    simp
end L2
namespace L2
open PySem PySem.Spec PyProof.Rows
/-- while, by a word with letters of its own -/
theorem while_of {α : Type} {c : TT} {tb : TS} {D : Ends} {σ : St} {H : Hp} (Pv : α → St → Hp → Prop) (cond : α → Bool) (μ : α → Nat) (a₀ : α) (h0 : Pv a₀ σ H)
    (hc : ∀ a σ H, Pv a σ H → ∀ R : Bool → Hp → Prop, (∀ H', Pv a σ H' → R (cond a) H') → c σ H R)
    (hb : ∀ a σ H, Pv a σ H → cond a = true → tb { D with nx := fun σ' H' => ∃ a', Pv a' σ' H' ∧ μ a' < μ a, ct := fun σ' H' => ∃ a', Pv a' σ' H' ∧ μ a' < μ a, bk := D.nx } σ H)
    (hd : ∀ a σ H, Pv a σ H → cond a = false → D.nx σ H) : tWhile c tb D σ H := by
  refine ⟨fun m σ H => ∃ a, m = μ a ∧ Pv a σ H, ⟨_, a₀, rfl, h0⟩, ?_⟩
  rintro m σ H ⟨a, rfl, p⟩
  refine hc a σ H p _ fun H' p' => ?_
  cases e : cond a with
  | true => exact ⟨_, fun σ' H' ⟨a', q, l⟩ => ⟨_, l, a', rfl, q⟩, hb a σ H' p' e⟩
  | false => exact hd a σ H' p' e
section
variable {X : Cx} {tg : Expr}
def CPowB (i j : Int) : Prop := 0 ≤ j ∧ ∃ m : Nat, i.natAbs < 2 ^ m ∧ (m : Int) * j ≤ 2 ^ 27
/-- hi, hi - 1, .. (n of them) -/
def Itd (hi : Int) (n : Nat) : It := ⟨fun i _ => i < n, fun i H x H' => H' = H ∧ x = .int (hi - i), fun i _ => n ≤ i⟩
def iRngD (ta : TA) : TI := fun σ H R => ta σ H fun vs H1 => ∃ i j : Int, vs = [.int i, .int j, .int (-1)] ∧ (-(2 ^ 62) ≤ i ∧ i < 2 ^ 62 ∧ -(2 ^ 62) ≤ j ∧ j < 2 ^ 62) ∧ R (Itd i (i - j).toNat) H1
end
end L2
namespace L2
open PySem PySem.Spec PyProof.Rows
/-- for over a list that is made on the spot -/
theorem tFor_listN {g : TG} {tb : TS} {D : Ends} {σ : St} {H : Hp} {K : PySem.W.Frag} {tl : TE} {xs : List V} (Pv : Addr → Nat → St → Hp → Prop) (ha : ∀ R : V → Hp → Prop, (∀ c H1, Pv c 0 σ H1 → R (.ref c) H1) → tl σ H R) (hl : ∀ c i σ H, i ≤ xs.length → Pv c i σ H → SqL K H c xs)
    (hs : ∀ c (i : Nat) x σ H, xs[i]? = some x → Pv c i σ H → g x σ H fun σ2 H2 => tb { D with nx := Pv c (i + 1), ct := Pv c (i + 1), bk := D.nx } σ2 H2) (hd : ∀ c σ H, Pv c xs.length σ H → D.nx σ H) : tFor (iList K tl) g tb D σ H := by
  refine ha _ fun c H1 h0 => ⟨c, rfl, ⟨xs, hl c 0 σ H1 (Nat.zero_le _) h0⟩, ?_⟩
  exact for_list (Pv c) h0 (hl c) (hs c) (hd c)
end L2
namespace L2
open PySem PySem.Spec PyProof.Rows
section
variable {src : List (Option Nat)} {te : TE} {σ : St} {H : Hp} {Q : VK}
theorem tLC_range1 {ta : TA} {n : Nat} (ys : List V) (ha : ∀ R : List V → Hp → Prop, R [.int n] H → ta σ H R) (hl : ys.length = n) (hlen : n ≤ 100000)
    (step : ∀ (i : Nat) y H', i < n → ys[i]? = some y → Same H H' → ∀ R : VK, (∀ H'', Same H' H'' → R y H'') → te (some (.int i) :: capSt src σ) H' R)
    (fin : ∀ D H', H D = none → Same H H' → H' D = some (.lst ys) → Q (.ref D) H') : tLC (none :: src) (iRng1 ta) (gName 0) tYes te σ H Q := by
  refine ha _ ⟨n, rfl, by omega, by omega, fun D hD => ?_⟩
  refine lc_map (itseq_range (lo := 0) (n := n) (P := fun _ => True)) ys (fun _ _ => trivial) hD (by simpa using hl) (by simpa using hlen) (fun i x y H' hx hy sm R r => ?_) fun H' => fin D H' hD
  have hi : i < n := by have := (List.getElem?_eq_some_iff.mp hx).1; simpa using this
  rw [List.getElem?_map, List.getElem?_range hi] at hx
  have e : V.int (0 + (i : Int)) = x := Option.some.inj hx
  rw [Int.zero_add] at e
  subst e
  exact step i y H' hi hy sm R r
/-- a comprehension over a list that is made on the spot -/
theorem tLC_listN {K : PySem.W.Frag} {tl : TE} {xs : List V} (ys : List V) (ha : ∀ R : V → Hp → Prop, (∀ a H1, Same H H1 → SqL K H1 a xs → R (.ref a) H1) → tl σ H R) (hl : ys.length = xs.length) (hlen : xs.length ≤ 100000)
    (step : ∀ (i : Nat) x y H', xs[i]? = some x → ys[i]? = some y → Same H H' → ∀ R : VK, (∀ H'', Same H' H'' → R y H'') → te (some x :: capSt src σ) H' R)
    (fin : ∀ D H', H D = none → Same H H' → H' D = some (.lst ys) → Q (.ref D) H') : tLC (none :: src) (iList K tl) (gName 0) tYes te σ H Q :=
  ha _ fun a H1 s1 hS => ⟨a, rfl, ⟨xs, hS⟩, fun D hD => lc_map (itseq_list.imp fun H' (e : Same H1 H') => e.seq hS) ys (fun _ e => e) hD hl hlen (fun i x y H' hx hy sm R r => step i x y H' hx hy (s1.trans sm) R r) fun H' sm => fin D H' (s1.free hD) (s1.trans sm)⟩
/-- .. with a test: what it leaves -/
theorem lc_filt {J : It} {P : Hp → Prop} {xs : List V} (hJ : ItSeq J P xs) {tt : TT} {H1 : Hp} {D : Addr} (p : V → Bool) (f : V → V) (hP : ∀ H', Same H1 H' → P H') (hD : H1 D = none) (hlen : xs.length ≤ 100000)
    (test : ∀ x H', x ∈ xs → Same H1 H' → ∀ R : Bool → Hp → Prop, (∀ H'', Same H' H'' → R (p x) H'') → tt (some x :: capSt src σ) H' R)
    (step : ∀ x H', x ∈ xs → p x = true → Same H1 H' → ∀ R : VK, (∀ H'', Same H' H'' → R (f x) H'') → te (some x :: capSt src σ) H' R)
    (fin : ∀ H', Same H1 H' → H' D = some (.lst ((xs.filter p).map f)) → Q (.ref D) H') : LC (none :: src) J (gName 0) tt te σ H1 Q D := by
  have h6 : 100000 < sizeLine := by decide
  refine lc_by hJ (fun i zs σ' H' => zs = ((xs.take i).filter p).map f ∧ (∃ o, σ' = o :: capSt src σ) ∧ Same H1 H' ∧ H' D = some (.lst zs)) ⟨by simp, ⟨none, rfl⟩, .upd_new hD _, upd_same⟩ (fun i zs σ' H' q => ⟨hP _ q.2.2.1, q.2.2.2⟩) ?_ ?_
  · rintro i zs σ' H' x hx ⟨rfl, ⟨o, rfl⟩, sm, hd⟩
    have hi := (List.getElem?_eq_some_iff.mp hx).1
    have hm := List.mem_of_getElem? hx
    show tt (some x :: capSt src σ) H' _
    refine test x H' hm sm _ fun H2 s2 => ?_
    cases e : p x with
    | true =>
      refine iteT ?_
      refine step x H2 hm e (sm.trans s2) _ fun H3 s3 => ⟨s3 _ _ (s2 _ _ hd), ?_, ?_, ⟨_, rfl⟩, .upd_over hD ((sm.trans s2).trans s3) _, upd_same⟩
      · have h7 := List.length_filter_le p (xs.take i)
        rw [List.length_map]
        rw [List.length_take] at h7
        omega
      · rw [take_snoc hx, List.filter_append, List.map_append]
        simp [List.filter, e]
    | false =>
      refine iteF ?_
      refine ⟨?_, ⟨_, rfl⟩, sm.trans s2, s2 _ _ hd⟩
      rw [take_snoc hx, List.filter_append]
      simp [List.filter, e]
  · rintro zs σ' H' ⟨rfl, _, sm, hd⟩
    rw [List.take_length] at hd
    exact fin H' sm hd
theorem tLC_filt {K : PySem.W.Frag} {tl : TE} {tt : TT} {xs : List V} (p : V → Bool) (f : V → V) (ha : ∀ R : V → Hp → Prop, (∀ a H1, Same H H1 → SqL K H1 a xs → R (.ref a) H1) → tl σ H R) (hlen : xs.length ≤ 100000)
    (test : ∀ x H', x ∈ xs → Same H H' → ∀ R : Bool → Hp → Prop, (∀ H'', Same H' H'' → R (p x) H'') → tt (some x :: capSt src σ) H' R)
    (step : ∀ x H', x ∈ xs → p x = true → Same H H' → ∀ R : VK, (∀ H'', Same H' H'' → R (f x) H'') → te (some x :: capSt src σ) H' R)
    (fin : ∀ D H', H D = none → Same H H' → H' D = some (.lst ((xs.filter p).map f)) → Q (.ref D) H') : tLC (none :: src) (iList K tl) (gName 0) tt te σ H Q :=
  ha _ fun a H1 s1 hS => ⟨a, rfl, ⟨xs, hS⟩, fun D hD => lc_filt (itseq_list.imp fun H' (e : Same H1 H') => e.seq hS) p f (fun _ e => e) hD hlen (fun x H' hx sm R r => test x H' hx (s1.trans sm) R r) (fun x H' hx hp sm R r => step x H' hx hp (s1.trans sm) R r) fun H' sm => fin D H' (s1.free hD) (s1.trans sm)⟩
end
end L2
namespace L2
open PySem PySem.Spec PyProof.Rows
section
variable {src : List (Option Nat)} {te : TE} {σ : St} {H : Hp} {Q : VK}
end
/-! the same within a comprehension, whose own block says the text's objects in its own words -/
section
variable {X : Cx} {K : PySem.W.Frag}
theorem ix_tupK (h : X.K = K := by rfl) : IxR X (rIxT K) := by subst h; exact ix_tup
theorem sl_listK (h : X.K = K := by rfl) : SlR X (rSlL K) := by subst h; exact sl_list
theorem call_len_seqK (h : X.K = K := by rfl) : CallR X (.builtin "len") (fun xs H Q => ∃ p ys, xs = [.ref p] ∧ (SqL K H p ys ∨ SqT K H p ys) ∧ Q (.int ys.length) H) := by subst h; exact call_len_seq
end
end L2
namespace L2
open PySem PySem.Spec PyProof.Rows
section
variable {tb : TS} {D : Ends} {σ : St} {H : Hp}
/-- for over the pairs of two lists, which may be made on the spot -/
theorem tFor_zipN {K : PySem.W.Frag} {ta : TA} (i j : Nat) {xs ys : List V} (Pv : Addr → Addr → Nat → St → Hp → Prop) (ha : ∀ R : List V → Hp → Prop, (∀ a b H1, Pv a b 0 σ H1 → R [.ref a, .ref b] H1) → ta σ H R)
    (hl : ∀ a b n σ H, n ≤ min xs.length ys.length → Pv a b n σ H → SqL K H a xs ∧ SqL K H b ys)
    (hs : ∀ a b (n : Nat) x y σ H T, xs[n]? = some x → ys[n]? = some y → Pv a b n σ H → H T = none → tb { D with nx := Pv a b (n + 1), ct := Pv a b (n + 1), bk := D.nx } ((σ.set i (some x)).set j (some y)) (upd H T (.tup [x, y])))
    (hd : ∀ a b σ H, Pv a b (min xs.length ys.length) σ H → D.nx σ H) : tFor (iZipL K ta) (gTup K 2 (gCons (gName i) (gCons (gName j) gNil))) tb D σ H := by
  refine ha _ fun a b H1 h0 => ?_
  obtain ⟨s1, s2⟩ := hl a b 0 σ H1 (Nat.zero_le _) h0
  refine ⟨a, b, xs, ys, rfl, s1, s2, ?_⟩
  refine ⟨fun n m σ H => m = min xs.length ys.length - n ∧ n ≤ min xs.length ys.length ∧ Pv a b n σ H, ⟨min xs.length ys.length, by simp, Nat.zero_le _, h0⟩, ?_⟩
  rintro n m σ H ⟨rfl, hn, p⟩
  obtain ⟨g1, g2⟩ := hl a b n σ H hn p
  by_cases hlt : n < min xs.length ys.length
  · have hx : xs[n]? = some (xs[n]'(by omega)) := List.getElem?_eq_getElem _
    have hy : ys[n]? = some (ys[n]'(by omega)) := List.getElem?_eq_getElem _
    refine .inr ⟨⟨xs, ys, _, _, g1, g2, hx, hy⟩, Pv a b (n + 1), fun σ' H' p' => ⟨min xs.length ys.length - (n + 1), by omega, rfl, hlt, p'⟩, ?_⟩
    rintro v H' ⟨T, rfl, hT, heq⟩
    have e := heq xs ys _ _ g1 g2 hx hy
    subst e
    exact ⟨T, _, rfl, SqT.of upd_same, rfl, _, _, rfl, _, _, rfl, rfl, hs a b n _ _ σ H T hx hy p hT⟩
  · have e : n = min xs.length ys.length := by omega
    subst e
    refine .inl ⟨⟨xs, ys, g1, g2, ?_⟩, hd a b σ H p⟩
    omega
end
end L2
namespace L2
open PySem PySem.Spec PyProof.Rows
theorem slicePick_rev (its : List Value) : slicePick its.toArray none none (some (-1)) = its.reverse.toArray := by
  unfold slicePick
  have hb : sliceBounds none none (some (-1)) its.toArray.size = ((its.length : Int) - 1, -1, -1) := by simp [sliceBounds]
  rw [hb]
  have hr : sliceRange ((its.length : Int) - 1) (-1) (-1) = (List.range its.length).map fun (k : Nat) => its.length - 1 - k := by
    unfold sliceRange
    simp only [show ¬ ((-1 : Int) > 0) by decide, if_false]
    have hc : (if (its.length : Int) - 1 > -1 then ((its.length : Int) - 1 - -1 - -1 - 1) / - -1 else 0).toNat = its.length := by
      split
      · have : ((its.length : Int) - 1 - -1 - -1 - 1) = its.length := by omega
        rw [this, show (- -1 : Int) = 1 from rfl, Int.ediv_one]; omega
      · omega
    rw [hc]
    apply List.map_congr_left
    intro k hk
    have : k < its.length := List.mem_range.mp hk
    omega
  simp only [hr]
  congr 1
  rw [List.filterMap_map]
  apply List.ext_getElem?
  intro i
  have key : ∀ (n : Nat), n ≤ its.length → (List.filterMap ((fun x => its.toArray[x]?) ∘ fun k => its.length - 1 - k) (List.range n)) = its.reverse.take n := by
    intro n
    induction n with
    | zero => intro _; simp
    | succ n ih =>
      intro hn
      rw [List.range_succ, List.filterMap_append, ih (by omega)]
      have hx : its.reverse[n]? = some (its[its.length - 1 - n]'(by omega)) := by
        rw [List.getElem?_reverse (by omega)]; exact List.getElem?_eq_getElem _
      rw [take_snoc hx]
      have hlt : its.length - 1 - n < its.length := by omega
      simp [hlt]
  rw [key its.length (Nat.le_refl _)]
  rw [List.take_of_length_le (by simp)]
section
variable {X : Cx} {e st : Expr} {te ts : TE} {pos p2 : Pos}
/-- xs[::-1] of a list: a new list -/
def tRev (K : PySem.W.Frag) (te ts : TE) : TE := fun σ H Q => te σ H fun x H1 => ts σ H1 fun y H2 => y = .int (-1) ∧ ∃ a xs, x = .ref a ∧ SqL K H2 a xs ∧ ∀ p, H2 p = none → Q (.ref p) (upd H2 p (.lst xs.reverse))
theorem pe_rev (he : PE X e te) (hs : PE X st ts) : PE X (.Subscript e (.Slice none none (some st) p2) pos) (tRev X.K te ts) := by
  intro pins s σ H Q I h
  refine Subscript_ (thn (he pins s σ H _ I h) fun v s1 ⟨x, H1, I1, r1, q1⟩ => ?_)
  refine wpAny_Slice ?_
  rw [evalPart_none]
  refine wpAny_pure (wpAny_pure ?_)
  rw [evalPart_some]
  refine thn (hs pins s1 σ H1 _ I1 q1) fun u s2 ⟨y, H2, I2, r2, q2⟩ => ?_
  obtain ⟨rfl, a, xs, rfl, hx, q⟩ := q2
  obtain ⟨t, rfl⟩ := r2
  cases r1
  have I4 : Inv X pins σ H2 { s2 with heap := s2.heap.push { cls := .type "slice", data := .fields #[.none, .none, .int (-1) t] } } := I2.kept (t' := s2.toks) fun b ob q => Heap.get?_push_of_some _ q
  obtain ⟨its, r, ht, hz⟩ := I4.list hx
  have hlen := r.length
  have hg := wpAny_getItem_list_slice (prog := X.prog) (w := X.w) (A := X.A) (E := X.xe) (Q := EP X pins σ Q) ht.isList (Heap.IsSliceOf.new ..) .none .none (.int (-1) t) (by decide) (by
    rw [slicePick_rev]
    refine ⟨.ref _, _, I4.laid (t' := _) (o := .lst xs.reverse) (fun b ob q => Heap.get?_push_of_some _ q) (Nat.le_refl _) ?_, rfl, q _ (I4.hok.fresh (Nat.le_refl _))⟩
    exact ⟨by rw [List.length_reverse]; exact hz, _, 0, r.reverse, Heap.get?_push_size _ rfl⟩) (by rw [List.size_toArray] <;> omega)
  exact tail_any (ops := [.ref a, .ref s2.heap.objs.size]) ht.isList.typeIs slot_list_getitem.lookup hg (by with_unfolding_all rfl)
end
end L2
namespace L2
open PySem PySem.Spec PyProof.Rows
section
variable {X : Cx} {pos : Pos}
def rBits : V → List V → Hp → VK → Prop := fun x vs H Q => ∃ i, x = .int i ∧ vs = [] ∧ Q (.int (Builtin.Int.intBits i : Nat)) H
theorem mt_bits : MtR X "int.bit_length" rBits := by
  intro pins s σ H x vs v us Q I rx r h
  obtain ⟨i, rfl, rfl, q⟩ := h
  obtain ⟨t, rfl⟩ := rx
  cases r
  exact call_gives F.slot_int_bit_length (typeIs_int s i t) F.entry_int_bit_length (F.args_int_bit_length_1 _) (AutoIntG2.int_bit_length_int_0 i t) ⟨.int _, H, I.tok _, ⟨_, rfl⟩, q⟩
def rFind : V → List V → Hp → VK → Prop := fun x vs H Q => ∃ (z y : Str), x = .str z ∧ vs = [.str y] ∧ Q (.int (Txt.find z y)) H
theorem mt_find : MtR X "str.find" rFind := by
  intro pins s σ H x vs v us Q I rx r h
  obtain ⟨z, y, rfl, rfl, q⟩ := h
  obtain ⟨t, rfl⟩ := rx
  obtain ⟨u, rfl, ru⟩ := vals1 r
  obtain ⟨t', rfl⟩ := ru
  exact call_gives F.slot_str_find (typeIs_str s z t) F.entry_str_find (F.args_str_find_2 _ _) (gives_str_find z y t t') ⟨.int _, H, I.tok _, ⟨_, rfl⟩, q⟩
theorem Inv.size_big {pins : List (Addr × Obj)} {σ : St} {H : Hp} {s : Shared} (I : Inv X pins σ H s) : sysModules < s.heap.objs.size := by
  have h : mainGlobals < s.heap.objs.size := (I.mod.glob.keeps I.bk).lt
  exact Nat.lt_trans (by decide) h
theorem dk_none {P : Program} {w : World} {H : Hp} (h : Heap) (hb : sysModules < h.objs.size) : ObjOk P w H (h.push { cls := .type "dict", data := .dict #[] }) h.objs.size (.dK []) :=
  ⟨Nat.zero_le _, beq_eq_false_iff_ne.mpr (Ne.symm (Nat.ne_of_lt hb)), [], .nil, Heap.DictOf.new h⟩
def tDict0 : TE := fun _ H Q => ∀ p, H p = none → Q (.ref p) (upd H p (.dK []))
theorem pe_dict0 : PE X (.Dict [] [] pos) tDict0 := fun pins s σ H Q I h =>
  wpAny_Dict_empty ⟨.ref s.heap.objs.size, _, I.laid (a := s.heap.objs.size) (o := .dK []) (t' := s.toks) (fun _ _ q => Heap.get?_push_of_some _ q) (Nat.le_refl _) (dk_none s.heap I.size_big), rfl, h _ (I.hok.fresh (Nat.le_refl _))⟩
end
/-- a tuple of texts of the module's top -/
def Gx.ConT (g : Gx) (x : Str) (xs : List V) : Prop := ∃ c, g.mg x = some (.ref c) ∧ ∀ H, SqT g.K H c xs
theorem conT_mk {K : PySem.W.Frag} {h : Heap} {mg : Str → Option Value} {x : Str} {i : Addr} {dc : Option Addr} {its : Array Value} {n : Nat} {sl : Array (Option Value)} {xs : List V} (X : K.In h) (G : h.Ns mainGlobals mg)
    (a : PySem.W.nsIn K mainGlobals x = some (some (.ref i))) (l : K.lookup i = some ⟨.type "tuple", dc, .seq its n, sl⟩) (hz : its.size ≤ sizeLine) (r : Vals xs its.toList) : ∀ P w base, (Gx.mk P w K mg base).ConT x xs :=
  fun P w base => ⟨i, PySem.W.mg_of X G a, fun H => .inr ⟨_, its, n, l, rfl, rfl, hz, r⟩⟩
section
variable {X : Cx} {g : Gx} {x : Str} {pos : Pos}
def tConT (K : PySem.W.Frag) (xs : List V) : TE := fun _ H Q => ∀ c, SqT K H c xs → Q (.ref c) H
theorem pe_gt {xs : List V} (F : g.ConT x xs) (hX : X.gx = g := by rfl) (hg : Gl X x := by rfl) (hd : (x == ("__debug__" : Str)) = false := by decide) : PE X (.Name x pos) (tConT g.K xs) := by
  subst hX
  obtain ⟨c, e, hc⟩ := F
  exact fun pins s σ H Q I h => pe_glob hg e (show RelV (.ref c) (.ref c) from rfl) hd pins s σ H Q I (h c (hc H))
end
end L2
namespace L2
open PySem PySem.Spec PyProof.Rows
theorem iteN {c A B : Prop} [Decidable c] (h : ¬ c) (hb : B) : if c then A else B := by rw [if_neg h]; exact hb
theorem iteY {c A B : Prop} [Decidable c] (h : c) (ha : A) : if c then A else B := by rw [if_pos h]; exact ha
section
variable {src : List (Option Nat)} {te : TE} {σ : St} {H : Hp} {Q : VK}
theorem tLC_str {tl : TE} {l : List Nat} (ys : List V) (ha : ∀ R : V → Hp → Prop, R (.str (S l)) H → tl σ H R) (hl : ys.length = l.length) (hlen : l.length ≤ 100000)
    (step : ∀ (i c : Nat) y H', l[i]? = some c → ys[i]? = some y → Same H H' → ∀ R : VK, (∀ H'', Same H' H'' → R y H'') → te (some (.str (S [c])) :: capSt src σ) H' R)
    (fin : ∀ D H', H D = none → Same H H' → H' D = some (.lst ys) → Q (.ref D) H') : tLC (none :: src) (iStr tl) (gName 0) tYes te σ H Q :=
  ha _ ⟨S l, rfl, fun D hD => lc_map (itseq_str (S l) (fun _ => True)) ys (fun _ _ => trivial) hD (by rw [S_list]; simpa using hl) (by rw [S_list]; simpa using hlen) (fun i x y H' hx hy sm R r => by
    rw [S_list, List.getElem?_map] at hx
    cases e : l[i]? with
    | none => rw [e] at hx; cases hx
    | some c =>
      rw [e] at hx
      have : V.str ⟨#[c]⟩ = x := Option.some.inj hx
      subst this
      exact step i c y H' e hy sm R r) fun H' => fin D H' hD⟩
end
section
variable {X : Cx} {K : PySem.W.Frag} {o e : Expr} {es : List Expr} {to : TE} {t : TA} {name : Str} {apos cpos : Pos} {T id : String} {r : V → List V → Hp → VK → Prop}
theorem pe_bmK (pa : PlainAttrs T) (slot : Slot T name id) (hty : typeOf (.builtin id) = pure (.type "method_descriptor")) (hm : MtR X id r) (ho : PE X o to) (ha : PA X (e :: es) t)
    (hbase : attributeBase o name X.env (eval o X.env) = eval o X.env := by rfl)
    (hfew : ((backTo cpos (starEach (e :: es) X.env)).all (fun x => !x.1) && (backToKw cpos (keywordEach [] X.env)).all (fun x => x.1.isSome)
      && decide ((e :: es).length + ([] : List Keyword).length + (if ([] : List Keyword).isEmpty then 0 else 1) < 30)) = true := by rfl)
    (hline : (apos.endLine == cpos.line) = true := by rfl) (hs : starEach (e :: es) X.env = (false, eval e X.env) :: starEach es X.env := by rfl) (hplain : (backTo cpos (starEach es X.env)).any (·.1) = false := by rfl) (hK : X.K = K := by rfl) :
    PE X (.Call (.Attribute o name apos) (e :: es) [] cpos) (tBM K T r to t) := by
  subst hK
  exact pe_bm pa slot hty hm ho ha hbase hfew hline hs hplain
end
section
variable {X : Cx}
def CMulC (i j : Int) : Prop := CMulB i j ∨ CMul i j
theorem op_mulC : OpR X (binaryOp .Mult) (rI CMulC fun i j => .int (i * j)) := opI fun _ _ _ _ _ _ _ hc q => mul_int q (hc.elim (fun h => h.ok) fun h => h.ok)
end
theorem in_sign (l : List Nat) (c : Nat) : (!(Builtin.Str.occurrences (S l) (S [c]) 0 (S l).length 1).isEmpty) = decide (c ∈ l) := by
  have := PySem.StrLaws.found_one (S l) c
  rw [S_list] at this
  exact this
end L2
namespace L2
open PySem PySem.Spec PyProof.Rows
abbrev IsZipF (h : Heap) (z TI TO : Addr) (f0 : Value) (f1 : Bool) : Prop :=
  h.get? z = some { cls := .type "zip", dict := none, data := .fields #[f0, .bool f1, .bool false, .ref TI, .ref TO], slots := #[] }
section
variable {prog : Program} {w : World} {A : Around} {E : Value → Shared → Prop} {s : Shared} {z TI TO i1 i2 T : Addr} {S1 S2 : Nat → Heap → Prop} {R1 R2 : Heap → (Nat → Option Value) → Prop} {g1 g2 : Nat → Option Value} {k : Nat} {a b : Value} {f : Bool} {oT : Obj}
/-- a zip whose first pair is kept by somebody: each next one is a new pair -/
theorem zip_item_out {x y : Value} {Q : Option Value → Shared → Prop} (D : ZApart z TI TO i1 i2) (U1 : Sub prog w i1 S1 R1) (U2 : Sub prog w i2 S2 R2)
    (k1 : ∀ h h' g, R1 h g → (∀ c o, c ≠ z → c ≠ TO → c ≠ i1 → c ≠ i2 → h.get? c = some o → h'.get? c = some o) → R1 h' g) (k2 : ∀ h h' g, R2 h g → (∀ c o, c ≠ z → c ≠ TO → c ≠ i1 → c ≠ i2 → h.get? c = some o → h'.get? c = some o) → R2 h' g)
    (hz : IsZipF s.heap z TI TO (rawInt T) f) (hTI : IsPair s.heap TI (.ref i1) (.ref i2)) (hT : s.heap.get? T = some oT) (h1 : S1 k s.heap) (h2 : S2 k s.heap) (r1 : R1 s.heap g1) (r2 : R2 s.heap g2) (hx : g1 k = some x) (hy : g2 k = some y)
    (hQ : ∀ h' tk, IsZipF h' z TI TO (rawInt T) true → S1 (k + 1) h' → S2 (k + 1) h' → IsPair h' s.heap.objs.size x y → h'.objs.size = s.heap.objs.size + 1 →
      (∀ c o, c ≠ z → c ≠ i1 → c ≠ i2 → s.heap.get? c = some o → h'.get? c = some o) → Q (some (.ref s.heap.objs.size)) { s with heap := h', toks := tk }) :
    wpAny (model prog w) A (pyNext (.ref z)) Q E s := by
  have hTy : s.TypeIs (.ref z) "zip" := ⟨_, hz, rfl⟩
  unfold pyNext
  refine wpAny_bind (wpAny_attempt (wpAny_callSpecial?_slot (name := Str.ofString "__next__") hTy F.slot_zip_next (wpAny_call_entry F.slot_zip_next hTy F.entry_zip_next ?_ (F.args_zip_next_1 _))))
  show wpAny _ _ (field (.ref z) 2 >>= _) _ _ _
  refine wpAny_bind (wpAny_field hz rfl (x := .bool false) rfl ?_)
  show wpAny _ _ (field (.ref z) 3 >>= _) _ _ _
  refine wpAny_bind (wpAny_field hz rfl (x := .ref TI) rfl ?_)
  refine wpAny_bind (wpAny_seqItems hTI rfl ?_)
  show wpAny _ _ (Builtin.SmallTypes.ownedTupleIsFree (.ref z) >>= _) _ _ _
  refine wpAny_bind ?_
  unfold Builtin.SmallTypes.ownedTupleIsFree
  refine wpAny_bind (wpAny_field hz rfl (x := rawInt T) rfl ?_)
  show wpAny _ _ (loadIfAlive ((T : Int).toNat) >>= _) _ _ _
  rw [Int.toNat_natCast]
  refine wpAny_bind (PySem.W.kdx_alive hT ?_)
  simp only [Option.isNone_some, Bool.false_eq_true, if_false]
  refine wpAny_bind (wpAny_field hz rfl (x := .bool f) rfl ?_)
  have step : ∀ (P : Bool → Shared → Prop) (E' : Value → Shared → Prop), (∀ h₀ : Heap, IsZipF h₀ z TI TO (rawInt T) true → Heap.SameBut z s.heap h₀ → P false { s with heap := h₀ }) →
      wpAny (model prog w) A.in1 (if (Value.bool f != Value.bool true) = true then do setField (Value.ref z) 1 (Value.bool true); pure false else pure false) P E' s := by
    intro P E' h
    cases f with
    | true =>
      rw [if_neg (show ¬ ((Value.bool true != Value.bool true) = true) from Bool.false_ne_true)]
      exact wpAny_pure (h s.heap hz (Heap.SameBut.refl _ _))
    | false =>
      rw [if_pos (show (Value.bool false != Value.bool true) = true from rfl)]
      exact wpAny_bind (wpAny_setField_rec hz (by simp) fun h₃ he₃ hs₃ => wpAny_pure (h h₃ he₃ hs₃))
  refine step _ _ fun h₀ hz₀ hs₀ => ?_
  simp only [Bool.false_eq_true, if_false]
  have S1₀ : S1 k h₀ := U1.keep _ _ _ h1 fun o e => hs₀.extBut _ _ D.c e
  have R1₀ : R1 h₀ g1 := k1 _ _ _ r1 fun c o c1 _ _ _ e => hs₀.extBut _ _ c1 e
  rw [← Array.forIn_toList]
  simp only [List.forIn_cons, List.forIn_nil]
  refine wpAny_bind (wpAny_bind (wpAny_bind (wpAny_holding ?_)))
  show wpAny _ _ (Builtin.SmallTypes.nextOf (.ref i1) >>= _) _ _ _
  refine wpAny_bind (U1.item _ k { s with heap := h₀ } g1 x _ _ S1₀ R1₀ hx fun h₂ tk₂ S1₂ hs₂ => wpAny_pure ?_)
  have kk₂ : ∀ c o, c ≠ z → c ≠ i1 → s.heap.get? c = some o → h₂.get? c = some o := fun c o c1 c3 e => hs₂.extBut _ _ c3 (hs₀.extBut _ _ c1 e)
  refine wpAny_pure ?_
  dsimp only
  have S2₂ : S2 k h₂ := U2.keep _ _ _ h2 fun o e => hs₂.extBut _ _ D.j.symm (hs₀.extBut _ _ D.d e)
  refine wpAny_bind (wpAny_bind (wpAny_holding ?_))
  show wpAny _ _ (Builtin.SmallTypes.nextOf (.ref i2) >>= _) _ _ _
  refine wpAny_bind (U2.item _ k { s with heap := h₂, toks := tk₂ } g2 y _ _ S2₂ (k2 _ _ _ r2 fun c o c1 c2 c3 c4 e => kk₂ c o c1 c3 e) hy fun h₄ tk₄ S2₄ hs₄ => wpAny_pure ?_)
  refine wpAny_pure (wpAny_pure ?_)
  dsimp only
  refine wpAny_bind (wpAny_newTuple ?_ (show (2 : Nat) ≤ sizeLine by decide))
  have hsz : h₄.objs.size = s.heap.objs.size := by rw [hs₄.1, hs₂.1, hs₀.1]
  have hz₄ : IsZipF h₄ z TI TO (rawInt T) true := hs₄.extBut _ _ D.d.symm (hs₂.extBut _ _ D.c.symm hz₀)
  refine wpAny_pure ⟨_, rfl, wpAny_pure ?_⟩
  show Q (some (.ref h₄.objs.size)) _
  have hlast := hQ (h₄.push { cls := .type "tuple", data := .seq #[x, y] }) tk₄ (Heap.get?_push_of_some _ hz₄) (U1.keep _ _ _ S1₂ fun o e => Heap.get?_push_of_some _ (hs₄.extBut _ _ D.j e)) (U2.keep _ _ _ S2₄ fun o e => Heap.get?_push_of_some _ e)
    (by rw [← hsz]; exact Heap.get?_push_size _ rfl) (by rw [Heap.size_push, hsz]) fun c o c1 c3 c4 e => Heap.get?_push_of_some _ (hs₄.extBut _ _ c4 (kk₂ c o c1 c3 e))
  rw [hsz]
  exact hlast
theorem zip_end_out {Q : Option Value → Shared → Prop} (hh : A.handled = none) (D : ZApart z TI TO i1 i2) (U1 : Sub prog w i1 S1 R1) (U2 : Sub prog w i2 S2 R2)
    (k1 : ∀ h h' g, R1 h g → (∀ c o, c ≠ z → c ≠ TO → c ≠ i1 → c ≠ i2 → h.get? c = some o → h'.get? c = some o) → R1 h' g)
    (hz : IsZipF s.heap z TI TO (rawInt T) f) (hTI : IsPair s.heap TI (.ref i1) (.ref i2)) (hT : s.heap.get? T = some oT) (h1 : S1 k s.heap) (r1 : R1 s.heap g1) (hend : g1 k = none)
    (hQ : ∀ h' tk, (∀ c o, c ≠ z → c ≠ i1 → c ≠ i2 → s.heap.get? c = some o → h'.get? c = some o) → Q none { s with heap := h', toks := tk }) : wpAny (model prog w) A (pyNext (.ref z)) Q E s := by
  have hTy : s.TypeIs (.ref z) "zip" := ⟨_, hz, rfl⟩
  unfold pyNext
  refine wpAny_bind (wpAny_attempt (wpAny_callSpecial?_slot (name := Str.ofString "__next__") hTy F.slot_zip_next (wpAny_call_entry F.slot_zip_next hTy F.entry_zip_next ?_ (F.args_zip_next_1 _))))
  show wpAny _ _ (field (.ref z) 2 >>= _) _ _ _
  refine wpAny_bind (wpAny_field hz rfl (x := .bool false) rfl ?_)
  show wpAny _ _ (field (.ref z) 3 >>= _) _ _ _
  refine wpAny_bind (wpAny_field hz rfl (x := .ref TI) rfl ?_)
  refine wpAny_bind (wpAny_seqItems hTI rfl ?_)
  show wpAny _ _ (Builtin.SmallTypes.ownedTupleIsFree (.ref z) >>= _) _ _ _
  refine wpAny_bind ?_
  unfold Builtin.SmallTypes.ownedTupleIsFree
  refine wpAny_bind (wpAny_field hz rfl (x := rawInt T) rfl ?_)
  show wpAny _ _ (loadIfAlive ((T : Int).toNat) >>= _) _ _ _
  rw [Int.toNat_natCast]
  refine wpAny_bind (PySem.W.kdx_alive hT ?_)
  simp only [Option.isNone_some, Bool.false_eq_true, if_false]
  refine wpAny_bind (wpAny_field hz rfl (x := .bool f) rfl ?_)
  have step : ∀ (P : Bool → Shared → Prop) (E' : Value → Shared → Prop), (∀ h₀ : Heap, IsZipF h₀ z TI TO (rawInt T) true → Heap.SameBut z s.heap h₀ → P false { s with heap := h₀ }) →
      wpAny (model prog w) A.in1 (if (Value.bool f != Value.bool true) = true then do setField (Value.ref z) 1 (Value.bool true); pure false else pure false) P E' s := by
    intro P E' h
    cases f with
    | true =>
      rw [if_neg (show ¬ ((Value.bool true != Value.bool true) = true) from Bool.false_ne_true)]
      exact wpAny_pure (h s.heap hz (Heap.SameBut.refl _ _))
    | false =>
      rw [if_pos (show (Value.bool false != Value.bool true) = true from rfl)]
      exact wpAny_bind (wpAny_setField_rec hz (by simp) fun h₃ he₃ hs₃ => wpAny_pure (h h₃ he₃ hs₃))
  refine step _ _ fun h₀ hz₀ hs₀ => ?_
  simp only [Bool.false_eq_true, if_false]
  have S1₀ : S1 k h₀ := U1.keep _ _ _ h1 fun o e => hs₀.extBut _ _ D.c e
  have R1₀ : R1 h₀ g1 := k1 _ _ _ r1 fun c o c1 _ _ _ e => hs₀.extBut _ _ c1 e
  rw [← Array.forIn_toList]
  simp only [List.forIn_cons, List.forIn_nil]
  refine wpAny_bind (wpAny_bind (wpAny_bind (wpAny_holding ?_)))
  show wpAny _ _ (Builtin.SmallTypes.nextOf (.ref i1) >>= _) _ _ _
  refine wpAny_bind (U1.fin _ k { s with heap := h₀ } g1 _ _ hh S1₀ R1₀ hend fun h₂ e hs₂ he => ?_)
  obtain ⟨oe, hoe, hce⟩ := he
  refine wpAny_bind (wpAny_isInstance (T := "StopIteration") (b := true) ⟨oe, hoe, hce⟩ isSubtype_stop ?_)
  exact wpAny_pure (hQ h₂ s.toks fun c o c1 c3 c4 x => hs₂ _ _ c3 (hs₀.extBut _ _ c1 x))
end
/-! list(zip(a, b)) of two tuples of one length -/
section
variable {prog : Program} {w : World} {A : Around} {s : Shared} {R : Result → Shared → Prop} {z TI TO i1 i2 S p1 p2 : Addr} {xs ys : List Value}
/-- the zip as it stands at turn i -/
def ZSt (h : Heap) (z TI TO i1 i2 p1 p2 : Addr) (i : Nat) (as : List Addr) : Prop :=
  IsPair h TI (.ref i1) (.ref i2) ∧ h.IsTupleIter i1 p1 i ∧ h.IsTupleIter i2 p2 i ∧ ((i = 0 ∧ IsZip h z TI TO .none ∧ ∃ a b, IsPair h TO a b) ∨ ∃ T f, T ∈ as ∧ IsZipF h z TI TO (rawInt T) f)
theorem zip_loop (hh : A.handled = none) (D : ZApart z TI TO i1 i2) (lo : Nat) (hlo : z < lo ∧ TI < lo ∧ TO < lo ∧ i1 < lo ∧ i2 < lo ∧ S < lo ∧ p1 < lo ∧ p2 < lo) (nS : S ∉ [z, TI, TO, i1, i2, p1, p2]) (n1 : p1 ∉ [z, TO, i1, i2]) (n2 : p2 ∉ [z, TO, i1, i2]) (hl : xs.length = ys.length) (hn : xs.length ≤ sizeLine) (res : Value) {h₁ : Heap}
    (hR : ∀ (h' : Heap) (tk : Nat) (acc : Array Value) (c : Nat) (as : List Addr), (∀ b o, b ∉ [S, z, TO, i1, i2] → h₁.get? b = some o → h'.get? b = some o) → h'.get? S = some { cls := .type "list", dict := none, data := .seq acc c, slots := #[] } → as.length = xs.length → acc.toList = as.map Value.ref →
      as.Pairwise (· < ·) → (∀ a ∈ as, lo ≤ a) → (∀ (j : Nat) a x y, as[j]? = some a → xs[j]? = some x → ys[j]? = some y → IsPair h' a x y) → R (.ok (.ret res)) { s with heap := h', toks := tk }) :
    ∀ (k i : Nat) (h : Heap) (tk c : Nat) (acc : Array Value) (as : List Addr), xs.length - i = k → i ≤ xs.length → ZSt h z TI TO i1 i2 p1 p2 i as → h.IsTuple p1 xs.toArray → h.IsTuple p2 ys.toArray → (∀ b o, b ∉ [S, z, TO, i1, i2] → h₁.get? b = some o → h.get? b = some o) →
      h.get? S = some { cls := .type "list", dict := none, data := .seq acc c, slots := #[] } → acc.toList = as.map Value.ref → as.length = i → as.Pairwise (· < ·) → (∀ a ∈ as, lo ≤ a ∧ a < h.objs.size) → (∀ (j : Nat) a x y, as[j]? = some a → xs[j]? = some x → ys[j]? = some y → IsPair h a x y) → lo ≤ h.objs.size →
      codeAny (model prog w) A (.builtin "list.extend.loop" ⟨[.ref S, .ref z, res], []⟩) R { s with heap := h, toks := tk } := by
  intro k
  have nz : S ≠ z := fun e => nS (by simp [e])
  have nTI : S ≠ TI := fun e => nS (by simp [e])
  have nTO : S ≠ TO := fun e => nS (by simp [e])
  have ni1 : S ≠ i1 := fun e => nS (by simp [e])
  have ni2 : S ≠ i2 := fun e => nS (by simp [e])
  have np1 : S ≠ p1 := fun e => nS (by simp [e])
  have np2 : S ≠ p2 := fun e => nS (by simp [e])
  have q1 : p1 ≠ z ∧ p1 ≠ TO ∧ p1 ≠ i1 ∧ p1 ≠ i2 := ⟨fun e => n1 (by simp [e]), fun e => n1 (by simp [e]), fun e => n1 (by simp [e]), fun e => n1 (by simp [e])⟩
  have q2 : p2 ≠ z ∧ p2 ≠ TO ∧ p2 ≠ i1 ∧ p2 ≠ i2 := ⟨fun e => n2 (by simp [e]), fun e => n2 (by simp [e]), fun e => n2 (by simp [e]), fun e => n2 (by simp [e])⟩
  have big : ∀ {a : Addr}, lo ≤ a → a ≠ z ∧ a ≠ TO ∧ a ≠ i1 ∧ a ≠ i2 ∧ a ≠ S := fun {a} ha => by
    obtain ⟨l1, l2, l3, l4, l5, l6, _⟩ := hlo
    refine ⟨?_, ?_, ?_, ?_, ?_⟩ <;> (intro e; subst e; exact absurd ha (Nat.not_le.mpr (by assumption)))
  have rdy1 : ∀ h : Heap, h.IsTuple p1 xs.toArray → ∃ items : Array Value, h.IsTuple p1 items ∧ ∀ k : Nat, (fun k : Nat => xs[k]?) k = items[k]? := fun h e => ⟨_, e, fun (k : Nat) => by simp⟩
  have rdy2 : ∀ h : Heap, h.IsTuple p2 ys.toArray → ∃ items : Array Value, h.IsTuple p2 items ∧ ∀ k : Nat, (fun k : Nat => ys[k]?) k = items[k]? := fun h e => ⟨_, e, fun (k : Nat) => by simp⟩
  have kp1 : ∀ (h h' : Heap) (g : Nat → Option Value), (∃ items : Array Value, h.IsTuple p1 items ∧ ∀ k, g k = items[k]?) → (∀ c o, c ≠ z → c ≠ TO → c ≠ i1 → c ≠ i2 → h.get? c = some o → h'.get? c = some o) → ∃ items : Array Value, h'.IsTuple p1 items ∧ ∀ k, g k = items[k]? :=
    fun h h' g ⟨items, ⟨o, e, r⟩, q⟩ k => ⟨items, ⟨o, k _ o q1.1 q1.2.1 q1.2.2.1 q1.2.2.2 e, r⟩, q⟩
  have kp2 : ∀ (h h' : Heap) (g : Nat → Option Value), (∃ items : Array Value, h.IsTuple p2 items ∧ ∀ k, g k = items[k]?) → (∀ c o, c ≠ z → c ≠ TO → c ≠ i1 → c ≠ i2 → h.get? c = some o → h'.get? c = some o) → ∃ items : Array Value, h'.IsTuple p2 items ∧ ∀ k, g k = items[k]? :=
    fun h h' g ⟨items, ⟨o, e, r⟩, q⟩ k => ⟨items, ⟨o, k _ o q2.1 q2.2.1 q2.2.2.1 q2.2.2.2 e, r⟩, q⟩
  induction k with
  | zero =>
    intro i h tk c acc as hk hi hst ht1 ht2 hkeep hS hacc hal hpw hab hpr hlo'
    have hin : i = xs.length := by omega
    refine codeAny_builtin PySem.F.entry_extend_loop ?_
    rw [Around.under_plainId PySem.F.plain_extend_loop _]
    show wpAny _ A.in1 (pyNext (.ref z) >>= _) _ _ _
    obtain ⟨hTI, hi1, hi2, hzs⟩ := hst
    have fin : ∀ h' tk', (∀ b o, b ≠ z → b ≠ TO → b ≠ i1 → b ≠ i2 → h.get? b = some o → h'.get? b = some o) → R (.ok (.ret res)) { s with heap := h', toks := tk' } := fun h' tk' kp => by
      refine hR h' tk' acc c as (fun b o hb e => ?_) (kp S _ nz nTO ni1 ni2 hS) (by omega) hacc hpw (fun a ha => (hab a ha).1) (fun j a x y h1 h2 h3 => ?_)
      · simp only [List.mem_cons, List.not_mem_nil, or_false, not_or] at hb
        exact kp b o hb.2.1 hb.2.2.1 hb.2.2.2.1 hb.2.2.2.2 (hkeep b o (by simp [hb]) e)
      · have hb := big (hab a (List.mem_of_getElem? h1)).1
        exact kp a _ hb.1 hb.2.1 hb.2.2.1 hb.2.2.2.1 (hpr j a x y h1 h2 h3)
    rcases hzs with ⟨e0, hz, a, b, hTO⟩ | ⟨T, f, hT, hz⟩
    · refine wpAny_bind (zip_end (s := { s with heap := h, toks := tk }) (A := A.in1) (k := i) hh D (sub_tuple i1 p1) (sub_tuple i2 p2) kp1 kp2 hz hTI hTO hi1 hi2 (rdy1 h ht1) (rdy2 h ht2) (.inl (List.getElem?_eq_none (by omega))) fun h' tk' kp => wpAny_pure (fin h' tk' kp))
    · obtain ⟨j, hj⟩ := List.mem_iff_getElem?.mp hT
      have hjl := (List.getElem?_eq_some_iff.mp hj).1
      have := hpr j T _ _ hj (List.getElem?_eq_getElem (show j < xs.length by omega)) (List.getElem?_eq_getElem (show j < ys.length by omega))
      refine wpAny_bind (zip_end_out (s := { s with heap := h, toks := tk }) (A := A.in1) (k := i) hh D (sub_tuple i1 p1) (sub_tuple i2 p2) kp1 hz hTI this hi1 (rdy1 h ht1) (List.getElem?_eq_none (by omega)) fun h' tk' kp => wpAny_pure (fin h' tk' fun b o b1 _ b3 b4 e => kp b o b1 b3 b4 e))
  | succ k ih =>
    intro i h tk c acc as hk hi hst ht1 ht2 hkeep hS hacc hal hpw hab hpr hlo'
    have hlt : i < xs.length := by omega
    have hlt2 : i < ys.length := by omega
    have hx : xs[i]? = some xs[i] := List.getElem?_eq_getElem hlt
    have hy : ys[i]? = some ys[i] := List.getElem?_eq_getElem hlt2
    have hsz : acc.size = i := by rw [← Array.length_toList, hacc, List.length_map, hal]
    refine codeAny_builtin PySem.F.entry_extend_loop ?_
    rw [Around.under_plainId PySem.F.plain_extend_loop _]
    show wpAny _ A.in1 (pyNext (.ref z) >>= _) _ _ _
    obtain ⟨hTI, hi1, hi2, hzs⟩ := hst
    have step : ∀ (Q : Option Value → Shared → Prop) (E : Value → Shared → Prop), (∀ (h' : Heap) (tk' : Nat) (T : Addr) (f : Bool), T ∈ as ++ [h.objs.size] → IsZipF h' z TI TO (rawInt T) f → h'.IsTupleIter i1 p1 (i + 1) → h'.IsTupleIter i2 p2 (i + 1) → IsPair h' h.objs.size xs[i] ys[i] → h'.objs.size = h.objs.size + 1 →
        (∀ c o, c ≠ z → c ≠ TO → c ≠ i1 → c ≠ i2 → h.get? c = some o → h'.get? c = some o) → Q (some (.ref h.objs.size)) { s with heap := h', toks := tk' }) → wpAny (model prog w) A.in1 (pyNext (.ref z)) Q E { s with heap := h, toks := tk } := by
      intro Q E hq
      rcases hzs with ⟨e0, hz, a, b, hTO⟩ | ⟨T, f, hT, hz⟩
      · exact zip_item (s := { s with heap := h, toks := tk }) (A := A.in1) (k := i) D (sub_tuple i1 p1) (sub_tuple i2 p2) kp1 kp2 hz hTI hTO hi1 hi2 (rdy1 h ht1) (rdy2 h ht2) hx hy fun h' tk' hz' _ s1 s2 hp hs kp => hq h' tk' h.objs.size _ (by simp) hz' s1 s2 hp hs kp
      · obtain ⟨j, hj⟩ := List.mem_iff_getElem?.mp hT
        have hjl := (List.getElem?_eq_some_iff.mp hj).1
        have := hpr j T _ _ hj (List.getElem?_eq_getElem (show j < xs.length by omega)) (List.getElem?_eq_getElem (show j < ys.length by omega))
        exact zip_item_out (s := { s with heap := h, toks := tk }) (A := A.in1) (k := i) D (sub_tuple i1 p1) (sub_tuple i2 p2) kp1 kp2 hz hTI this hi1 hi2 (rdy1 h ht1) (rdy2 h ht2) hx hy fun h' tk' hz' s1 s2 hp hs kp => hq h' tk' T _ (by simp [hT]) hz' s1 s2 hp hs fun c o c1 _ c3 c4 e => kp c o c1 c3 c4 e
    refine wpAny_bind (step _ _ fun h' tk' T f hT hz' s1 s2 hp hs hkp => ?_)
    have hS' := hkp S _ nz nTO ni1 ni2 hS
    have up : ∀ b o, b ≠ S → h'.get? b = some o → (h'.update S (Obj.mapSeq (·.push (Value.ref h.objs.size)))).get? b = some o := fun b o hb e => (Heap.get?_update_other _ _ (Ne.symm hb)).trans e
    have hSl : S < h.objs.size := Heap.lt_size hS
    have np : h.objs.size ≠ S := Nat.ne_of_gt hSl
    show wpAny _ A.in1 (updateSeq S (·.push (Value.ref h.objs.size)) >>= _) _ _ _
    refine wpAny_bind ?_
    refine wpAny_updateSeq hS' rfl (wpAny_pure ⟨plainId_quiet PySem.F.plain_extend_loop _, ih (i + 1) _ tk' _ (acc.push (Value.ref h.objs.size)) (as ++ [h.objs.size]) (by omega) hlt ⟨?_, ?_, ?_, .inr ⟨T, f, hT, up _ _ nz.symm hz'⟩⟩ ?_ ?_
      (fun b o hb e => ?_) (Heap.get?_update_self _ hS' rfl) (by rw [Array.toList_push, hacc, List.map_append]; rfl) (by rw [List.length_append, hal]; rfl) ?_ ?_ ?_ ?_⟩) (by rw [hsz]; omega) (by show (acc.push (Value.ref h.objs.size)).size ≤ sizeLine + 1; rw [Array.size_push, hsz]; omega)
    · exact up _ _ nTI.symm (hkp TI _ D.a D.e D.f D.g hTI)
    · obtain ⟨o, e, r⟩ := s1
      exact ⟨o, up _ _ ni1.symm e, r⟩
    · obtain ⟨o, e, r⟩ := s2
      exact ⟨o, up _ _ ni2.symm e, r⟩
    · obtain ⟨o, e, r⟩ := ht1
      exact ⟨o, up _ _ np1.symm (hkp _ _ q1.1 q1.2.1 q1.2.2.1 q1.2.2.2 e), r⟩
    · obtain ⟨o, e, r⟩ := ht2
      exact ⟨o, up _ _ np2.symm (hkp _ _ q2.1 q2.2.1 q2.2.2.1 q2.2.2.2 e), r⟩
    · have hb' := hb
      simp only [List.mem_cons, List.not_mem_nil, or_false, not_or] at hb'
      exact up b o hb'.1 (hkp b o hb'.2.1 hb'.2.2.1 hb'.2.2.2.1 hb'.2.2.2.2 (hkeep b o hb e))
    · refine List.pairwise_append.mpr ⟨hpw, List.pairwise_singleton _ _, fun a ha b hb => ?_⟩
      rw [List.mem_singleton.mp hb]
      exact (hab a ha).2
    · have hsz' : (h'.update S (Obj.mapSeq (·.push (Value.ref h.objs.size)))).objs.size = h.objs.size + 1 := by rw [← hs]; exact Heap.size_update _ _ _
      intro a ha
      rw [hsz']
      rcases List.mem_append.mp ha with ha | ha
      · exact ⟨(hab a ha).1, Nat.lt_succ_of_lt (hab a ha).2⟩
      · rw [List.mem_singleton.mp ha]; exact ⟨hlo', Nat.lt_succ_self _⟩
    · intro j b x y hj ex ey
      rcases Nat.lt_trichotomy j as.length with h1 | h1 | h1
      · rw [List.getElem?_append_left h1] at hj
        have hb := big (hab b (List.mem_of_getElem? hj)).1
        exact up b _ hb.2.2.2.2 (hkp b _ hb.1 hb.2.1 hb.2.2.1 hb.2.2.2.1 (hpr j b x y hj ex ey))
      · subst h1
        have hb : h.objs.size = b := by simpa using hj
        subst hb
        rw [hal] at ex ey
        rw [hx] at ex
        rw [hy] at ey
        cases ex
        cases ey
        exact up _ _ np hp
      · have hnone : (as ++ [h.objs.size])[j]? = none := List.getElem?_eq_none (by rw [List.length_append, List.length_singleton]; omega)
        rw [hnone] at hj; cases hj
    · have hsz' : (h'.update S (Obj.mapSeq (·.push (Value.ref h.objs.size)))).objs.size = h.objs.size + 1 := by rw [← hs]; exact Heap.size_update _ _ _
      rw [hsz']; exact Nat.le_succ_of_le hlo'
end
end L2
namespace L2
open PySem PySem.Calls PySem.Spec PyProof.Rows PyProof.V
theorem zip_no_len : typeLookup (.type "zip") "__len__" = pure none := by rw [typeLookup_type, builtinLookup_eq_fast]; kernel_rfl
theorem zip_no_hint : typeLookup (.type "zip") "__length_hint__" = pure none := by rw [typeLookup_type, builtinLookup_eq_fast]; kernel_rfl
section
variable {prog : Program} {w : World} {A : Around} {E : Value → Shared → Prop} {s : Shared} {z TI TO i1 i2 p1 p2 : Addr} {xs ys : List Value}
theorem zip_hint (hT : s.TypeIs (.ref z) "zip") {Q : Bool → Shared → Prop} (h : Q true s) : wpAny (model prog w) A (Builtin.List.listLengthHint (.ref z)) Q E s := by
  unfold Builtin.List.listLengthHint
  refine wpAny_bind (wpAny_specialOf hT zip_no_len ?_)
  show wpAny _ _ (specialOf (.ref z) "__length_hint__" >>= _) _ _ _
  refine wpAny_bind (wpAny_specialOf hT zip_no_hint ?_)
  exact wpAny_pure h
/-- what the list has at the end -/
structure ZGot (xs ys : List Value) (lo : Nat) (h : Heap) (as : List Addr) : Prop where
  len : as.length = xs.length
  rise : as.Pairwise (· < ·)
  above : ∀ a ∈ as, lo ≤ a
  pairs : ∀ (j : Nat) a x y, as[j]? = some a → xs[j]? = some x → ys[j]? = some y → IsPair h a x y
theorem zip_extend {R : Result → Shared → Prop} {S : Addr} {oa ob : Value} (hh : A.handled = none) (D : ZApart z TI TO i1 i2) (hlt : z < S ∧ TI < S ∧ TO < S ∧ i1 < S ∧ i2 < S ∧ p1 < S ∧ p2 < S) (n1 : p1 ∉ [z, TO, i1, i2]) (n2 : p2 ∉ [z, TO, i1, i2]) (hl : xs.length = ys.length) (hn : xs.length ≤ sizeLine) (res : Value) (c₀ : Nat)
    (hz : IsZip s.heap z TI TO .none) (hTI : IsPair s.heap TI (.ref i1) (.ref i2)) (hTO : IsPair s.heap TO oa ob) (h1 : s.heap.IsTupleIter i1 p1 0) (h2 : s.heap.IsTupleIter i2 p2 0) (t1 : s.heap.IsTuple p1 xs.toArray) (t2 : s.heap.IsTuple p2 ys.toArray) (hS : s.heap.get? S = some { cls := .type "list", data := .seq #[] c₀ })
    (hR : ∀ (h' : Heap) (tk : Nat) (acc : Array Value) (c : Nat) (as : List Addr), (∀ b o, b ∉ [S, z, TO, i1, i2] → s.heap.get? b = some o → h'.get? b = some o) → h'.get? S = some { cls := .type "list", dict := none, data := .seq acc c, slots := #[] } → acc.toList = as.map Value.ref → ZGot xs ys (S + 1) h' as → R (.ok (.ret res)) { s with heap := h', toks := tk }) :
    wpAny (model prog w) A.in1 (Builtin.List.listExtendWith (.ref S) (.ref z) res)
      (fun fin s' => match fin with | .done f => R (.ok f) s' | .again c' => c'.quiet = true ∧ codeAny (model prog w) A c' R s') (fun e s' => R (.error e) s') s := by
  obtain ⟨l1, l2, l3, l4, l5, l6, l7⟩ := hlt
  have nS : S ∉ [z, TI, TO, i1, i2, p1, p2] := by
    intro hm
    simp only [List.mem_cons, List.not_mem_nil, or_false] at hm
    rcases hm with e | e | e | e | e | e | e <;> (subst e; first | exact absurd l1 (Nat.lt_irrefl _) | exact absurd l2 (Nat.lt_irrefl _) | exact absurd l3 (Nat.lt_irrefl _) | exact absurd l4 (Nat.lt_irrefl _) | exact absurd l5 (Nat.lt_irrefl _) | exact absurd l6 (Nat.lt_irrefl _) | exact absurd l7 (Nat.lt_irrefl _))
  have key : ∀ (h : Heap) (c₁ tk : Nat), (∀ b o, b ≠ S → s.heap.get? b = some o → h.get? b = some o) → h.get? S = some { cls := .type "list", data := .seq #[] c₁ } → codeAny (model prog w) A (.builtin "list.extend.loop" ⟨[.ref S, .ref z, res], []⟩) R { s with heap := h, toks := tk } := by
    intro h c₁ tk hk hS₁
    have m : ∀ {b : Addr}, b < S → ∀ o, s.heap.get? b = some o → h.get? b = some o := fun {b} hb o e => hk b o (Nat.ne_of_lt hb) e
    refine zip_loop (s := s) (h₁ := s.heap) hh D (S + 1) ⟨Nat.lt_succ_of_lt l1, Nat.lt_succ_of_lt l2, Nat.lt_succ_of_lt l3, Nat.lt_succ_of_lt l4, Nat.lt_succ_of_lt l5, Nat.lt_succ_self _, Nat.lt_succ_of_lt l6, Nat.lt_succ_of_lt l7⟩ nS n1 n2 hl hn res (fun h' tk' acc c as kp eS ln ac pw ab pr => hR h' tk' acc c as kp eS ac ⟨ln, pw, ab, pr⟩)
      xs.length 0 h tk c₁ #[] [] (Nat.sub_zero _) (Nat.zero_le _) ⟨m l2 _ hTI, ?_, ?_, .inl ⟨rfl, m l1 _ hz, _, _, m l3 _ hTO⟩⟩ ?_ ?_ (fun b o hb e => hk b o (fun q => hb (by simp [q])) e) hS₁ rfl rfl List.Pairwise.nil (fun _ ha => nomatch ha) (fun j a x y hj => by simp at hj) (Heap.lt_size hS₁)
    · obtain ⟨o, e, r⟩ := h1; exact ⟨o, m l4 _ e, r⟩
    · obtain ⟨o, e, r⟩ := h2; exact ⟨o, m l5 _ e, r⟩
    · obtain ⟨o, e, r⟩ := t1; exact ⟨o, m l6 _ e, r⟩
    · obtain ⟨o, e, r⟩ := t2; exact ⟨o, m l7 _ e, r⟩
  have hT : s.TypeIs (.ref z) "zip" := ⟨_, hz, rfl⟩
  unfold Builtin.List.listExtendWith
  refine wpAny_bind (wpAny_typeOf (T := "zip") hT ?_)
  have h1 : Builtin.List.listSameRef (.ref S) (.ref z) = false := by simp [Builtin.List.listSameRef, Nat.ne_of_gt l1]
  have h2 : (Value.type "zip" == Value.type "list") = false := by decide
  have h3 : (Value.type "zip" == Value.type "tuple") = false := by decide
  simp only [h1, h2, h3, Bool.or_false, Bool.false_eq_true, if_false]
  refine wpAny_bind (wpAny_pyIter_zip hz ?_)
  refine wpAny_bind (wpAny_holding (zip_hint hT ?_))
  refine wpAny_ite_split (fun _ => ?_) (fun _ => wpAny_pure ⟨plainId_quiet PySem.F.plain_extend_loop _, key _ c₀ _ (fun b o _ e => e) hS⟩)
  refine wpAny_bind (wpAny_rule ?_)
  refine wpAny_bind ?_
  show wpAny _ _ (updateSeq S (·.push .none) >>= fun _ => updateSeq S (·.pop)) _ _ _
  refine wpAny_bind (wpAny_updateSeq hS rfl ?_)
  have hS₂ := Heap.get?_update_self (Obj.mapSeq (·.push Value.none)) hS rfl
  refine wpAny_updateSeq (hz := by seq_fits) hS₂ rfl ?_
  have hS₃ := Heap.get?_update_self (Obj.mapSeq (·.pop)) hS₂ rfl
  refine wpAny_pure ⟨plainId_quiet PySem.F.plain_extend_loop _, key _ _ _ (fun b o hb e => ?_) hS₃⟩
  exact (Heap.get?_update_other _ _ (Ne.symm hb)).trans ((Heap.get?_update_other _ _ (Ne.symm hb)).trans e)
theorem zip_init {R : Result → Shared → Prop} {S : Addr} {oa ob : Value} (hh : A.handled = none) (D : ZApart z TI TO i1 i2) (hlt : z < S ∧ TI < S ∧ TO < S ∧ i1 < S ∧ i2 < S ∧ p1 < S ∧ p2 < S) (n1 : p1 ∉ [z, TO, i1, i2]) (n2 : p2 ∉ [z, TO, i1, i2]) (hl : xs.length = ys.length) (hn : xs.length ≤ sizeLine)
    (hz : IsZip s.heap z TI TO .none) (hTI : IsPair s.heap TI (.ref i1) (.ref i2)) (hTO : IsPair s.heap TO oa ob) (h1 : s.heap.IsTupleIter i1 p1 0) (h2 : s.heap.IsTupleIter i2 p2 0) (t1 : s.heap.IsTuple p1 xs.toArray) (t2 : s.heap.IsTuple p2 ys.toArray) (hS : s.heap.get? S = some { cls := .type "list", data := .seq #[] })
    (hR : ∀ (h' : Heap) (tk : Nat) (acc : Array Value) (c : Nat) (as : List Addr), (∀ b o, b ∉ [S, z, TO, i1, i2] → s.heap.get? b = some o → h'.get? b = some o) → h'.get? S = some { cls := .type "list", dict := none, data := .seq acc c, slots := #[] } → acc.toList = as.map Value.ref → ZGot xs ys (S + 1) h' as → R (.ok (.ret .none)) { s with heap := h', toks := tk }) :
    wpAny (model prog w) A.in1 (Builtin.«list.__init__» ⟨[.ref S, .ref z], []⟩)
      (fun fin s' => match fin with | .done f => R (.ok f) s' | .again c' => c'.quiet = true ∧ codeAny (model prog w) A c' R s') (fun e s' => R (.error e) s') s := by
  show wpAny _ _ (do let old ← Builtin.List.listItems (.ref S); Builtin.List.listUpdate (.ref S) (fun _ => #[]); letGo old.toList.reverse; Builtin.List.listExtendWith (.ref S) (.ref z) .none) _ _ s
  refine wpAny_bind ?_
  unfold Builtin.List.listItems
  refine wpAny_bind (wpAny_seqItems hS rfl (wpAny_pure ?_))
  show wpAny _ _ (updateSeq S (fun _ => #[]) >>= fun _ => letGo (#[] : Array Value).toList.reverse >>= fun _ => Builtin.List.listExtendWith (.ref S) (.ref z) .none) _ _ s
  refine wpAny_bind (wpAny_updateSeq hS rfl ?_)
  have hS₂ := Heap.get?_update_self (Obj.mapSeq (fun _ => (#[] : Array Value))) hS rfl
  have oth : ∀ b o, b ≠ S → s.heap.get? b = some o → (s.heap.update S (Obj.mapSeq (fun _ => (#[] : Array Value)))).get? b = some o :=
    fun b o hb e => (Heap.get?_update_other _ _ (Ne.symm hb)).trans e
  have m : ∀ {b : Addr}, b < S → ∀ o, s.heap.get? b = some o → (s.heap.update S (Obj.mapSeq (fun _ => (#[] : Array Value)))).get? b = some o := fun {b} hb o e => oth b o (Nat.ne_of_lt hb) e
  refine wpAny_bind (wpAny_letGo ?_)
  refine zip_extend (oa := oa) (ob := ob) (xs := xs) (ys := ys) hh D hlt n1 n2 hl hn .none _ (m hlt.1 _ hz) (m hlt.2.1 _ hTI) (m hlt.2.2.1 _ hTO) ?_ ?_ ?_ ?_ hS₂ (fun h' tk acc c as hk hS' hacc hG => ?_)
  · obtain ⟨o, e, r⟩ := h1; exact ⟨o, m hlt.2.2.2.1 _ e, r⟩
  · obtain ⟨o, e, r⟩ := h2; exact ⟨o, m hlt.2.2.2.2.1 _ e, r⟩
  · obtain ⟨o, e, r⟩ := t1; exact ⟨o, m hlt.2.2.2.2.2.1 _ e, r⟩
  · obtain ⟨o, e, r⟩ := t2; exact ⟨o, m hlt.2.2.2.2.2.2 _ e, r⟩
  · exact hR h' tk acc c as (fun b o hb e => hk b o hb (oth b o (fun q => hb (by simp [q])) e)) hS' hacc hG
theorem call_list_zip {Q : Value → Shared → Prop} {oa ob : Value} (hh : A.handled = none) (D : ZApart z TI TO i1 i2) (n1 : p1 ∉ [z, TO, i1, i2]) (n2 : p2 ∉ [z, TO, i1, i2]) (hl : xs.length = ys.length) (hn : xs.length ≤ sizeLine)
    (hz : IsZip s.heap z TI TO .none) (hTI : IsPair s.heap TI (.ref i1) (.ref i2)) (hTO : IsPair s.heap TO oa ob) (h1 : s.heap.IsTupleIter i1 p1 0) (h2 : s.heap.IsTupleIter i2 p2 0) (t1 : s.heap.IsTuple p1 xs.toArray) (t2 : s.heap.IsTuple p2 ys.toArray)
    (hQ : ∀ (h' : Heap) (tk : Nat) (acc : Array Value) (c : Nat) (as : List Addr), (∀ b o, b ∉ [z, TO, i1, i2] → s.heap.get? b = some o → h'.get? b = some o) → h'.get? s.heap.objs.size = some { cls := .type "list", dict := none, data := .seq acc c, slots := #[] } → acc.toList = as.map Value.ref → ZGot xs ys (s.heap.objs.size + 1) h' as → Q (.ref s.heap.objs.size) { s with heap := h', toks := tk }) :
    wpAny (model prog w) A (call (.type "list") [.ref z]) Q E s := by
  refine callType_codes (Q₁ := fun obj s₁ => obj = .ref s.heap.objs.size ∧ s₁ = { s with heap := s.heap.push { cls := .type "list", data := .seq #[] } }) PySem.F.called_list (PySem.F.typeCall_list_1 _) PySem.F.entry_list_init
    (code_list_new _ ⟨rfl, rfl⟩) fun obj s₁ h₁ => ?_
  obtain ⟨rfl, rfl⟩ := h₁
  have hS : (s.heap.push { cls := .type "list", data := .seq #[] }).get? s.heap.objs.size = some { cls := .type "list", data := .seq #[] } := Heap.get?_push_size _ rfl
  obtain ⟨o1, e1, r1⟩ := h1
  obtain ⟨o2, e2, r2⟩ := h2
  obtain ⟨o3, e3, r3⟩ := t1
  obtain ⟨o4, e4, r4⟩ := t2
  refine ⟨⟨_, hS, rfl⟩, PySem.F.args_list_init_2 _ _, zip_init (oa := oa) (ob := ob) (xs := xs) (ys := ys) (A := A.in1) hh D ⟨Heap.lt_size hz, Heap.lt_size hTI, Heap.lt_size hTO, Heap.lt_size e1, Heap.lt_size e2, Heap.lt_size e3, Heap.lt_size e4⟩ n1 n2 hl hn
    (Heap.get?_push_of_some _ hz) (Heap.get?_push_of_some _ hTI) (Heap.get?_push_of_some _ hTO) ⟨_, Heap.get?_push_of_some _ e1, r1⟩ ⟨_, Heap.get?_push_of_some _ e2, r2⟩ ⟨_, Heap.get?_push_of_some _ e3, r3⟩ ⟨_, Heap.get?_push_of_some _ e4, r4⟩ hS (fun h' tk acc c as hk hS' hacc hG => ?_)⟩
  exact ⟨rfl, hQ h' tk acc c as (fun b o hb e => hk b o (fun q => hb (by
    rcases List.mem_cons.mp q with q | q
    · exact absurd (Heap.lt_size e) (by rw [q]; exact Nat.lt_irrefl _)
    · exact q)) (Heap.get?_push_of_some _ e)) hS' hacc hG⟩
end
end L2
namespace L2
open PySem PySem.Spec PyProof.Rows
section
variable {X : Cx} {pins : List (Addr × Obj)} {σ : St} {H H' : Hp} {s : Shared} {h' : Heap}
/-- several untracked records of ours have turned, and new objects are tracked -/
theorem Inv.turnedM {t' : Nat} {ch : List Addr} (I : Inv X pins σ H s) (k : ∀ b o, b ∉ ch → s.heap.get? b = some o → h'.get? b = some o) (hf : ∀ b ∈ ch, FpOk X pins H b) (up : ∀ b u, H b = some u → H' b = some u)
    (nw : ∀ b u, H' b = some u → H b = none → s.heap.objs.size ≤ b ∧ ObjOk X.prog X.w H' h' b u) : Inv X pins σ H' { s with heap := h', toks := t' } := by
  have nit : ∀ b u, H b = some u → b ∉ ch := fun b u e z => by rw [(hf b z).1] at e; cases e
  refine I.step (g' := s.gens) (d' := s.drawn) (ch := ch) (fun b hb => ?_) (fun b o _ _ hc e _ => k b o hc e) (fun b o _ _ hc e _ => ⟨o.slots, k b o hc e⟩) (fun b o _ e n => ?_)
    (fun b o hc e => ⟨o, k b o hc e⟩) (fun b xs e => up b _ e) (fun b o u e => up b _ e) (fun b ps e => ⟨#[], by rw [up b _ e]; simp⟩) (fun m hm => ?_) (fun b u e => ?_) I.bare
  · obtain ⟨f0, f1, f2, f3, f4, f5⟩ := hf b hb
    exact ⟨f3, f1, f4, f5⟩
  · cases q : H' b with
    | none => rfl
    | some u => exact absurd (Heap.lt_size e) (Nat.not_lt.mpr (nw b u q n).1)
  · obtain ⟨o, es, ep, ho, r⟩ := hm
    exact ⟨o, es, ep, k _ o (fun z => (hf _ z).2.1 rfl) ho, r⟩
  · cases q : H b with
    | none => exact (nw b u e q).2
    | some v =>
      have q' := up b v q
      rw [e] at q'
      cases q'
      refine (I.hok b u q).stay (fun c v hc q3 => k c v ?_ q3) (fun c q => up c _ q) fun c xs q => up c _ q
      rcases hc with z | z
      · rw [z]; exact nit b u q
      · exact nit c _ z
end
theorem lookup_zip_at {β : Type} : ∀ (as : List Addr) (ps : List β) (j : Nat) (a : Addr) (p : β), as.Pairwise (· < ·) → as[j]? = some a → ps[j]? = some p → (as.zip ps).lookup a = some p
  | [], _, j, a, p, _, h, _ => by simp at h
  | _ :: _, [], j, a, p, _, _, h => by simp at h
  | b :: as, q :: ps, 0, a, p, _, h1, h2 => by
    simp only [List.getElem?_cons_zero, Option.some.injEq] at h1 h2
    subst h1; subst h2
    simp [List.lookup]
  | b :: as, q :: ps, j + 1, a, p, hp, h1, h2 => by
    simp only [List.getElem?_cons_succ] at h1 h2
    obtain ⟨g1, g2⟩ := List.pairwise_cons.mp hp
    have hlt : b < a := g1 a (List.mem_of_getElem? h1)
    have hne : (a == b) = false := by simpa using Nat.ne_of_gt hlt
    simp only [List.zip_cons_cons, List.lookup, hne]
    exact lookup_zip_at as ps j a p g2 h1 h2
theorem lookup_zip_of {β : Type} : ∀ (as : List Addr) (ps : List β) (a : Addr) (p : β), (as.zip ps).lookup a = some p → ∃ j : Nat, as[j]? = some a ∧ ps[j]? = some p
  | [], _, a, p, h => by simp at h
  | _ :: _, [], a, p, h => by simp at h
  | b :: as, q :: ps, a, p, h => by
    simp only [List.zip_cons_cons, List.lookup] at h
    by_cases e : a = b
    · subst e
      simp only [beq_self_eq_true, Option.some.injEq] at h
      exact ⟨0, by simp, by simp [h]⟩
    · have hne : (a == b) = false := by simpa using e
      simp only [hne] at h
      obtain ⟨j, h1, h2⟩ := lookup_zip_of as ps a p h
      exact ⟨j + 1, by simpa using h1, by simpa using h2⟩
section
variable {X : Cx}
/-- list(zip(a, b)) of two tuples of one length -/
def tLZ (K : PySem.W.Frag) (ta : TA) : TE := fun σ H Q => ta σ H fun vs H1 => ∃ a b xs ys, vs = [.ref a, .ref b] ∧ SqT K H1 a xs ∧ SqT K H1 b ys ∧ xs.length = ys.length ∧
  ∀ (l : Addr) (as : List Addr) (H2 : Hp), H1 l = none → Same H1 H2 → H2 l = some (.lst (as.map V.ref)) → as.length = xs.length →
    (∀ (j : Nat) a x y, as[j]? = some a → xs[j]? = some x → ys[j]? = some y → H1 a = none ∧ H2 a = some (.tup [x, y])) → Q (.ref l) H2
theorem vals_refs : ∀ as : List Addr, Vals (as.map V.ref) (as.map Value.ref)
  | [] => .nil
  | _ :: as => .cons rfl (vals_refs as)
theorem vals_get : ∀ {xs : List V} {us : List Value}, Vals xs us → ∀ {j : Nat} {x : V}, xs[j]? = some x → ∃ u, us[j]? = some u ∧ RelV x u := by
  intro xs us h
  induction h with
  | nil => intro j x e; simp at e
  | cons r _ ih =>
    intro j x e
    cases j with
    | zero => simp only [List.getElem?_cons_zero, Option.some.injEq] at e; subst e; exact ⟨_, rfl, r⟩
    | succ j => simpa using ih (by simpa using e)
theorem pe_list_zip {a b : Expr} {ta : TA} {p q pos pos' : Pos} (hgl : Gl X "list") (hml : X.mg "list" = none) (hg : Gl X "zip") (hm : X.mg "zip" = none) (ha : PA X [a, b] ta) (hc : X.calm = true := by rfl)
    (hs : starEach [a, b] X.env = [(false, eval a X.env), (false, eval b X.env)] := by rfl) (hs2 : starEach [b] X.env = [(false, eval b X.env)] := by rfl) :
    PE X (.Call (.Name "list" p) [.Call (.Name "zip" q) [a, b] [] pos'] [] pos) (tLZ X.K ta) := by
  intro pins s σ H Q I h
  refine wpAny_Call_Name_kw (ld_blt I hgl hml boot_list ?_)
  refine PyProof.Rows.callWith_type1 ?_
  show wpAny _ _ (spliced ((false, eval (.Call (.Name "zip" q) [a, b] [] pos') X.env) :: [])) _ _ s
  refine Calls.spliced_cons ?_
  refine wpAny_Call_Name_kw (ld_blt I hg hm boot_zip (PyProof.Rows.callWith_type1 (thn (ha pos' pins s σ H _ I h) fun us s1 ⟨vs, H1, I1, r1, q1⟩ => ?_) (by rw [hs, hs2]) (by rw [hs2]; rfl)))
  obtain ⟨x, y, xs, ys, e, hx, hy, hl, q⟩ := q1
  subst e
  obtain ⟨u, v, rfl, ru, rv⟩ := r1.two
  cases ru
  cases rv
  obtain ⟨i1, w1, ht1, z1⟩ := I1.tuple hx
  obtain ⟨i2, w2, ht2, z2⟩ := I1.tuple hy
  have l1 : x < s1.heap.objs.size := by obtain ⟨_, e, _⟩ := ht1; exact Heap.lt_size e
  have l2 : y < s1.heap.objs.size := by obtain ⟨_, e, _⟩ := ht2; exact Heap.lt_size e
  refine call_zip2 (itersTo_tuple ht1) (itersTo_tuple ht2) rfl rfl fun h1 hz hTI hTO g1 g2 hsz keep => ?_
  refine Calls.spliced_nil ?_
  have I2 : Inv X pins σ H1 { s1 with heap := h1 } := I1.kept (t' := s1.toks) keep
  have n1 : x ∉ [s1.heap.objs.size + 4, s1.heap.objs.size + 3, s1.heap.objs.size, s1.heap.objs.size + 1] := by
    intro hm
    simp only [List.mem_cons, List.not_mem_nil, or_false] at hm
    rcases hm with e | e | e | e <;> (have e' : @Eq Nat _ _ := e; have la' : @LT.lt Nat _ x s1.heap.objs.size := l1; omega)
  have n2 : y ∉ [s1.heap.objs.size + 4, s1.heap.objs.size + 3, s1.heap.objs.size, s1.heap.objs.size + 1] := by
    intro hm
    simp only [List.mem_cons, List.not_mem_nil, or_false] at hm
    rcases hm with e | e | e | e <;> (have e' : @Eq Nat _ _ := e; have la' : @LT.lt Nat _ y s1.heap.objs.size := l2; omega)
  have t1 : h1.IsTuple x i1.toArray := by obtain ⟨o, e, r⟩ := ht1; exact ⟨o, keep _ _ e, r⟩
  have t2 : h1.IsTuple y i2.toArray := by obtain ⟨o, e, r⟩ := ht2; exact ⟨o, keep _ _ e, r⟩
  have e1 := w1.length
  have e2 := w2.length
  refine call_list_zip (s := { s1 with heap := h1 }) (xs := i1) (ys := i2) (I2.ok.hd hc) (zapart_new s1.heap.objs.size) n1 n2 (by omega) (by omega) hz hTI hTO ⟨_, g1, rfl, rfl⟩ ⟨_, g2, rfl, rfl⟩ t1 t2 fun h' tk acc c as kp hS hacc hG => ?_
  let H2 : Hp := fun b => if b = h1.objs.size then some (.lst (as.map V.ref)) else match (as.zip (xs.zip ys)).lookup b with | some p => some (.tup [p.1, p.2]) | none => H1 b
  have fr : ∀ b, h1.objs.size ≤ b → H1 b = none := fun b hb => I2.hok.fresh hb
  have old : ∀ b u, H1 b = some u → b < h1.objs.size := fun b u e => Nat.lt_of_not_le fun hb => by rw [fr b hb] at e; cases e
  have lk : ∀ b p, (as.zip (xs.zip ys)).lookup b = some p → h1.objs.size + 1 ≤ b := fun b p e => by
    obtain ⟨j, h1, _⟩ := lookup_zip_of _ _ _ _ e
    exact hG.above b (List.mem_of_getElem? h1)
  have up : ∀ b u, H1 b = some u → H2 b = some u := fun b u e => by
    have hb := old b u e
    show (if b = h1.objs.size then _ else _) = _
    rw [if_neg (Nat.ne_of_lt hb)]
    cases e' : (as.zip (xs.zip ys)).lookup b with
    | none => exact e
    | some p => exact absurd (Nat.lt_of_succ_le (lk b p e')) (Nat.not_lt.mpr (Nat.le_of_lt hb))
  have atj : ∀ (j : Nat) a x y, as[j]? = some a → xs[j]? = some x → ys[j]? = some y → H2 a = some (.tup [x, y]) := fun j a x y h1' h2 h3 => by
    have ha : h1.objs.size + 1 ≤ a := hG.above a (List.mem_of_getElem? h1')
    show (if a = h1.objs.size then _ else _) = _
    have hzz : (xs.zip ys)[j]? = some (x, y) := List.getElem?_zip_eq_some.mpr ⟨h2, h3⟩
    rw [if_neg (Nat.ne_of_gt (Nat.lt_of_succ_le ha)), lookup_zip_at as (xs.zip ys) j a (x, y) hG.rise h1' hzz]
  have hS2 : H2 h1.objs.size = some (.lst (as.map V.ref)) := if_pos rfl
  have hlen : as.length = xs.length := by rw [hG.len]; omega
  have I3 : Inv X pins σ H2 { s1 with heap := h', toks := tk } := by
    refine I2.turnedM (s := { s1 with heap := h1 }) (ch := [s1.heap.objs.size + 4, s1.heap.objs.size + 3, s1.heap.objs.size, s1.heap.objs.size + 1]) kp (fun b hb => ?_) up (fun b u e hn => ?_)
    · have hle : s1.heap.objs.size ≤ b := by
        simp only [List.mem_cons, List.not_mem_nil, or_false] at hb
        rcases hb with e | e | e | e <;> (have e' : @Eq Nat _ _ := e; show @LE.le Nat _ s1.heap.objs.size b; omega)
      exact I1.fpOk hle (I1.hok.fresh hle)
    · by_cases hb : b = h1.objs.size
      · subst hb
        rw [hS2] at e
        cases e
        refine ⟨Nat.le_refl _, (by rw [List.length_map]; omega), as.map Value.ref, c, vals_refs as, ?_⟩
        rw [← hacc]; exact hS
      · have e0 : (match (as.zip (xs.zip ys)).lookup b with | some p => some (HO.tup [p.1, p.2]) | none => H1 b) = some u := by
          have : H2 b = _ := if_neg hb
          rw [← this]; exact e
        cases e' : (as.zip (xs.zip ys)).lookup b with
        | none => rw [e'] at e0; rw [hn] at e0; cases e0
        | some p =>
          rw [e'] at e0
          cases e0
          refine ⟨Nat.le_of_succ_le (lk b p e'), (show (2 : Nat) ≤ sizeLine by decide), ?_⟩
          obtain ⟨j, j1, j2⟩ := lookup_zip_of _ _ _ _ e'
          obtain ⟨k1, k2⟩ := List.getElem?_zip_eq_some.mp j2
          obtain ⟨u1, f1, r1⟩ := vals_get w1 k1
          obtain ⟨u2, f2, r2⟩ := vals_get w2 k2
          exact ⟨[u1, u2], .cons r1 (.cons r2 .nil), ⟨_, hG.pairs j b u1 u2 j1 f1 f2, rfl, _, rfl⟩⟩
  exact ⟨.ref h1.objs.size, H2, I3, rfl, q _ as H2 (fr _ (Nat.le_refl _)) up hS2 hlen fun j a x y k1 k2 k3 => ⟨fr a (Nat.le_of_succ_le (hG.above a (List.mem_of_getElem? k1))), atj j a x y k1 k2 k3⟩⟩
end
end L2
namespace L2
open PySem PySem.Spec PyProof.Rows
section
variable {src : List (Option Nat)} {te : TE} {σ : St} {H : Hp} {Q : VK}
/-- a comprehension that makes a tuple at each turn -/
theorem lc_tups {J : It} {P : Hp → Prop} {xs : List V} (hJ : ItSeq J P xs) {H1 : Hp} {D : Addr} (ts : List (List V)) (hP : ∀ H', Same H1 H' → P H') (hD : H1 D = none) (hl : ts.length = xs.length) (hlen : xs.length ≤ 100000)
    (step : ∀ (i : Nat) x t H', xs[i]? = some x → ts[i]? = some t → Same H1 H' → ∀ R : VK, (∀ a H'', Same H' H'' → H'' a = some (.tup t) → R (.ref a) H'') → te (some x :: capSt src σ) H' R)
    (fin : ∀ (as : List Addr) H', Same H1 H' → H' D = some (.lst (as.map V.ref)) → as.length = xs.length → (∀ (j : Nat) a t, as[j]? = some a → ts[j]? = some t → H' a = some (.tup t)) → Q (.ref D) H') : LC (none :: src) J (gName 0) tYes te σ H1 Q D := by
  have h6 : 100000 < sizeLine := by decide
  refine lc_on hJ (fun i zs σ' H' => ∃ as : List Addr, zs = as.map V.ref ∧ as.length = i ∧ (∃ o, σ' = o :: capSt src σ) ∧ Same H1 H' ∧ H' D = some (.lst zs) ∧ ∀ (j : Nat) a t, as[j]? = some a → ts[j]? = some t → H' a = some (.tup t))
    ⟨[], rfl, rfl, ⟨none, rfl⟩, .upd_new hD _, upd_same, fun j a t h => by simp at h⟩ (fun i zs σ' H' ⟨as, _, _, _, p1, p2, _⟩ => ⟨hP _ p1, p2⟩) (gName_mono 0) ?_ ?_
  · rintro i zs σ' H' x hx ⟨as, rfl, hi', ⟨o, rfl⟩, sm, hd, hts⟩
    have hi := (List.getElem?_eq_some_iff.mp hx).1
    have ht : ts[i]? = some (ts[i]'(by omega)) := List.getElem?_eq_getElem _
    show te (some x :: capSt src σ) H' _
    refine step i x _ H' hx ht sm _ fun a H'' s2 ha => ⟨s2 _ _ hd, by rw [List.length_map]; omega, as ++ [a], by simp, by simp [hi'], ⟨_, rfl⟩, .upd_over hD (sm.trans s2) _, upd_same, fun j b t hj hjt => ?_⟩
    have key : H'' b = some (.tup t) := by
      rcases Nat.lt_trichotomy j as.length with h1 | h1 | h1
      · rw [List.getElem?_append_left h1] at hj
        exact s2 _ _ (hts j b t hj hjt)
      · have hb : a = b := by subst h1; simpa using hj
        subst hb
        rw [h1, hi'] at hjt
        rw [ht] at hjt
        cases hjt
        exact ha
      · rw [List.getElem?_eq_none (by rw [List.length_append, List.length_singleton]; omega)] at hj; cases hj
    rw [upd_ne (ne_of key (s2 _ _ hd) (by intro z; cases z))]
    exact key
  · rintro zs σ' H' ⟨as, rfl, hn, _, sm, hd, hts⟩
    exact fin as H' sm hd hn hts
theorem tLC_tups {K : PySem.W.Frag} {tl : TE} {xs : List V} (ts : List (List V)) (ha : ∀ R : V → Hp → Prop, (∀ a H1, Same H H1 → SqL K H1 a xs → R (.ref a) H1) → tl σ H R) (hl : ts.length = xs.length) (hlen : xs.length ≤ 100000)
    (step : ∀ (i : Nat) x t H', xs[i]? = some x → ts[i]? = some t → Same H H' → ∀ R : VK, (∀ a H'', Same H' H'' → H'' a = some (.tup t) → R (.ref a) H'') → te (some x :: capSt src σ) H' R)
    (fin : ∀ D (as : List Addr) H', H D = none → Same H H' → H' D = some (.lst (as.map V.ref)) → as.length = xs.length → (∀ (j : Nat) a t, as[j]? = some a → ts[j]? = some t → H' a = some (.tup t)) → Q (.ref D) H') : tLC (none :: src) (iList K tl) (gName 0) tYes te σ H Q :=
  ha _ fun a H1 s1 hS => ⟨a, rfl, ⟨xs, hS⟩, fun D hD => lc_tups (itseq_list.imp fun H' (e : Same H1 H') => e.seq hS) ts (fun _ e => e) hD hl hlen (fun i x t H' hx ht sm R r => step i x t H' hx ht (s1.trans sm) R r) fun as H' sm => fin D as H' (s1.free hD) (s1.trans sm)⟩
/-- a comprehension whose things keep a promise each -/
theorem lc_rel {J : It} {P : Hp → Prop} {xs : List V} (hJ : ItSeq J P xs) {H1 : Hp} {D : Addr} (Rl : Nat → V → Hp → Prop) (st : ∀ i y H H', Rl i y H → Same H H' → Rl i y H') (su : ∀ i y H p zs zs', Rl i y H → H p = some (.lst zs) → Rl i y (upd H p (.lst zs')))
    (hP : ∀ H', Same H1 H' → P H') (hD : H1 D = none) (hlen : xs.length ≤ 100000)
    (step : ∀ (i : Nat) x H', xs[i]? = some x → Same H1 H' → ∀ R : VK, (∀ y H'', Same H' H'' → Rl i y H'' → R y H'') → te (some x :: capSt src σ) H' R)
    (fin : ∀ (ys : List V) H', Same H1 H' → H' D = some (.lst ys) → ys.length = xs.length → (∀ (j : Nat) y, ys[j]? = some y → Rl j y H') → Q (.ref D) H') : LC (none :: src) J (gName 0) tYes te σ H1 Q D := by
  have h6 : 100000 < sizeLine := by decide
  refine lc_on hJ (fun i zs σ' H' => zs.length = i ∧ (∃ o, σ' = o :: capSt src σ) ∧ Same H1 H' ∧ H' D = some (.lst zs) ∧ ∀ (j : Nat) y, zs[j]? = some y → Rl j y H')
    ⟨rfl, ⟨none, rfl⟩, .upd_new hD _, upd_same, fun j y h => by simp at h⟩ (fun i zs σ' H' ⟨_, _, p1, p2, _⟩ => ⟨hP _ p1, p2⟩) (gName_mono 0) ?_ ?_
  · rintro i zs σ' H' x hx ⟨hi', ⟨o, rfl⟩, sm, hd, hts⟩
    have hi := (List.getElem?_eq_some_iff.mp hx).1
    show te (some x :: capSt src σ) H' _
    refine step i x H' hx sm _ fun y H'' s2 hy => ⟨s2 _ _ hd, by omega, by simp [hi'], ⟨_, rfl⟩, .upd_over hD (sm.trans s2) _, upd_same, fun j z hj => su _ _ _ _ _ _ ?_ (s2 _ _ hd)⟩
    rcases Nat.lt_trichotomy j zs.length with h1 | h1 | h1
    · rw [List.getElem?_append_left h1] at hj
      exact st _ _ _ _ (hts j z hj) s2
    · have hb : y = z := by subst h1; simpa using hj
      subst hb
      rw [h1, hi']
      exact hy
    · rw [List.getElem?_eq_none (by rw [List.length_append, List.length_singleton]; omega)] at hj; cases hj
  · rintro zs σ' H' ⟨hn, _, sm, hd, hts⟩
    exact fin zs H' sm hd hn hts
theorem tLC_rel {K : PySem.W.Frag} {tl : TE} {xs : List V} (Rl : Nat → V → Hp → Prop) (st : ∀ i y H H', Rl i y H → Same H H' → Rl i y H') (su : ∀ i y H p zs zs', Rl i y H → H p = some (.lst zs) → Rl i y (upd H p (.lst zs')))
    (ha : ∀ R : V → Hp → Prop, (∀ a H1, Same H H1 → SqL K H1 a xs → R (.ref a) H1) → tl σ H R) (hlen : xs.length ≤ 100000)
    (step : ∀ (i : Nat) x H', xs[i]? = some x → Same H H' → ∀ R : VK, (∀ y H'', Same H' H'' → Rl i y H'' → R y H'') → te (some x :: capSt src σ) H' R)
    (fin : ∀ D (ys : List V) H', H D = none → Same H H' → H' D = some (.lst ys) → ys.length = xs.length → (∀ (j : Nat) y, ys[j]? = some y → Rl j y H') → Q (.ref D) H') : tLC (none :: src) (iList K tl) (gName 0) tYes te σ H Q :=
  ha _ fun a H1 s1 hS => ⟨a, rfl, ⟨xs, hS⟩, fun D hD => lc_rel (itseq_list.imp fun H' (e : Same H1 H') => e.seq hS) Rl st su (fun _ e => e) hD hlen (fun i x H' hx sm R r => step i x H' hx (s1.trans sm) R r) fun ys H' sm => fin D ys H' (s1.free hD) (s1.trans sm)⟩
theorem list_choice {α β : Type} {P : α → β → Prop} : ∀ (zs : List α), (∀ (i : Nat) z, zs[i]? = some z → ∃ q, P z q) → ∃ qs : List β, qs.length = zs.length ∧ ∀ (i : Nat) z q, zs[i]? = some z → qs[i]? = some q → P z q
  | [], _ => ⟨[], rfl, fun i z q h => by simp at h⟩
  | z :: zs, h => by
    obtain ⟨q, hq⟩ := h 0 z rfl
    obtain ⟨qs, hl, hs⟩ := list_choice zs fun i z hi => h (i + 1) z (by simpa using hi)
    refine ⟨q :: qs, by simp [hl], fun i z' q' h1 h2 => ?_⟩
    cases i with
    | zero =>
      have e1 : z = z' := by simpa using h1
      have e2 : q = q' := by simpa using h2
      subst e1 e2
      exact hq
    | succ i => exact hs i z' q' (by simpa using h1) (by simpa using h2)
end
end L2
namespace L2
open PySem PySem.Spec PyProof.Rows
section
variable {X : Cx}
/-- name = [.. for ..]: stored ahead of the letting go of the block's own names -/
theorem ps_setC {i : Nat} {x : Str} {pos' apos : Pos} {elt tg iter : Expr} {ifs : List Expr} {scope : Scope} {pos : Pos} {src : List (Option Nat)} {N' : List Str} {wi : TI} {g : TG} {tt : TT} {te : TE} (hN : X.N.Nodup) (hix : X.N[i]? = some x) (hlx : Loc X.env.scope x) (hcap : Cap X scope src N') (hc : X.calm = true) (hi : PI X tg iter wi)
    (hg : ∀ cl C s₀ H₀ fp pn, PG (cxC X scope N' cl C s₀ H₀ fp pn) tg g) (ht : ∀ cl C s₀ H₀ fp pn, PTs (cxC X scope N' cl C s₀ H₀ fp pn) ifs tt) (he : ∀ cl C s₀ H₀ fp pn, PE (cxC X scope N' cl C s₀ H₀ fp pn) elt te)
    (hfree : ∀ x, (x, NameKind.free) ∈ scope.names → X.env.scope.names.lookup x = some NameKind.cell ∨ X.env.scope.names.lookup x = some NameKind.free)
    (hk : scope.kind = .function := by rfl) (hcell : ∀ y ∈ scope.names, y.2 ≠ .cell := by decide) (hnames : ∀ y ∈ scope.names, y.2 = .local → scope.names.lookup y.1 = some .local := by decide +kernel)
    (hs : ∀ x, foldedSetIterable iter X.env x = pure x := by intro _; rfl) (hsw : swapsWithSole [.Name x pos'] (.ListComp elt [⟨tg, iter, ifs, 0⟩] scope pos) apos.line X.env = pure true := by rfl) (hf : X.fn x = true ∨ X.env.scope.names.lookup x = some .local := by first | exact .inl rfl | exact .inr rfl | assumption) :
    PS X (.Assign [.Name x pos'] (.ListComp elt [⟨tg, iter, ifs, 0⟩] scope pos) apos) (tAsg (tLC src wi g tt te) (gName i)) := by
  intro pins s σ H D0 I h
  have no : ∀ {E : Value → Shared → Prop}, ∀ (e : Value) (s' : Shared), False → E e s' := fun _ _ f => f.elim
  obtain ⟨cl, hcl, a, b⟩ := closure_ok X.env scope fun x hx => I.ok.has x (hfree x hx)
  rw [exec_Assign_arm]
  refine wpAny_bind (wpAny_standAt ?_)
  rw [hsw]
  refine wpAny_bind (wpAny_pure ?_)
  rw [if_pos rfl]
  refine wpAny_bind ?_
  rw [arm_evalThenUse_ListComp]
  refine wpAny_bind ?_
  refine wpAny_comprehension_free (use := some _) rfl hs hcl hk hnames (thn (hi pins s σ H _ I h) fun v s1 h1 => thn h1 fun itv s2 h2 => ?_)
  obtain ⟨it, fp, tn, J, H2, e, I2, T, st2, f2, q⟩ := h2
  subst e
  have hD : H2 s2.heap.objs.size = none := I2.hok.fresh (Nat.le_refl _)
  obtain ⟨W, ⟨m0, w0⟩, turn⟩ := q s2.heap.objs.size hD
  have I3 := I2.lnew (t' := s2.toks) (ys := []) (its := []) .nil (Nat.zero_le _)
  have fl2 : ∀ b ∈ fp, b < s2.heap.objs.size := fun b hb => by
    obtain ⟨o, e, _⟩ := T.obj _ _ st2 b hb
    exact Heap.lt_size e
  refine wpAny_newObj_type ?_
  generalize es3 : ({ s2 with heap := s2.heap.push { cls := .type "list", dict := none, data := .seq ([] : List Value).toArray } } : Shared) = s3
  have I3' : Inv X pins σ (upd H2 s2.heap.objs.size (.lst [])) s3 := es3 ▸ I3
  have keep3 : ∀ b o, s2.heap.get? b = some o → s3.heap.get? b = some o := fun b o e => by rw [← es3]; exact Heap.get?_push_of_some _ e
  have st3 : tn 0 s3.heap := T.keep _ _ _ st2 fun b _ o e => keep3 b o e
  have fl3 : ∀ b ∈ fp, b < s3.heap.objs.size := fun b hb => by
    obtain ⟨o, e, _⟩ := T.obj _ _ st3 b hb
    exact Heap.lt_size e
  have f3 : ∀ b ∈ fp, FpOk X pins (upd H2 s2.heap.objs.size (.lst [])) b := fun b hb => ⟨by rw [upd_ne (Nat.ne_of_lt (fl2 b hb))]; exact (f2 b hb).1, (f2 b hb).2⟩
  generalize eD : s2.heap.objs.size = D at *
  generalize eH3 : upd H2 D (.lst []) = H3 at *
  refine wpAny_newFunctionEnv hcell (by intro y hy; simp at hy) (fun h₁ hns₁ hsb₁ => ?_) hk
  have keep4 : ∀ b o, s3.heap.get? b = some o → h₁.get? b = some o := fun b o e => hsb₁.extBut b o (Nat.ne_of_lt (Heap.lt_size e)) (Heap.get?_push_of_some _ e)
  have I4 := inv_comp (N' := N') (src := src) (tk := s3.toks + ([] : List (Str × Value)).length) hk hcell hcap a b I3' f3 fl3 rfl keep4 hns₁
  -- the iterator's objects, through the block
  have stat : ∀ {H' : Hp}, (∀ b ∈ fp, H' b = none) → ∀ b ∈ fp, FpOk (cxC X scope N' cl s3.heap.objs.size s3 H3 fp (X.pn ++ pins)) [] H' b := fun hn b' hb => by
    obtain ⟨f0, f1, fs, fe, f4, f5⟩ := f3 b' hb
    refine ⟨hn b' hb, Nat.ne_of_lt (fl3 b' hb), fun z => ?_, .inl hb, fun x c h => f4 x c (a x c h), fun p hp => f5 p (by simpa [cxC] using hp)⟩
    rcases List.mem_cons.mp (I3'.stkSub b' z) with e | e
    · exact f1 e
    · exact fs e
  -- behind the block
  have fin : ∀ {H' : Hp} {s' : Shared} {σ' : St} {pins' : List (Addr × Obj)}, Inv (cxC X scope N' cl s3.heap.objs.size s3 H3 fp (X.pn ++ pins)) pins' σ' H' s' → ∀ h', Heap.SameBut s3.heap.objs.size s'.heap h' → Inv X pins σ H' { s' with heap := h' } := fun {H' s' σ' pins'} J' h' sb => by
    have same : ∀ b o, b ≠ s3.heap.objs.size → s'.heap.get? b = some o → h'.get? b = some o := fun b o hb e => sb.extBut b o hb e
    have u : Un (frs X.stack) fp H3 H' s3.heap s'.heap := J'.base
    refine I3'.call' (s' := { s' with heap := h' }) (ch := fp) J'.os ⟨fun b o e n hb hx => ?_, fun b o e n hb hx => ?_, u.free, fun b o e hx => ?_, u.tups, u.frzs, u.tbls⟩ (fun b o e => ?_) J'.bare fun b hb => ?_
    · exact same b o (Nat.ne_of_lt (Heap.lt_size e)) (u.keep b o e n hb hx)
    · obtain ⟨sl, z⟩ := u.slot b o e n hb hx
      exact ⟨sl, same b _ (Nat.ne_of_lt (Heap.lt_size e)) z⟩
    · obtain ⟨o', z⟩ := u.there b o e hx
      exact ⟨o', same b o' (Nat.ne_of_lt (Heap.lt_size e)) z⟩
    · have nC : ∀ c v, H' c = some v → c ≠ s3.heap.objs.size := fun c v z q => by
        have := J'.free
        rw [show (cxC X scope N' cl s3.heap.objs.size s3 H3 fp (X.pn ++ pins)).env.locals = s3.heap.objs.size from rfl, ← q, z] at this
        cases this
      refine (J'.hok b o e).stay (fun c v hc q => same c v ?_ q) (fun _ q => q) fun _ _ q => q
      rcases hc with z | z
      · rw [z]; exact nC b o e
      · exact nC c _ z
    · obtain ⟨f0, f1, fs, fe, f4, f5⟩ := f3 b hb
      exact ⟨fe, f1, f4, f5⟩
  have loop : codeAny (model X.prog X.w) X.A (.compLoop (.ListComp elt [⟨tg, iter, ifs, 0⟩] scope pos) 0 (.ref it) (.ref D) (compEnvC scope cl s3.heap.objs.size X.env))
      (compPost (model X.prog X.w) X.A X.xe (some fun v => assignAll v ((assignEach [.Name x pos'] X.env).map (·.2))) (fun _ s' => wpAny (model X.prog X.w) X.A (pure PUnit.unit) (fun _ s' => wpAny (model X.prog X.w) X.A (pure Flow.next) (SP X pins D0) X.xe s') X.xe s') (.ref D) s3.heap.objs.size) { s3 with heap := h₁, toks := s3.toks + ([] : List (Str × Value)).length } := by
    refine comp_loop (fun n s' => ∃ i ys σ' H', Inv (cxC X scope N' cl s3.heap.objs.size s3 H3 fp (X.pn ++ pins)) [] σ' H' s' ∧ tn i s'.heap ∧ (∀ b ∈ fp, H' b = none) ∧ W i n ys σ' H') ?_ m0 ⟨0, [], capSt src σ, H3, I4, T.keep _ _ _ st3 fun b _ o e => keep4 b o e, fun b hb => (f3 b hb).1, w0⟩
    rintro n s5 ⟨i, ys, σ5, H5, I5, st5, fr5, w5⟩
    obtain ⟨hDs, stop | go⟩ := turn i n ys σ5 H5 w5
    · obtain ⟨stop, qn⟩ := stop
      refine thn (T.done (cxC X scope N' cl s3.heap.objs.size s3 H3 fp (X.pn ++ pins)) rfl rfl rfl hc i [] s5 σ5 H5 _ I5 (stat fr5) st5 stop) fun r s6 ⟨hr, I6⟩ => ?_
      subst hr
      obtain ⟨m, hn, _⟩ := id I6.loc
      have IO : Inv X pins σ H5 s6 := fin I6 s6.heap (Heap.SameBut.refl _ _)
      have hCn : H5 s3.heap.objs.size = none := I6.free
      have hC : ∀ {H' : Hp}, H' s3.heap.objs.size = none → FpOk X pins H' s3.heap.objs.size := fun {H'} z => I3'.fpOk (Nat.le_refl _) z
      obtain ⟨oC, es, ep, hoC, rC⟩ := hn
      have IP := IO.pinned (fp := [s3.heap.objs.size]) (fun b hb => by rw [List.mem_singleton.mp hb]; exact hC hCn) (fun b hb => by rw [List.mem_singleton.mp hb]; exact ⟨oC, hoC, fun v z => by (rw [rC.1] at z; cases z)⟩)
      show wpAny _ _ (assign (.Name x pos') X.env (.ref D)) _ _ _
      refine thn (pg_name hN hix hlx hf _ s6 σ H5 (.ref D) (.ref D) _ IP rfl qn) fun _ s7 ⟨σ7, H7, I7, q7⟩ => ?_
      obtain ⟨g1, g2, _⟩ := I7.pin (s3.heap.objs.size, oC) (List.mem_append_right _ (List.mem_append_right _ (mem_pinsAt (List.mem_singleton.mpr rfl) hoC)))
      refine ⟨m, ⟨oC, es, ep, g1, rC⟩, fun h' sb => wpAny_pure (wpAny_pure ⟨σ7, H7, ?_, q7⟩)⟩
      exact I7.unpinned.turnedL (t' := s7.toks) (ch := [s3.heap.objs.size]) (fun b o hb e => sb.extBut b o (fun z => hb (by rw [z]; exact List.mem_singleton.mpr rfl)) e) (fun b hb => by rw [List.mem_singleton.mp hb]; exact hC g2)
    · obtain ⟨go, N, hN, step⟩ := go
      refine thn (T.item (cxC X scope N' cl s3.heap.objs.size s3 H3 fp (X.pn ++ pins)) rfl rfl rfl hc i [] s5 σ5 H5 _ I5 (stat fr5) st5 go) fun r s6 ⟨u, hr, h6⟩ => ?_
      subst hr
      refine thn h6 fun _ s7 ⟨x, H7, I7, r7, y7, st7, fr7⟩ => ?_
      have I7' := I7.pinned (stat fr7) (T.obj _ _ st7)
      have again : ∀ {s8 : Shared} {σ8 : St} {H8 : Hp} {ys' : List V}, Inv (cxC X scope N' cl s3.heap.objs.size s3 H3 fp (X.pn ++ pins)) ([] ++ pinsAt fp s7.heap) σ8 H8 s8 → (∃ m', m' < n ∧ W (i + 1) m' ys' σ8 H8) →
          ∃ m, m < n ∧ ∃ i ys σ' H', Inv (cxC X scope N' cl s3.heap.objs.size s3 H3 fp (X.pn ++ pins)) [] σ' H' s8 ∧ tn i s8.heap ∧ (∀ b ∈ fp, H' b = none) ∧ W i m ys σ' H' := fun {s8 σ8 H8 ys'} I8 ⟨m', hm, w8⟩ => by
        refine ⟨m', hm, i + 1, ys', σ8, H8, I8.unpinned, T.keep _ _ _ st7 fun b hb o e => (I8.pin (b, o) (List.mem_append_right _ (List.mem_append_right _ (mem_pinsAt hb e)))).1, fun b hb => ?_, w8⟩
        obtain ⟨o, e, d⟩ := T.obj _ _ st7 b hb
        exact (I8.pin (b, o) (List.mem_append_right _ (List.mem_append_right _ (mem_pinsAt hb e)))).2.1
      refine thn (hg cl _ s3 H3 fp _ _ s7 σ5 H7 x u _ I7' r7 (step x H7 y7)) fun _ s8 ⟨σ8, H8, I8, q8⟩ => ?_
      refine thn (ht cl _ s3 H3 fp _ _ s8 σ8 H8 _ I8 q8) fun ok s9 ⟨H9, I9, q9⟩ => ?_
      cases ok with
      | false => exact again I9 (hN _ _ _ q9)
      | true =>
        rw [if_pos rfl]
        refine thn (he cl _ s3 H3 fp _ _ s9 σ8 H9 _ I9 q9) fun y s10 ⟨yv, H10, I10, r10, q10⟩ => ?_
        obtain ⟨hDy, hlen, w10⟩ := q10
        refine thn (mt_append (X := cxC X scope N' cl s3.heap.objs.size s3 H3 fp (X.pn ++ pins)) _ s10 σ8 H10 (.ref D) [yv] (.ref D) [y] (fun _ H' => H' = upd H10 D (.lst (ys ++ [yv]))) I10 rfl (.cons r10 .nil) ⟨D, ys, yv, rfl, rfl, hDy, hlen, rfl⟩) fun _ s11 ⟨_, H11, I11, _, e11⟩ => ?_
        subst e11
        exact again I11 (hN _ _ _ w10)
  exact codeAny_compStart_list loop (T.self _ 0 _ _ _ (T.keep _ _ _ st3 fun b _ o e => keep4 b o e) loop)
end
end L2
namespace L2
open PySem PySem.Spec PyProof.Rows
/-! ### an exception of the program's own: it flies over B, which is all that stays behind it but the frames -/
structure Fly (P : Program) (w : World) (l : List Env) (H : Hp) (h : Heap) (e : Addr) (cls : Value) (H' : Hp) (h' B : Heap) : Prop where
  fl : ∃ a0, Heap.FlyingW B l e cls a0 h'
  hok : HOk P w H' B
  keep : ∀ b o, h.get? b = some o → H b = none → b ∉ frs l → B.get? b = some o
  slot : ∀ b o, h.get? b = some o → H b = none → b ∈ frs l → ∃ sl, h'.get? b = some { o with slots := sl }
  al : ∀ b o, h.get? b = some o → b ∉ frs l → ∃ o', B.get? b = some o'
  free : ∀ b o, h.get? b = some o → H b = none → H' b = none
  tups : ∀ b xs, H b = some (.tup xs) → H' b = some (.tup xs)
  frzs : ∀ b o u, H b = some (.frz o u) → H' b = some (.frz o u)
  tbls : ∀ b ps, H b = some (.tbl ps) → ∃ more, H' b = some (.tbl (ps ++ more))
section
variable {P : Program} {w : World} {l : List Env} {H H' : Hp} {h h' h'' B : Heap} {e : Addr} {cls : Value}
end
section
variable {X : Cx} {pins : List (Addr × Obj)} {σ : St} {H H' : Hp} {s s' : Shared} {h' B : Heap} {e : Addr} {cls : Value} {M : Model} {A : Around} {Q : Unit → Shared → Prop} {EE : Value → Shared → Prop}
end
/-- how an exception lies behind a call -/
def CXF (P : Program) (w : World) : CXT := fun l H s E e s' => ∃ (a : Addr) (cls : Value) (H' : Hp) (B : Heap), e = .ref a ∧ s'.os = s.os ∧ AllBare s'.gens ∧ Fly P w l H s.heap a cls H' s'.heap B ∧ E cls none H'
/-- a body from which exceptions may go -/
abbrev Gx.cxX (g : Gx) (N : List Str) (qual : Str) (st : Stmt) (f : Addr) (cdv : Value) (A : Around) (outer : List Env) (s : Shared) (H : Hp) (E : XK) : Cx := cxOf (CXF g.P g.w) g.P g.w g.K g.mg g.base N qual (defScope st) f cdv A outer s H E
section
variable {g : Gx} {N : List Str} {qual : Str} {st : Stmt} {f : Addr} {cdv : Value} {A : Around} {outer : List Env} {s : Shared} {H : Hp} {E : XK}
/-- what a raise asks -/
def Raises (X : Cx) (E : XK) : Prop := ∀ (pins : List (Addr × Obj)) (σ : St) (H : Hp) (s : Shared) (h' : Heap) (e : Addr) (cls : Value) (vs : List Value), Inv X pins σ H s → Heap.MadeExcOf s.heap h' e cls vs → E cls none H → X.xe (.ref e) { s with heap := h' }
end
def Gx.FnX (g : Gx) (k : Nat) (x : Str) (ps : List Str) (sp : Sp) : Prop := ∃ f fd, FnOk g.P g.w g.K g.mg g.base (CXF g.P g.w) k f fd ps sp ∧ Binds g.K fd ps [] ∧ PySem.W.keepIn g.K (.ref f) = true ∧ g.mg x = some (.ref f)
def BodyX (g : Gx) (k : Nat) (N : List Str) (qual : Str) (st : Stmt) (sp : Sp) : Prop := ∀ (f : Addr) (cdv : Value) (A : Around) (outer : List Env) (s : Shared) (H : Hp) (vs : List V) (Q : VK) (E : XK), Room k (g.cxX N qual st f cdv A outer s H E).A → sp vs H Q E →
  ∃ t, PSs (g.cxX N qual st f cdv A outer s H E) (defBody st) t ∧ t { nx := fun _ H' => Q .non H', rt := Q } (start N vs) H
section
variable {g : Gx} {k : Nat} {x qual m : Str} {st : Stmt} {N ps : List Str} {sp : Sp} {C : Addr}
end
section
variable {g : Gx} {X : Cx} {k j : Nat} {x : Str} {ps : List Str} {sp : Sp} {E : XK} {e : Expr} {es : List Expr} {t : TA} {p pos cpos np : Pos}
/-- the built-in line that our classes stand in -/
abbrev veLine : List Value := [.type "ValueError", .type "Exception", .type "BaseException", .type "object"]
/-- an exception class of the text, without an __init__ of its own -/
structure Gx.Exc (g : Gx) (x : Str) (C : Addr) : Prop where
  bound : g.mg x = some (.ref C)
  own : PySem.W.excIn g.K C veLine "ValueError.__new__" = true
def tRaise (C : Addr) (E : XK) (t : TA) : TS := fun _ σ H => t σ H fun vs H1 => vs.length ≤ sizeLine ∧ E (.ref C) none H1
end
/-! ### try: x = f(..) except C: suite -/
abbrev Cx.caught (X : Cx) (e : Addr) : Cx := { X with A := X.A.mark (some (.ref e)), calm := false, xe := fun _ _ => False }
section
variable {X : Cx} {pins : List (Addr × Obj)} {σ : St} {H H' H1 : Hp} {s s1 s' : Shared} {e : Value} {D : Ends} {ts : TS} {b₀ : Stmt} {suite : List Stmt} {c : Str} {cv : Value} {cp hpos : Pos}
end
def tTry (K : PySem.W.Frag) (cv : Value) (sp : Sp) (t : TA) (i : Nat) (ts : TS) : TS := fun D σ H => t σ H fun vs H1 => sp (vs ++ []) H1 (fun v H2 => D.nx (σ.set i (some v)) H2) (fun cls _ H2 => PySem.W.exmOne K cls cv = some true ∧ ts D σ H2)
section
variable {g : Gx} {X : Cx} {k j i : Nat} {x f c : Str} {ps : List Str} {sp : Sp} {e : Expr} {es : List Expr} {t : TA} {ts : TS} {b₀ : Stmt} {suite : List Stmt} {cv : Value} {fp px cp hpos apos cpos pos : Pos}
end
end L2
namespace L2
open PySem PySem.Spec PyProof.Rows
/-! ### enumerate, over a tuple, or from a number on -/
def Ite' (k : Nat) (G : Hp → List V → Prop) : It :=
  ⟨fun i H => ∃ xs x, G H xs ∧ xs[i]? = some x, fun i H v H' => ∃ T, v = .ref T ∧ H T = none ∧ ∀ xs x, G H xs → xs[i]? = some x → H' = upd H T (.tup [.int ((i + k : Nat) : Int), x]), fun i H => ∃ xs, G H xs ∧ xs.length = i⟩
theorem draws_shift {P : Program} {w : World} {A : Around} {it : Addr} {fp : List Addr} {n : Nat} {R : Nat → Value → Prop} {St : Nat → Heap → Prop} (D : Draws P w A it fp n R St) (k : Nat) :
    Draws P w A it fp (n + k) (fun i v => ∃ j, i = j + k ∧ R j v) (fun i h => ∃ j, i = j + k ∧ St j h) where
  live := fun i h ⟨j, _, st⟩ => D.live j h st
  frame := fun i h h' ⟨j, e, st⟩ q => ⟨j, e, D.frame j h h' st q⟩
  item := fun i s Q E hi ⟨j, e, st⟩ hQ => by
    subst e
    exact D.item j s Q E (by omega) st fun x h' tk p st' sb => hQ x h' tk ⟨j, rfl, p⟩ ⟨j + 1, by omega, st'⟩ sb
  done := fun s Q E ⟨j, e, st⟩ hE => by
    have : j = n := by omega
    subst this
    exact D.done s Q E st hE
theorem turn_enum {P : Program} {w : World} {K : PySem.W.Frag} {elts : List Expr} {kk : Nat} {pos : Pos} {a e it : Addr} {k : Nat} {G : Hp → List V → Prop} {inner : Nat → Heap → Prop} (ne : e ≠ it) (na : e ≠ a)
    (obj : ∀ i h, inner i h → ∃ o, h.get? it = some o ∧ ∀ v, o.data ≠ .cell v) (keep : ∀ i h h', inner i h → (∀ o, h.get? it = some o → h'.get? it = some o) → inner i h')
    (inj : ∀ (X : Cx) pins σ H s xs ys, X.prog = P → X.w = w → X.K = K → Inv X pins σ H s → G H xs → G H ys → xs = ys)
    (dr : ∀ (X : Cx) pins σ H s xs i, X.prog = P → X.w = w → X.K = K → X.calm = true → Inv X pins σ H s → G H xs → inner i s.heap → ∃ its : List Value, Vals xs its ∧ ∃ St : Nat → Heap → Prop, Draws P w X.A.in1 it [it, a] its.length (fun i v => its[i]? = some v) St ∧ St i s.heap ∧ ∀ i h, St i h → inner i h) :
    Turn P w K (.Tuple elts kk pos) (Ite' k G) [e, it] e (fun i h => (∃ old, IsEnum h e it ((i + k : Nat) : Int) old) ∧ inner i h) where
  mem := by simp
  obj := fun i h ⟨⟨old, he⟩, hi⟩ c hc => by
    simp only [List.mem_cons, List.not_mem_nil, or_false] at hc
    rcases hc with rfl | rfl
    · exact ⟨_, he, fun v z => by cases z⟩
    · exact obj i h hi
  keep := fun i h h' ⟨⟨old, he⟩, hi⟩ q => ⟨⟨old, q e (by simp) _ he⟩, keep i h h' hi fun o z => q it (by simp) o z⟩
  item := by
    intro X hP hw hK hc i pins s σ H E I hf ⟨⟨old, he⟩, hi⟩ hg
    obtain ⟨xs, x, g1, hx⟩ := hg
    obtain ⟨its, rv, St, D, hst, hin⟩ := dr X pins σ H s xs i hP hw hK hc I g1 hi
    subst hP hw hK
    have hlen := rv.length
    have hil : i < xs.length := (List.getElem?_eq_some_iff.mp hx).1
    refine wpAny_pyNext_enum_itemD (draws_shift D k) he ⟨i, rfl, hst⟩ (by omega) ne (fun z => ?_) fun u h1 tk hu ho hi1 hT hsz kp => ?_
    · simp only [List.mem_cons, List.not_mem_nil, or_false] at z
      rcases z with z | z
      · exact ne z
      · exact na z
    refine ⟨_, rfl, ?_⟩
    refine wpAny_letOwnedTupleGo_enum (s := { s with heap := h1, toks := tk + 1 }) ho fun h2 he2 sb => ?_
    have elt : e < s.heap.objs.size := Heap.lt_size he
    have ilt : it < s.heap.objs.size := by obtain ⟨o, q, _⟩ := obj i _ hi; exact Heap.lt_size q
    have kp2 : ∀ c o, c ∉ [e, it] → s.heap.get? c = some o → h2.get? c = some o := fun c o hm z => by
      have c1 : c ≠ e := fun q => hm (by simp [q])
      have c2 : c ≠ it := fun q => hm (by simp [q])
      exact sb.extBut c o c1 (kp c o c1 c2 z)
    obtain ⟨j, ej, hu⟩ := hu
    have ej : j = i := by omega
    subst ej
    obtain ⟨u', hu', ru⟩ := rv.get hx
    rw [hu] at hu'
    cases hu'
    have hT2 : h2.get? s.heap.objs.size = some { cls := .type "tuple", data := .seq #[.int ((j + k : Nat) : Int) tk, u] } := sb.extBut _ _ (Nat.ne_of_gt elt) hT
    have I' := I.turnedT (t' := tk + 1) (h' := h2) (T := s.heap.objs.size) (vs := [.int ((j + k : Nat) : Int), x]) kp2 hf (Nat.le_refl _) (show ObjOk X.prog X.w _ h2 _ (.tup [.int ((j + k : Nat) : Int), x]) from ⟨by show 2 ≤ sizeLine; decide, [.int ((j + k : Nat) : Int) tk, u], .cons ⟨_, rfl⟩ (.cons ru .nil), _, hT2, rfl, _, rfl⟩)
    have fresh : H s.heap.objs.size = none := I.hok.fresh (Nat.le_refl _)
    obtain ⟨j', ej', st'⟩ := hi1
    have ej' : j' = j + 1 := by omega
    subst ej'
    refine ⟨.ref s.heap.objs.size, _, I', rfl, ⟨_, rfl, fresh, fun xs' x' g1' hx' => ?_⟩, ⟨⟨u, ?_⟩, keep _ _ _ (hin _ _ st') fun o z => sb.extBut _ _ (Ne.symm ne) z⟩, fun c hm => ?_⟩
    · rw [inj X pins σ H s _ _ rfl rfl rfl I g1' g1, hx] at hx'
      cases hx'
      rfl
    · have e2 : (((j + 1 + k : Nat)) : Int) = ((j + k : Nat) : Int) + 1 := by omega
      rw [e2]
      simpa using he2
    · have h0 := (hf c hm).1
      have clt : c < s.heap.objs.size := by
        simp only [List.mem_cons, List.not_mem_nil, or_false] at hm
        rcases hm with rfl | rfl
        · exact elt
        · exact ilt
      rw [upd_ne (Nat.ne_of_lt clt)]
      exact h0
  done := by
    intro X hP hw hK hc i pins s σ H E I hf ⟨⟨old, he⟩, hi⟩ hg
    obtain ⟨xs, g1, hx⟩ := hg
    obtain ⟨its, rv, St, D, hst, hin⟩ := dr X pins σ H s xs i hP hw hK hc I g1 hi
    subst hP hw hK
    have hlen := rv.length
    obtain ⟨f0, f1, f2, f3, f4, f5⟩ := hf it (by simp)
    exact wpAny_pyNext_enum_endD (draws_shift D k) he ⟨i, by omega, hst⟩ fun h' eb => ⟨rfl, I.turned (t' := s.toks) (fun b o hb z => eb b o hb z) f0 f1 f3 f4 f5⟩
  self := fun _ _ _ _ _ ⟨⟨_, he⟩, _⟩ h => wpAny_pyIter_enum he h

section
variable {prog : Program} {w : World} {A : Around} {E : Value → Shared → Prop} {s : Shared}
theorem nextT_item {it t : Addr} {i : Nat} {its : Array Value} {x : Value} {Q : Value → Shared → Prop} (hit : IsTupIter s.heap it t i) (ht : IsTup s.heap t its) (hx : its[i]? = some x)
    (hQ : ∀ h', IsTupIter h' it t (i + 1) → Heap.SameBut it s.heap h' → Q x { s with heap := h' }) : wpAny (model prog w) A (Builtin.SmallTypes.nextOf (.ref it)) Q E s := by
  have hT := hit.typeIs
  obtain ⟨o, ho, hc, hd⟩ := hit
  obtain ⟨ot, hot, _, nt, hdt⟩ := ht
  unfold Builtin.SmallTypes.nextOf
  refine wpAny_bind (wpAny_callSpecial?_slot (name := Str.ofString "__next__") hT slot_tupleiter_next (wpAny_call_entry slot_tupleiter_next hT entry_tupleiter_next ?_ (args_tupleiter_next _)))
  change wpAny _ _ (field (.ref it) 0 >>= _) _ _ s
  refine wpAny_bind (wpAny_field (x := .ref t) ho hd rfl ?_)
  change wpAny _ _ (if (Value.ref t == Value.none) = true then _ else _) _ _ s
  rw [if_neg (show ¬ (Value.ref t == Value.none) = true from Bool.false_ne_true)]
  change wpAny _ _ (field (.ref it) 1 >>= _) _ _ s
  refine wpAny_bind (wpAny_field (x := .int i 0) ho hd rfl ?_)
  change wpAny _ _ (seqItems? (.ref t) >>= _) _ _ s
  refine wpAny_bind (wpAny_seqItems hot hdt ?_)
  simp only [hx, Int.toNat_natCast]
  refine wpAny_bind (wpAny_setField ho hd (by simp) (wpAny_pure ⟨x, rfl, wpAny_pure (hQ _ ⟨_, Heap.get?_update_self _ ho (Obj.isFreed_of_fields (Obj.data_mapFields hd _)), (Obj.cls_mapFields ..).trans hc, ?_⟩ (Heap.SameBut.update ..))⟩))
  rw [Obj.data_mapFields hd]
  simp [rawInt]
theorem nextT_end {it t : Addr} {i : Nat} {its : Array Value} {Q : Value → Shared → Prop} (hh : A.handled = none) (hit : IsTupIter s.heap it t i) (ht : IsTup s.heap t its) (hx : its[i]? = none)
    (hE : ∀ h' e, Heap.ExtBut it s.heap h' → (∃ o, h'.get? e = some o ∧ o.cls = .type "StopIteration") → E (.ref e) { s with heap := h' }) : wpAny (model prog w) A (Builtin.SmallTypes.nextOf (.ref it)) Q E s := by
  have hT := hit.typeIs
  obtain ⟨o, ho, hc, hd⟩ := hit
  obtain ⟨ot, hot, _, nt, hdt⟩ := ht
  unfold Builtin.SmallTypes.nextOf
  refine wpAny_bind (wpAny_callSpecial?_slot (name := Str.ofString "__next__") hT slot_tupleiter_next (wpAny_call_entry slot_tupleiter_next hT entry_tupleiter_next ?_ (args_tupleiter_next _)))
  change wpAny _ _ (field (.ref it) 0 >>= _) _ _ s
  refine wpAny_bind (wpAny_field (x := .ref t) ho hd rfl ?_)
  change wpAny _ _ (if (Value.ref t == Value.none) = true then _ else _) _ _ s
  rw [if_neg (show ¬ (Value.ref t == Value.none) = true from Bool.false_ne_true)]
  change wpAny _ _ (field (.ref it) 1 >>= _) _ _ s
  refine wpAny_bind (wpAny_field (x := .int i 0) ho hd rfl ?_)
  change wpAny _ _ (seqItems? (.ref t) >>= _) _ _ s
  refine wpAny_bind (wpAny_seqItems hot hdt ?_)
  simp only [hx, Int.toNat_natCast]
  refine wpAny_bind (wpAny_rule (wpAny_bind (wpAny_setField ho hd (by simp) ?_)))
  change wpAny _ _ (newExc (.type "StopIteration") [] >>= _) _ _ _
  refine wpAny_bind ?_
  simp only [newTuple, newExc]
  refine wpAny_bind (wpAny_newObj_type ?_ (by size_fits))
  refine wpAny_bind (m := firstArgMember _ _) (wpAny_of_eq (a := Value.none) (by first | (simp only [firstArgMember]; rfl) | rfl) ?_)
  refine wpAny_newObj_type ?_ (by size_fits)
  simp only [raiseNew]
  refine wpAny_bind (wpAny_handled ?_)
  first | rw [hh] | rw [show A.in1.handled = none from hh]
  exact wpAny_bind (wpAny_pure (wpAny_throw (hE _ _ (((Heap.SameBut.update ..).extBut.push _).push _) ⟨_, Heap.get?_push_size _ rfl, rfl⟩)))
theorem draws_tup (hh : A.handled = none) (it t : Addr) (ne : t ≠ it) (its : Array Value) : Draws prog w A it [it, t] its.size (fun i v => its[i]? = some v) (fun i h => IsTupIter h it t i ∧ IsTup h t its) where
  live := fun _ _ st => let ⟨o, ho, _⟩ := st.1; ⟨o, ho⟩
  frame := fun _ _ _ st hk => ⟨let ⟨o, ho, r⟩ := st.1; ⟨o, hk it (by simp) o ho, r⟩, let ⟨o, ho, r⟩ := st.2; ⟨o, hk t (by simp) o ho, r⟩⟩
  item := fun i s Q E hi st hQ => by
    refine nextT_item st.1 st.2 (x := its[i]) (by simp [hi]) fun h' hit' hs' => ?_
    exact hQ _ h' s.toks (by simp [hi]) ⟨hit', let ⟨o, ho, r⟩ := st.2; ⟨o, hs'.extBut t o ne ho, r⟩⟩ hs'
  done := fun s Q E st hE => nextT_end hh st.1 st.2 (by simp) hE
open AutoSeq1 (wpAny_loadPart') in
theorem meets_enumT (l : Addr) (o : Obj) (its : Array Value) (n : Nat) (hc : o.cls = .type "tuple") (hd : o.data = .seq its n) :
    Meets (Builtin.«enumerate.__new__» ⟨[.type "enumerate", .ref l], []⟩) (fun _ R s => s.heap.get? l = some o ∧
      R (.ok (.ret (.ref (s.heap.push { cls := .type "tuple_iterator", data := .fields #[.ref l, .int 0 0] }).objs.size)))
        { s with heap := (s.heap.push { cls := .type "tuple_iterator", data := .fields #[.ref l, .int 0 0] }).push { cls := .type "enumerate", data := .fields #[.none, .bool false, .ref s.heap.objs.size, rawInt 0, .none, .none] } }) :=
  .of_wp fun prog w A R s h => by
    obtain ⟨hp, g, d, tk, os⟩ := s
    obtain ⟨hl, h⟩ := h
    have hsub := sub_enumerate
    have hL : IsTup (Shared.heap ⟨hp, g, d, tk, os⟩) l its := ⟨o, hl, hc, n, hd⟩
    wp_walk using wpAny_loadPart' hl
    refine wpAny_stack_any fun st => wpAny_pure ?_
    split
    · rename_i c _ _ _ _ _
      cases (c == Value.type "enumerate")
      · wp_walk using wpAny_loadPart' hl, iter_tuple hL
        exact ⟨_, rfl, h⟩
      · wp_walk using wpAny_loadPart' hl, iter_tuple hL
        exact ⟨_, rfl, h⟩
    · wp_walk using wpAny_loadPart' hl, iter_tuple hL
      exact ⟨_, rfl, h⟩
theorem call_enumT {l : Addr} {its : Array Value} {Q : Value → Shared → Prop} (hL : IsTup s.heap l its)
    (h : ∀ h', IsEnum h' (s.heap.objs.size + 1) s.heap.objs.size 0 .none → IsTupIter h' s.heap.objs.size l 0 → (∀ b o, s.heap.get? b = some o → h'.get? b = some o) → Q (.ref (s.heap.objs.size + 1)) { s with heap := h' }) :
    wpAny (model prog w) A (call (.type "enumerate") [.ref l]) Q E s := by
  obtain ⟨o, hl, hc, n, hd⟩ := hL
  refine callType_new F.called_enumerate (by decide) (F.typeCall_enumerate_1 _) (F.newCall_enumerate_1 _) (fun obj => F.args_object_init_2 obj _) F.entry_enumerate_new (meets_enumT l o its n hc hd) ⟨hl, ?_⟩
  have hz : (s.heap.push { cls := .type "tuple_iterator", data := .fields #[.ref l, .int 0 0] }).objs.size = s.heap.objs.size + 1 := Heap.size_push ..
  change _ ∧ _
  rw [hz]
  have he : IsEnum ((s.heap.push { cls := .type "tuple_iterator", data := .fields #[.ref l, .int 0 0] }).push { cls := .type "enumerate", data := .fields #[.none, .bool false, .ref s.heap.objs.size, rawInt 0, .none, .none] }) (s.heap.objs.size + 1) s.heap.objs.size 0 .none := by
    have z := Heap.get?_push_size (s.heap.push { cls := .type "tuple_iterator", data := .fields #[.ref l, .int 0 0] }) (o := { cls := .type "enumerate", data := .fields #[.none, .bool false, .ref s.heap.objs.size, rawInt 0, .none, .none] }) rfl
    rw [hz] at z
    exact z
  exact ⟨⟨_, he, rfl⟩, h _ he ⟨_, Heap.get?_push_of_some _ (Heap.get?_push_size _ rfl), rfl, rfl⟩ fun b o x => Heap.get?_push_of_some _ (Heap.get?_push_of_some _ x)⟩
end
section
variable {X : Cx} {elts : List Expr} {kk : Nat} {tpos : Pos}
theorem turn_enumT {P : Program} {w : World} {K : PySem.W.Frag} {pos : Pos} {a e it : Addr} (ne : e ≠ it) (na : e ≠ a) (nt : a ≠ it) :
    Turn P w K (.Tuple elts kk pos) (Ite' 0 fun H xs => SqT K H a xs) [e, it] e (fun i h => (∃ old, IsEnum h e it ((i + 0 : Nat) : Int) old) ∧ IsTupIter h it a i) := by
  refine turn_enum ne na (fun i h ⟨o, q, _, d⟩ => ⟨o, q, fun v z => by rw [d] at z; cases z⟩) (fun i h h' ⟨o, q, r⟩ k => ⟨o, k o q, r⟩) (fun X pins σ H s xs ys hP hw hK I g1 g2 => ?_) (fun X pins σ H s xs i hP hw hK hc I g1 hi => ?_)
  · subst hP hw hK
    exact I.tuple_inj g1 g2
  · subst hP hw hK
    obtain ⟨its, rv, pl, hz⟩ := I.tuple g1
    refine ⟨its, rv, fun i h => IsTupIter h it a i ∧ IsTup h a its.toArray, by simpa using draws_tup (prog := X.prog) (w := X.w) (A := X.A.in1) (I.ok.hd hc) it a nt its.toArray, ⟨hi, pl⟩, fun i h st => st.1⟩
def iEnumT (K : PySem.W.Frag) (ta : TA) : TI := fun σ H R => ta σ H fun vs H1 => ∃ a xs, vs = [.ref a] ∧ SqT K H1 a xs ∧ R (Ite' 0 fun H xs => SqT K H a xs) H1
theorem pi_enumT {a : Expr} {ta : TA} {p pos : Pos} (hg : Gl X "enumerate") (hm : X.mg "enumerate" = none) (ha : PA X [a] ta) (hs : starEach [a] X.env = [(false, eval a X.env)] := by rfl) :
    PI X (.Tuple elts kk tpos) (.Call (.Name "enumerate" p) [a] [] pos) (iEnumT X.K ta) := by
  intro pins s σ H R I h
  refine Call_ (ld_blt I hg hm boot_enumerate (PyProof.Rows.callWith_type1 (thn (ha pos pins s σ H _ I h) fun us s1 hz => ?_) hs rfl))
  obtain ⟨vs, H1, I1, r1, x, xs, e, hx, q⟩ := hz
  subst e
  obtain ⟨u, rfl, ru⟩ := vals1 r1
  cases ru
  obtain ⟨i1, _, pl, _⟩ := I1.tuple hx
  have l1 : x < s1.heap.objs.size := by obtain ⟨_, e, _⟩ := pl; exact Heap.lt_size e
  refine call_enumT pl fun h' he hi keep => ?_
  refine wpAny_pyIter_enum he ?_
  have I2 : Inv X pins σ H1 { s1 with heap := h' } := I1.kept (t' := s1.toks) keep
  have l1' : @LT.lt Nat _ x s1.heap.objs.size := l1
  refine ⟨_, [s1.heap.objs.size + 1, s1.heap.objs.size], _, _, H1, rfl, I2, turn_enumT (by intro z; have z' : @Eq Nat _ _ := z; omega) (by intro z; have z' : @Eq Nat _ _ := z; omega) (by intro z; have z' : @Eq Nat _ _ := z; omega), ⟨⟨_, he⟩, hi⟩, fun c hc => ?_, q⟩
  have hle : s1.heap.objs.size ≤ c := by
    simp only [List.mem_cons, List.not_mem_nil, or_false] at hc
    rcases hc with e | e <;> (have e' : @Eq Nat _ _ := e; show @LE.le Nat _ s1.heap.objs.size c; omega)
  exact I1.fpOk hle (I1.hok.fresh hle)
end
/-! ### loops over it -/
section
variable {g : TG} {tb : TS} {D : Ends} {σ : St} {H : Hp}
theorem for_enum {k : Nat} {G : Hp → List V → Prop} {xs : List V} (Pv : Nat → St → Hp → Prop) (h0 : Pv 0 σ H) (hl : ∀ i σ H, i ≤ xs.length → Pv i σ H → G H xs)
    (hs : ∀ i x σ H T, xs[i]? = some x → Pv i σ H → H T = none → g (.ref T) σ (upd H T (.tup [.int ((i + k : Nat) : Int), x])) fun σ2 H2 => tb { D with nx := Pv (i + 1), ct := Pv (i + 1), bk := D.nx } σ2 H2) (hd : ∀ σ H, Pv xs.length σ H → D.nx σ H) :
    ∃ W : Nat → Nat → St → Hp → Prop, (∃ m, W 0 m σ H) ∧ ∀ i m σ H, W i m σ H →
      ((Ite' k G).stop i H ∧ D.nx σ H) ∨ ((Ite' k G).go i H ∧ ∃ N : St → Hp → Prop, (∀ σ' H', N σ' H' → ∃ m', m' < m ∧ W (i + 1) m' σ' H') ∧ ∀ x H', (Ite' k G).yld i H x H' → g x σ H' fun σ2 H2 => tb { D with nx := N, ct := N, bk := D.nx } σ2 H2) := by
  refine ⟨fun i m σ H => m = xs.length - i ∧ i ≤ xs.length ∧ Pv i σ H, ⟨xs.length, by simp, Nat.zero_le _, h0⟩, ?_⟩
  rintro i m σ H ⟨rfl, hi, p⟩
  have q := hl i σ H hi p
  by_cases hlt : i < xs.length
  · have hx : xs[i]? = some xs[i] := List.getElem?_eq_getElem hlt
    refine .inr ⟨⟨xs, _, q, hx⟩, Pv (i + 1), fun σ' H' p' => ⟨xs.length - (i + 1), by omega, rfl, hlt, p'⟩, ?_⟩
    rintro v H' ⟨T, rfl, hT, heq⟩
    have e := heq xs _ q hx
    subst e
    exact hs i _ σ H T hx p hT
  · have e : i = xs.length := by omega
    subst e
    exact .inl ⟨⟨xs, q, rfl⟩, hd σ H p⟩
theorem tFor_enumT {K : PySem.W.Frag} {ta : TA} {a : Addr} {xs : List V} (Pv : Nat → St → Hp → Prop) (ha : ∀ R : List V → Hp → Prop, R [.ref a] H → ta σ H R) (h0 : Pv 0 σ H) (hl : ∀ i σ H, i ≤ xs.length → Pv i σ H → SqT K H a xs)
    (hs : ∀ i x σ H T, xs[i]? = some x → Pv i σ H → H T = none → g (.ref T) σ (upd H T (.tup [.int (i : Int), x])) fun σ2 H2 => tb { D with nx := Pv (i + 1), ct := Pv (i + 1), bk := D.nx } σ2 H2) (hd : ∀ σ H, Pv xs.length σ H → D.nx σ H) : tFor (iEnumT K ta) g tb D σ H := by
  refine ha _ ⟨a, xs, rfl, hl 0 σ H (Nat.zero_le _) h0, ?_⟩
  exact for_enum Pv h0 hl (fun i x σ H T hx p hT => hs i x σ H T hx p hT) hd
end
end L2
namespace L2
open PySem PySem.Spec PyProof.Rows
/-! ### enumerate(xs, start=1) -/
section
variable {prog : Program} {w : World} {A : Around} {E : Value → Shared → Prop} {s : Shared}
open AutoSeq1 (wpAny_loadPart') in
end
end L2
namespace L2
open PySem PySem.Spec PyProof.Rows
section
variable {X : Cx} {elts : List Expr} {kk : Nat} {tpos : Pos}
def iEnum1 (K : PySem.W.Frag) (ta : TA) : TI := fun σ H R => ta σ H fun vs H1 => ∃ a xs, vs = [.ref a] ∧ SqL K H1 a xs ∧ R (Ite' 1 fun H xs => SqL K H a xs) H1
end
section
variable {g : TG} {tb : TS} {D : Ends} {σ : St} {H : Hp}
end
/-! ### range(a, b, c), c above 0 -/
section
variable {X : Cx} {tg : Expr}
/-- lo, lo + c, .., n of them -/
def Itu (lo c : Int) (n : Nat) : It := ⟨fun i _ => i < n, fun i H v H' => v = .int (lo + i * c) ∧ H' = H, fun i _ => n ≤ i⟩
def iRngU (ta : TA) : TI := fun σ H R => ta σ H fun vs H1 => ∃ i j c : Int, vs = [.int i, .int j, .int c] ∧ (-(2 ^ 60) ≤ i ∧ i < 2 ^ 60 ∧ -(2 ^ 60) ≤ j ∧ j < 2 ^ 60 ∧ 0 < c ∧ c < 2 ^ 29) ∧ R (Itu i c (Builtin.Range.rangeSize i j c).toNat) H1
end
end L2
namespace L2
open PySem PySem.Spec PyProof.Rows
/-! ### an exception that was caught by a name: a thing of the heap -/
def ExcO (a : Addr) (cls : Value) : HO := .ext fun h => ∃ o vs, h.get? a = some o ∧ o.cls = cls ∧ o.data = .fields vs
section
variable {P : Program} {w : World} {l : List Env} {H H' : Hp} {h h' h'' B : Heap} {a e : Addr} {cls : Value} {o : HO}
end
section
variable {X : Cx} {pins : List (Addr × Obj)} {σ : St} {H H' H1 : Hp} {s s1 s' : Shared}
end
/-- behind an except clause by a name: the name stands for nothing -/
def Ends.gone (D : Ends) (j : Nat) : Ends := { nx := fun σ H => D.nx (σ.set j none) H, rt := D.rt, bk := fun σ H => D.bk (σ.set j none) H, ct := fun σ H => D.ct (σ.set j none) H }
section
variable {X : Cx} {pins : List (Addr × Obj)} {σ : St} {H H' H1 : Hp} {s s1 s' : Shared} {e : Value} {D : Ends} {ts : TS} {b₀ : Stmt} {suite : List Stmt} {c n : Str} {cv : Value} {cp hpos : Pos} {j : Nat}
end
end L2
namespace L2
open PySem PySem.Spec PyProof.Rows
/-! ### try by a name; a def that is called within an except suite -/
def tTryAs (K : PySem.W.Frag) (cv : Value) (sp : Sp) (t : TA) (i j : Nat) (ts : TS) : TS := fun D σ H => t σ H fun vs H1 => sp (vs ++ []) H1 (fun v H2 => D.nx (σ.set i (some v)) H2) (fun cls _ H2 => PySem.W.exmOne K cls cv = some true ∧ ∀ a, H2 a = none → ts (D.gone j) (σ.set j (some (.ref a))) (upd H2 a (ExcO a cls)))
section
variable {g : Gx} {X : Cx} {k jj i j : Nat} {x f c n : Str} {ps : List Str} {sp : Sp} {e : Expr} {es : List Expr} {t : TA} {ts : TS} {b₀ : Stmt} {suite : List Stmt} {cv : Value} {fp px cp hpos apos cpos pos : Pos}
end
/-- room, whatever is handled -/
structure RoomM (k : Nat) (A : Around) : Prop where
  dp : A.depth + 3 * k + 5 < recursionLimit
  un : A.units + 16 * k + 200 < cLine
structure FnOkM (P : Program) (w : World) (K : PySem.W.Frag) (mg : Str → Option Value) (base : Heap) (k : Nat) (f : Addr) (fd : FuncData) (ps : List Str) (sp : Sp) : Prop where
  len : ∀ vs H Q E, sp vs H Q E → vs.length = ps.length
  run : ∀ (A : Around) (outer : List Env) (s : Shared) (H : Hp) (args : Args) (us : List Value) (vs : List V) (Q : VK) (E : XK), RoomM k A → Env0 P w K mg base A outer s H → BindsTo s fd args (ps.zip us) → Vals vs us → sp vs H Q E →
    codeAny (model P w) A (.call (.ref f) args) (CR CX0 outer P w H s Q E) s
def Gx.FnM (g : Gx) (k : Nat) (x : Str) (ps : List Str) (sp : Sp) : Prop := ∃ f fd, FnOkM g.P g.w g.K g.mg g.base k f fd ps sp ∧ Binds g.K fd ps [] ∧ PySem.W.keepIn g.K (.ref f) = true ∧ g.mg x = some (.ref f)
abbrev Gx.cxM (g : Gx) (N : List Str) (qual : Str) (st : Stmt) (f : Addr) (cdv : Value) (A : Around) (outer : List Env) (s : Shared) (H : Hp) (E : XK) : Cx := { cxOf CX0 g.P g.w g.K g.mg g.base N qual (defScope st) f cdv A outer s H E with calm := false, xe := fun _ _ => False }
def BodyM (g : Gx) (k : Nat) (N : List Str) (qual : Str) (st : Stmt) (sp : Sp) : Prop := ∀ (f : Addr) (cdv : Value) (A : Around) (outer : List Env) (s : Shared) (H : Hp) (vs : List V) (Q : VK) (E : XK), RoomM k (g.cxM N qual st f cdv A outer s H E).A → sp vs H Q E →
  ∃ t, PSs (g.cxM N qual st f cdv A outer s H E) (defBody st) t ∧ t { nx := fun _ H' => Q .non H', rt := Q } (start N vs) H
section
variable {g : Gx} {k : Nat} {x qual : Str} {st : Stmt} {N ps : List Str} {sp : Sp}
end
section
variable {g : Gx} {X : Cx} {k j : Nat} {x : Str} {ps : List Str} {sp : Sp} {e : Expr} {es : List Expr} {t : TA} {p pos : Pos}
end
end L2
namespace PySem.W
open PySem PySem.Calls PyProof.Rows Builtin Builtin.ObjectAttr Builtin.Getset_descriptor
section
variable {prog : Program} {w : World} {A : Around} {E : Value → Shared → Prop} {K : Frag} {x C : Addr} {ox : Obj} {hh : Heap} {g : Array GenState} {d : Drawn} {t : Nat} {os : OsState}
end
end PySem.W
namespace L2
open PySem PySem.Spec PyProof.Rows
/-- what the text's exception class has from its line -/
structure ExcT (K : PySem.W.Frag) (C : Addr) : Prop where
  hd : PySem.W.hasDictIn K C = true
  hm : PySem.W.mroIn K C (.type "object") = some true
  hb : PySem.W.mroIn K C (.type "BaseException") = some true
  ha : PySem.W.findIn K (.ref C) "__class__" = some (some (.builtin "object.__class__"))
  hga : PySem.W.findIn K (.ref C) "__getattribute__" = some (some (.builtin "BaseException.__getattribute__"))
  hgt : PySem.W.findIn K (.ref C) "__getattr__" = some none
section
variable {X : Cx}
end
theorem caught_K {X : Cx} {a : Addr} : (X.caught a).K = X.K := rfl
end L2
namespace L2
open PySem PySem.Spec PyProof.Rows
theorem noattr_mk {K : PySem.W.Frag} {C : Addr} {f : Str} (h : PySem.W.findIn K (.ref C) f = some none) : NoAttr K C f := h
end L2
namespace L2
open PySem PySem.Spec PyProof.Rows
section
variable {src : List (Option Nat)} {te : TE} {σ : St} {H : Hp} {Q : VK}
end
end L2
namespace L2
open PySem PySem.Spec PyProof.Rows
section
variable {X : Cx}
end
end L2
namespace L2
open PySem PySem.Spec PyProof.Rows
section
variable {src : List (Option Nat)} {te : TE} {σ : St} {H : Hp} {Q : VK}
end
end L2
namespace L2
open PySem PySem.Spec PyProof.Rows
/-! the script itself as a list that + may read -/
def SqX (K : PySem.W.Frag) (H : Hp) (a : Addr) (xs : List V) : Prop := Rd H a (.lst xs) ∨ ∃ (its : Array Value) (n : Nat), K.lookup a = some { cls := .type "list", data := .seq its n } ∧ its.size ≤ sizeLine ∧ Vals xs its.toList
section
variable {X : Cx}
def rCatX (K : PySem.W.Frag) : R2 := fun x y H Q => ∃ l b xs zs, x = .ref l ∧ y = .ref b ∧ SqX K H l xs ∧ SqX K H b zs ∧ xs.length + zs.length ≤ sizeLine ∧ ∀ p, H p = none → Q (.ref p) (upd H p (.lst (xs ++ zs)))
end
def spTrueX (K : PySem.W.Frag) : Sp := fun vs H Q _ => ∃ (a : Addr) (ns : List Int), vs = [.ref a] ∧ SqX K H a (ns.map V.int) ∧ ns.length ≤ 63 ∧ ∀ H', Q (.bl true) H'
end L2
namespace L2
open PySem PySem.Spec PyProof.Rows
/-! defs as values: a def's name as an argument, a call of what a name of one's own holds -/
def Gx.FnV (g : Gx) (k : Nat) (f : Addr) (ps : List Str) (sp : Sp) : Prop := ∃ fd, FnOk g.P g.w g.K g.mg g.base CX0 k f fd ps sp ∧ Binds g.K fd ps [] ∧ PySem.W.keepIn g.K (.ref f) = true
def tFn (g : Gx) (k : Nat) (ps : List Str) (sp : Sp) : TE := fun _ H Q => ∀ f, g.FnV k f ps sp → Q (.ref f) H
def tCallV (g : Gx) (k i : Nat) (t : TA) : TE := fun σ H Q => ∃ f ps sp, σ[i]? = some (some (.ref f)) ∧ g.FnV k f ps sp ∧ t σ H fun vs H1 => sp vs H1 Q E0
section
variable {X : Cx} {g : Gx} {k j i : Nat} {x : Str} {ps : List Str} {sp : Sp} {p pos : Pos} {e : Expr} {es : List Expr} {t : TA}
end
/-! the arguments of a call, one by one: for tuples and lists, said once (by rfl at the place it costs minutes) -/
end L2
namespace L2
open PySem PySem.Spec PyProof.Rows
/-! isinstance(x, (T, U)); comprehensions over the pairs of two lists, two tuples, either -/
section
variable {X : Cx} {pins : List (Addr × Obj)} {σ : St} {H : Hp} {s : Shared} {A : Around} {E Q : Value → Shared → Prop}
end
section
variable {X : Cx}
end
section
variable {src : List (Option Nat)} {te : TE} {σ : St} {Q : VK}
theorem lc_zip {K : PySem.W.Frag} {G1 G2 : Hp → List V → Prop} {xs ys : List V} {H1 : Hp} {D : Addr} (zs : List V) (g1 : ∀ H', Same H1 H' → G1 H' xs) (g2 : ∀ H', Same H1 H' → G2 H' ys) (hD : H1 D = none) (hxy : xs.length = ys.length) (hl : zs.length = xs.length) (hlen : xs.length ≤ 100000)
    (step : ∀ (i : Nat) x y z H', xs[i]? = some x → ys[i]? = some y → zs[i]? = some z → Same H1 H' → ∀ R : VK, (∀ H'', Same H' H'' → R z H'') → te (some x :: some y :: capSt src σ) H' R)
    (fin : ∀ H', Same H1 H' → H' D = some (.lst zs) → Q (.ref D) H') : LC (none :: none :: src) (Itz G1 G2) (gTup K 2 (gCons (gName 0) (gCons (gName 1) gNil))) tYes te σ H1 Q D := by
  have h6 : 100000 < sizeLine := by decide
  refine lc_gen_on (J := Itz G1 G2) (n := xs.length) (P := fun H' => Same H1 H') (fun i H' sm hi => ⟨xs, ys, xs[i], ys[i], g1 _ sm, g2 _ sm, List.getElem?_eq_getElem hi, List.getElem?_eq_getElem (by omega)⟩) (fun H' sm => ⟨xs, ys, g1 _ sm, g2 _ sm, by omega⟩)
    (fun i ws σ' H' => ws = zs.take i ∧ (∃ o o', σ' = o :: o' :: capSt src σ) ∧ Same H1 H' ∧ H' D = some (.lst ws)) ⟨by simp, ⟨none, none, rfl⟩, .upd_new hD _, upd_same⟩ (fun i ws σ' H' p => ⟨p.2.2.1, p.2.2.2⟩) (gTup2_mono' K 0 1) ?_ ?_
  · rintro i ws σ' H' hi ⟨rfl, ⟨o, o', rfl⟩, sm, hd⟩ x H3 ⟨T, rfl, hT, heq⟩
    have hx : xs[i]? = some xs[i] := List.getElem?_eq_getElem hi
    have hy : ys[i]? = some (ys[i]'(by omega)) := List.getElem?_eq_getElem _
    have hz : zs[i]? = some (zs[i]'(by omega)) := List.getElem?_eq_getElem _
    have e3 := heq xs ys _ _ (g1 _ sm) (g2 _ sm) hx hy
    subst e3
    have s3 : Same H' (upd H' T (.tup [xs[i], ys[i]'(by omega)])) := .upd_new hT _
    refine ⟨T, _, rfl, SqT.of upd_same, rfl, _, _, rfl, _, _, rfl, rfl, ?_⟩
    show te (some xs[i] :: some (ys[i]'(by omega)) :: capSt src σ) _ _
    refine step i _ _ _ _ hx hy hz (sm.trans s3) _ fun H'' s2 => ⟨s2 _ _ (s3 _ _ hd), ?_, (take_snoc hz).symm, ⟨_, _, rfl⟩, .upd_over hD ((sm.trans s3).trans s2) _, upd_same⟩
    rw [List.length_take]; omega
  · rintro ws σ' H' ⟨rfl, _, sm, hd⟩
    rw [← hl, List.take_length] at hd
    exact fin H' sm hd
variable {X : Cx} {H : Hp}
/-- an iteration over either of two kinds -/
def iOr (a b : TI) : TI := fun σ H R => a σ H R ∨ b σ H R
theorem tLC_zipL {K : PySem.W.Frag} {ta : TA} {xs ys : List V} {a b : Addr} (zs : List V) (ha : ∀ R : List V → Hp → Prop, R [.ref a, .ref b] H → ta σ H R) (h1 : SqL K H a xs) (h2 : SqL K H b ys) (hxy : xs.length = ys.length) (hl : zs.length = xs.length) (hlen : xs.length ≤ 100000)
    (step : ∀ (i : Nat) x y z H', xs[i]? = some x → ys[i]? = some y → zs[i]? = some z → Same H H' → ∀ R : VK, (∀ H'', Same H' H'' → R z H'') → te (some x :: some y :: capSt src σ) H' R)
    (fin : ∀ D H', H D = none → Same H H' → H' D = some (.lst zs) → Q (.ref D) H') : tLC (none :: none :: src) (iZipL K ta) (gTup K 2 (gCons (gName 0) (gCons (gName 1) gNil))) tYes te σ H Q :=
  ha _ ⟨a, b, xs, ys, rfl, h1, h2, fun D hD => lc_zip zs (fun H' sm => sm.seq h1) (fun H' sm => sm.seq h2) hD hxy hl hlen step fun H' => fin D H' hD⟩
end
end L2
namespace L2
open PySem PySem.Spec PyProof.Rows
/-! ### < of data: ints and tuples of them, to any depth -/
mutual
/-- d < e, of which this is the answer -/
inductive LtR : PyData → PyData → Bool → Prop
  | int (i j : Int) : LtR (.int i) (.int j) (decide (i < j))
  | tup {ds es : List PyData} {b : Bool} : LtA ds es b → LtR (.tuple ds) (.tuple es) b
inductive LtA : List PyData → List PyData → Bool → Prop
  | nn : LtA [] [] false
  | nc {e : PyData} {es : List PyData} : LtA [] (e :: es) true
  | cn {d : PyData} {ds : List PyData} : LtA (d :: ds) [] false
  | eq {d e : PyData} {ds es : List PyData} {b : Bool} : PyData.eqv d e = true → LtA ds es b → LtA (d :: ds) (e :: es) b
  | ne {d e : PyData} {ds es : List PyData} {b : Bool} : PyData.eqv d e = false → LtR d e b → LtA (d :: ds) (e :: es) b
end
def LtAt (A : Around) (s : Shared) (u v : Value) (b : Bool) : Prop := ∀ (prog : Program) (w : World) (E : Value → Shared → Prop) (Q : Value → Shared → Prop), Q (.bool b) s → wpAny (model prog w) A (richCompare .Lt u v) Q E s
section
open PySem.SeqAt
open PySem.AutoSeq1 (wpAny_loadPart')
open PySem.MeetsSeq PySem.MeetsSeq2 PySem.MeetsSeq3
/-- pairs of items: equal by the data, or comparable -/
inductive Two (A : Around) (s : Shared) : List Value → List Value → Bool → Prop
  | nn : Two A s [] [] false
  | nc {v : Value} {vs : List Value} : Two A s [] (v :: vs) true
  | cn {v : Value} {vs : List Value} : Two A s (v :: vs) [] false
  | eq {u v : Value} {us vs : List Value} {b : Bool} : EqAt A s u v true → Two A s us vs b → Two A s (u :: us) (v :: vs) b
  | ne {u v : Value} {us vs : List Value} {b : Bool} : EqAt A s u v false → LtAt A s u v b → Two A s (u :: us) (v :: vs) b
variable {X : Cx}
end
end L2
namespace L2
open PySem PySem.Spec PyProof.Rows
/-! ### <= of data: ints and tuples of them, to any depth -/
mutual
/-- d <= e, of which this is the answer -/
inductive LeR : PyData → PyData → Bool → Prop
  | int (i j : Int) : LeR (.int i) (.int j) (decide (i ≤ j))
  | tup {ds es : List PyData} {b : Bool} : LeA ds es b → LeR (.tuple ds) (.tuple es) b
inductive LeA : List PyData → List PyData → Bool → Prop
  | nn : LeA [] [] true
  | nc {e : PyData} {es : List PyData} : LeA [] (e :: es) true
  | cn {d : PyData} {ds : List PyData} : LeA (d :: ds) [] false
  | eq {d e : PyData} {ds es : List PyData} {b : Bool} : PyData.eqv d e = true → LeA ds es b → LeA (d :: ds) (e :: es) b
  | ne {d e : PyData} {ds es : List PyData} {b : Bool} : PyData.eqv d e = false → LeR d e b → LeA (d :: ds) (e :: es) b
end
def LeAt (A : Around) (s : Shared) (u v : Value) (b : Bool) : Prop := ∀ (prog : Program) (w : World) (E : Value → Shared → Prop) (Q : Value → Shared → Prop), Q (.bool b) s → wpAny (model prog w) A (richCompare .LtE u v) Q E s
section
open PySem.SeqAt
open PySem.AutoSeq1 (wpAny_loadPart')
open PySem.MeetsSeq PySem.MeetsSeq2 PySem.MeetsSeq3
/-- pairs of items: equal by the data, or comparable -/
inductive TwoE (A : Around) (s : Shared) : List Value → List Value → Bool → Prop
  | nn : TwoE A s [] [] true
  | nc {v : Value} {vs : List Value} : TwoE A s [] (v :: vs) true
  | cn {v : Value} {vs : List Value} : TwoE A s (v :: vs) [] false
  | eq {u v : Value} {us vs : List Value} {b : Bool} : EqAt A s u v true → TwoE A s us vs b → TwoE A s (u :: us) (v :: vs) b
  | ne {u v : Value} {us vs : List Value} {b : Bool} : EqAt A s u v false → LeAt A s u v b → TwoE A s (u :: us) (v :: vs) b
variable {X : Cx}
variable {K : PySem.W.Frag}
end
end L2
namespace L2
open PySem
/-! keys: ints and tuples of keys; their order -/
mutual
inductive KD : PyData → Prop
  | int (i : Int) : KD (.int i)
  | tup {ds : List PyData} : KDs ds → KD (.tuple ds)
inductive KDs : List PyData → Prop
  | nil : KDs []
  | cons {d : PyData} {ds : List PyData} : KD d → KDs ds → KDs (d :: ds)
end
mutual
/-- the order of keys, ints ahead of tuples -/
inductive KLt : PyData → PyData → Prop
  | int {i j : Int} : i < j → KLt (.int i) (.int j)
  | mix {i : Int} {ds : List PyData} : KLt (.int i) (.tuple ds)
  | tup {ds es : List PyData} : KLs ds es → KLt (.tuple ds) (.tuple es)
inductive KLs : List PyData → List PyData → Prop
  | nil {e : PyData} {es : List PyData} : KLs [] (e :: es)
  | here {d e : PyData} {ds es : List PyData} : KLt d e → KLs (d :: ds) (e :: es)
  | there {d : PyData} {ds es : List PyData} : KLs ds es → KLs (d :: ds) (d :: es)
end
/-! where < answers, it answers by the order -/
/-! two keys that < can be asked of: of one make where they first differ -/
mutual
inductive Sim : PyData → PyData → Prop
  | int (i j : Int) : Sim (.int i) (.int j)
  | tup {ds es : List PyData} : Sims ds es → Sim (.tuple ds) (.tuple es)
inductive Sims : List PyData → List PyData → Prop
  | nil {es : List PyData} : Sims [] es
  | end_ {ds : List PyData} : Sims ds []
  | cons {d e : PyData} {ds es : List PyData} : Sim d e → (d = e → Sims ds es) → Sims (d :: ds) (e :: es)
end
end L2
namespace L2
open PySem
section
variable {src : List (Option Nat)} {te : TE} {σ : St} {H : Hp} {Q : VK}
/-- a comprehension whose things keep a promise each, apart from its own list -/
theorem lc_relD {J : It} {P : Hp → Prop} {xs : List V} (hJ : ItSeq J P xs) {H1 : Hp} {D : Addr} (Rl : Nat → V → Hp → Prop) (st : ∀ i y H H', Rl i y H → Same H H' → Rl i y H') (su : ∀ i y H zs zs', Rl i y H → H D = some (.lst zs) → Rl i y (upd H D (.lst zs')))
    (hP : ∀ H', Same H1 H' → P H') (hD : H1 D = none) (hlen : xs.length ≤ 100000)
    (step : ∀ (i : Nat) x H' zs, xs[i]? = some x → Same H1 H' → H' D = some (.lst zs) → ∀ R : VK, (∀ y H'', Same H' H'' → Rl i y H'' → R y H'') → te (some x :: capSt src σ) H' R)
    (fin : ∀ (ys : List V) H', Same H1 H' → H' D = some (.lst ys) → ys.length = xs.length → (∀ (j : Nat) y, ys[j]? = some y → Rl j y H') → Q (.ref D) H') : LC (none :: src) J (gName 0) tYes te σ H1 Q D := by
  have h6 : 100000 < sizeLine := by decide
  refine lc_on hJ (fun i zs σ' H' => zs.length = i ∧ (∃ o, σ' = o :: capSt src σ) ∧ Same H1 H' ∧ H' D = some (.lst zs) ∧ ∀ (j : Nat) y, zs[j]? = some y → Rl j y H')
    ⟨rfl, ⟨none, rfl⟩, .upd_new hD _, upd_same, fun j y h => by simp at h⟩ (fun i zs σ' H' ⟨_, _, p1, p2, _⟩ => ⟨hP _ p1, p2⟩) (gName_mono 0) ?_ ?_
  · rintro i zs σ' H' x hx ⟨hi', ⟨o, rfl⟩, sm, hd, hts⟩
    have hi := (List.getElem?_eq_some_iff.mp hx).1
    show te (some x :: capSt src σ) H' _
    refine step i x H' zs hx sm hd _ fun y H'' s2 hy => ⟨s2 _ _ hd, by omega, by simp [hi'], ⟨_, rfl⟩, .upd_over hD (sm.trans s2) _, upd_same, fun j z hj => su _ _ _ _ _ ?_ (s2 _ _ hd)⟩
    rcases Nat.lt_trichotomy j zs.length with h1 | h1 | h1
    · rw [List.getElem?_append_left h1] at hj
      exact st _ _ _ _ (hts j z hj) s2
    · have hb : y = z := by subst h1; simpa using hj
      subst hb
      rw [h1, hi']
      exact hy
    · rw [List.getElem?_eq_none (by rw [List.length_append, List.length_singleton]; omega)] at hj; cases hj
  · rintro zs σ' H' ⟨hn, _, sm, hd, hts⟩
    exact fin zs H' sm hd hn hts
theorem tLC_relD {K : PySem.W.Frag} {tl : TE} {xs : List V} {b : Addr} (Rl : Addr → Nat → V → Hp → Prop) (st : ∀ D i y H H', Rl D i y H → Same H H' → Rl D i y H') (su : ∀ D i y H zs zs', Rl D i y H → H D = some (.lst zs) → Rl D i y (upd H D (.lst zs')))
    (ha : ∀ R : V → Hp → Prop, R (.ref b) H → tl σ H R) (hS : SqL K H b xs) (hlen : xs.length ≤ 100000)
    (step : ∀ D (i : Nat) x H' zs, xs[i]? = some x → Same H H' → H' D = some (.lst zs) → ∀ R : VK, (∀ y H'', Same H' H'' → Rl D i y H'' → R y H'') → te (some x :: capSt src σ) H' R)
    (fin : ∀ D (ys : List V) H', H D = none → Same H H' → H' D = some (.lst ys) → ys.length = xs.length → (∀ (j : Nat) y, ys[j]? = some y → Rl D j y H') → Q (.ref D) H') : tLC (none :: src) (iList K tl) (gName 0) tYes te σ H Q :=
  ha _ ⟨b, rfl, ⟨xs, hS⟩, fun D hD => lc_relD (itseq_list.imp fun H' (e : Same H H') => e.seq hS) (Rl D) (st D) (su D) (fun _ e => e) hD hlen (fun i x H' zs hx sm hd R r => step D i x H' zs hx sm hd R r) fun ys H' sm => fin D ys H' hD sm⟩
/-- a comprehension over range(n) whose things keep a promise each -/
theorem tLC_rangeR {ta : TA} {n : Nat} (Rl : Nat → V → Hp → Prop) (st : ∀ i y H H', Rl i y H → Same H H' → Rl i y H') (su : ∀ i y H p zs zs', Rl i y H → H p = some (.lst zs) → Rl i y (upd H p (.lst zs'))) (ha : ∀ R : List V → Hp → Prop, R [.int n] H → ta σ H R) (hlen : n ≤ 100000)
    (step : ∀ (i : Nat) H', i < n → Same H H' → ∀ R : VK, (∀ y H'', Same H' H'' → Rl i y H'' → R y H'') → te (some (.int i) :: capSt src σ) H' R)
    (fin : ∀ D (ys : List V) H', H D = none → Same H H' → H' D = some (.lst ys) → ys.length = n → (∀ (j : Nat) y, ys[j]? = some y → Rl j y H') → Q (.ref D) H') : tLC (none :: src) (iRng1 ta) (gName 0) tYes te σ H Q := by
  refine ha _ ⟨n, rfl, by omega, by omega, fun D hD => ?_⟩
  refine lc_rel (itseq_range (lo := 0) (n := n) (P := fun _ => True)) Rl st su (fun _ _ => trivial) hD (by simpa using hlen) (fun i x H' hx sm R r => ?_) fun ys H' sm hd hl hr => fin D ys H' hD sm hd (by simpa using hl) hr
  have hi : i < n := by have := (List.getElem?_eq_some_iff.mp hx).1; simpa using this
  rw [List.getElem?_map, List.getElem?_range hi] at hx
  have e : V.int (0 + (i : Int)) = x := Option.some.inj hx
  rw [Int.zero_add] at e
  subst e
  exact step i H' hi sm R r
end
end L2
namespace L2
open PySem
/-! values with the lists that stand in them, in their order -/
mutual
inductive VL (H : Hp) : V → PyData → List Addr → Prop
  | int (i : Int) : VL H (.int i) (.int i) []
  | str (x : Str) (h : PyData.strOk x = true) : VL H (.str x) (.str x) []
  | lst {a : Addr} {vs : List V} {ds : List PyData} {L : List Addr} : H a = some (.lst vs) → vs.length ≤ 10000 → VLs H vs ds L → VL H (.ref a) (.list ds) (a :: L)
  | tup {a : Addr} {vs : List V} {ds : List PyData} {L : List Addr} : H a = some (.tup vs) → vs.length ≤ 10000 → VLs H vs ds L → VL H (.ref a) (.tuple ds) L
inductive VLs (H : Hp) : List V → List PyData → List Addr → Prop
  | nil : VLs H [] [] []
  | cons {v : V} {d : PyData} {L : List Addr} {vs : List V} {ds : List PyData} {L' : List Addr} : VL H v d L → VLs H vs ds L' → VLs H (v :: vs) (d :: ds) (L ++ L')
end
/-- tuples stay -/
def Tps (H H' : Hp) : Prop := ∀ a vs, H a = some (.tup vs) → H' a = some (.tup vs)
theorem Same.tps {H H' : Hp} (s : Same H H') : Tps H H' := fun a vs h => s a _ h
theorem Tps.upd_lst {H : Hp} {p : Addr} {xs ys : List V} (h : H p = some (.lst xs)) : Tps H (upd H p (.lst ys)) := fun a vs ha => by
  rw [upd_ne (ne_of ha h (by intro z; cases z))]; exact ha
mutual
theorem VL.keepL {H H' : Hp} (t : Tps H H') : ∀ {v : V} {d : PyData} {L : List Addr}, VL H v d L → (∀ a ∈ L, ∀ vs, H a = some (.lst vs) → H' a = some (.lst vs)) → VL H' v d L
  | _, _, _, .int i, _ => .int i
  | _, _, _, .str x h, _ => .str x h
  | _, _, _, .lst h hn hs, e => .lst (e _ (.head _) _ h) hn (hs.keepL t fun a ha => e a (.tail _ ha))
  | _, _, _, .tup h hn hs, e => .tup (t _ _ h) hn (hs.keepL t e)
theorem VLs.keepL {H H' : Hp} (t : Tps H H') : ∀ {vs : List V} {ds : List PyData} {L : List Addr}, VLs H vs ds L → (∀ a ∈ L, ∀ vs, H a = some (.lst vs) → H' a = some (.lst vs)) → VLs H' vs ds L
  | _, _, _, .nil, _ => .nil
  | _, _, _, .cons h hs, e => .cons (h.keepL t fun a ha => e a (List.mem_append_left _ ha)) (hs.keepL t fun a ha => e a (List.mem_append_right _ ha))
end
theorem VL.keep {H H' : Hp} {v : V} {d : PyData} {L : List Addr} (h : VL H v d L) (s : Same H H') : VL H' v d L := h.keepL s.tps fun a _ vs e => s _ _ e
theorem VLs.keep {H H' : Hp} {vs : List V} {ds : List PyData} {L : List Addr} (h : VLs H vs ds L) (s : Same H H') : VLs H' vs ds L := h.keepL s.tps fun a _ vs e => s _ _ e
mutual
theorem VL.mem {H : Hp} : ∀ {v : V} {d : PyData} {L : List Addr}, VL H v d L → ∀ a ∈ L, ∃ vs, H a = some (.lst vs) ∧ vs.length ≤ 10000
  | _, _, _, .lst (a := b) h hn hs, a, ha => by
    rcases List.mem_cons.mp ha with e | ha
    · subst e; exact ⟨_, h, hn⟩
    · exact hs.mem a ha
  | _, _, _, .tup h hn hs, a, ha => hs.mem a ha
theorem VLs.mem {H : Hp} : ∀ {vs : List V} {ds : List PyData} {L : List Addr}, VLs H vs ds L → ∀ a ∈ L, ∃ vs, H a = some (.lst vs) ∧ vs.length ≤ 10000
  | _, _, _, .cons h hs, a, ha => by
    rcases List.mem_append.mp ha with ha | ha
    · exact h.mem a ha
    · exact hs.mem a ha
end
mutual
theorem VL.den {K : PySem.W.Frag} {H : Hp} : ∀ {v : V} {d : PyData} {L : List Addr}, VL H v d L → Den K H v d
  | _, _, _, .int i => .int i
  | _, _, _, .str x h => .str x h
  | _, _, _, .lst h _ hs => .lst (SqL.of h) hs.den
  | _, _, _, .tup h _ hs => .tup (SqT.of h) hs.den
theorem VLs.den {K : PySem.W.Frag} {H : Hp} : ∀ {vs : List V} {ds : List PyData} {L : List Addr}, VLs H vs ds L → Dens K H vs ds
  | _, _, _, .nil => .nil
  | _, _, _, .cons h hs => .cons h.den hs.den
end
theorem VLs.length {H : Hp} : ∀ {vs : List V} {ds : List PyData} {L : List Addr}, VLs H vs ds L → vs.length = ds.length
  | _, _, _, .nil => rfl
  | _, _, _, .cons _ hs => congrArg (· + 1) hs.length
theorem VLs.at {H : Hp} : ∀ {vs : List V} {ds : List PyData} {L : List Addr} {i : Nat} {v : V}, VLs H vs ds L → vs[i]? = some v → ∃ d L', ds[i]? = some d ∧ VL H v d L'
  | _, _, _, 0, v, .cons a _, h => by
    have : _ = v := Option.some.inj h
    subst this
    exact ⟨_, _, rfl, a⟩
  | _, _, _, i + 1, v, .cons _ b, h => b.at (i := i) h
theorem VLs.append {H : Hp} {vs' : List V} {ds' : List PyData} {L' : List Addr} : ∀ {vs : List V} {ds : List PyData} {L : List Addr}, VLs H vs ds L → VLs H vs' ds' L' → VLs H (vs ++ vs') (ds ++ ds') (L ++ L')
  | _, _, _, .nil, h => h
  | _, _, _, .cons a b, h => by rw [List.append_assoc]; exact .cons a (b.append h)
theorem VL.one {H : Hp} {v : V} {d : PyData} {L : List Addr} (h : VL H v d L) : VLs H [v] [d] L := by
  have := VLs.cons h .nil
  rwa [List.append_nil] at this
/-- its lists are all new, each but once -/
structure Own (H0 H : Hp) (v : V) (d : PyData) (L : List Addr) : Prop where
  vl : VL H v d L
  nd : L.Nodup
  new : ∀ a ∈ L, H0 a = none
structure Owns (H0 H : Hp) (vs : List V) (ds : List PyData) (L : List Addr) : Prop where
  vl : VLs H vs ds L
  nd : L.Nodup
  new : ∀ a ∈ L, H0 a = none
/-- something more behind, new as of now; a list of another place is made longer -/
theorem Owns.put {H0 H1 H2 : Hp} {vs : List V} {ds : List PyData} {L L' : List Addr} {y : V} {d : PyData} {D : Addr} {zs zs' : List V} (h : Owns H0 H1 vs ds L) (hD : ∀ a ∈ L, a ≠ D) (s0 : Same H0 H1) (s : Same H1 H2) (o : Own H1 H2 y d L') (h1 : H1 D = some (.lst zs)) : Owns H0 (upd H2 D (.lst zs')) (vs ++ [y]) (ds ++ [d]) (L ++ L') ∧ ∀ a ∈ L ++ L', a ≠ D := by
  have hD' : ∀ a ∈ L', a ≠ D := fun a ha e => by have := o.new a ha; rw [e, h1] at this; cases this
  have t : Tps H2 (upd H2 D (.lst zs')) := .upd_lst (s _ _ h1)
  refine ⟨⟨((h.vl.keep s).keepL t fun a ha vs e => by rw [upd_ne (hD a ha)]; exact e).append ((o.vl.keepL t fun a ha vs e => by rw [upd_ne (hD' a ha)]; exact e).one), ?_, fun a ha => ?_⟩, fun a ha => ?_⟩
  · refine List.nodup_append.mpr ⟨h.nd, o.nd, fun a ha b hb e => ?_⟩
    subst e
    obtain ⟨vs, e1, _⟩ := h.vl.mem a ha
    rw [o.new a hb] at e1
    cases e1
  · rcases List.mem_append.mp ha with ha | ha
    · exact h.new a ha
    · exact s0.free (o.new a ha)
  · rcases List.mem_append.mp ha with ha | ha
    · exact hD a ha
    · exact hD' a ha
theorem Own.inv {H0 H : Hp} {D : Addr} {ds : List PyData} {L : List Addr} (h : Own H0 H (.ref D) (.list ds) L) : ∃ ys L1, L = D :: L1 ∧ H D = some (.lst ys) ∧ ys.length ≤ 10000 ∧ Owns H0 H ys ds L1 ∧ D ∉ L1 ∧ H0 D = none := by
  obtain ⟨vl, nd, new⟩ := h
  cases vl with
  | lst h1 h2 h3 =>
    have := List.nodup_cons.mp nd
    exact ⟨_, _, rfl, h1, h2, ⟨h3, this.2, fun a ha => new a (.tail _ ha)⟩, this.1, new _ (.head _)⟩
section
variable {src : List (Option Nat)} {te : TE} {σ : St} {H : Hp} {Q : VK}
/-- a comprehension of things of their own -/
theorem lc_own {J : It} {P : Hp → Prop} {xs : List V} (hJ : ItSeq J P xs) {H1 : Hp} {D : Addr} (ds : List PyData) (hP : ∀ H', Same H1 H' → P H') (hD : H1 D = none) (hl : ds.length = xs.length) (hlen : xs.length ≤ 10000)
    (step : ∀ (i : Nat) x d H', xs[i]? = some x → ds[i]? = some d → Same H1 H' → ∀ R : VK, (∀ y H'' L, Same H' H'' → Own H' H'' y d L → R y H'') → te (some x :: capSt src σ) H' R)
    (fin : ∀ (ys : List V) H' L, Same H1 H' → Own H1 H' (.ref D) (.list ds) L → Q (.ref D) H') : LC (none :: src) J (gName 0) tYes te σ H1 Q D := by
  have h6 : 100000 < sizeLine := by decide
  refine lc_on hJ (fun i zs σ' H' => zs.length = i ∧ (∃ o, σ' = o :: capSt src σ) ∧ Same H1 H' ∧ H' D = some (.lst zs) ∧ ∃ L, Owns H1 H' zs (ds.take i) L ∧ ∀ a ∈ L, a ≠ D)
    ⟨rfl, ⟨none, rfl⟩, .upd_new hD _, upd_same, [], ⟨by simp; exact .nil, .nil, fun a h => by cases h⟩, fun a h => by cases h⟩ (fun i zs σ' H' ⟨_, _, p1, p2, _⟩ => ⟨hP _ p1, p2⟩) (gName_mono 0) ?_ ?_
  · rintro i zs σ' H' x hx ⟨hi', ⟨o, rfl⟩, sm, hd, L, hL, hLD⟩
    have hi := (List.getElem?_eq_some_iff.mp hx).1
    have hdi : ds[i]? = some (ds[i]'(by omega)) := List.getElem?_eq_getElem _
    show te (some x :: capSt src σ) H' _
    refine step i x _ H' hx hdi sm _ fun y H'' L' s2 hy => ⟨s2 _ _ hd, by omega, by simp [hi'], ⟨_, rfl⟩, .upd_over hD (sm.trans s2) _, upd_same, L ++ L', ?_⟩
    rw [take_snoc hdi]
    exact hL.put hLD sm s2 hy hd
  · rintro zs σ' H' ⟨hn, _, sm, hd, L, hL, hLD⟩
    rw [← hl, List.take_length] at hL
    refine fin zs H' (D :: L) sm ⟨.lst hd (by omega) hL.vl, List.nodup_cons.mpr ⟨fun h => hLD _ h rfl, hL.nd⟩, fun a ha => ?_⟩
    rcases List.mem_cons.mp ha with e | ha
    · subst e; exact hD
    · exact hL.new a ha
theorem tLC_own {K : PySem.W.Frag} {tl : TE} {xs : List V} {b : Addr} (ds : List PyData) (ha : ∀ R : V → Hp → Prop, R (.ref b) H → tl σ H R) (hS : SqL K H b xs) (hl : ds.length = xs.length) (hlen : xs.length ≤ 10000)
    (step : ∀ (i : Nat) x d H', xs[i]? = some x → ds[i]? = some d → Same H H' → ∀ R : VK, (∀ y H'' L, Same H' H'' → Own H' H'' y d L → R y H'') → te (some x :: capSt src σ) H' R)
    (fin : ∀ D H' L, Same H H' → Own H H' (.ref D) (.list ds) L → Q (.ref D) H') : tLC (none :: src) (iList K tl) (gName 0) tYes te σ H Q :=
  ha _ ⟨b, rfl, ⟨xs, hS⟩, fun D hD => lc_own (itseq_list.imp fun H' (e : Same H H') => e.seq hS) ds (fun _ e => e) hD hl hlen step fun _ H' L sm => fin D H' L sm⟩
theorem tLC_ownT {K : PySem.W.Frag} {tl : TE} {xs : List V} {b : Addr} (ds : List PyData) (ha : ∀ R : V → Hp → Prop, R (.ref b) H → tl σ H R) (hS : SqT K H b xs) (hl : ds.length = xs.length) (hlen : xs.length ≤ 10000)
    (step : ∀ (i : Nat) x d H', xs[i]? = some x → ds[i]? = some d → Same H H' → ∀ R : VK, (∀ y H'' L, Same H' H'' → Own H' H'' y d L → R y H'') → te (some x :: capSt src σ) H' R)
    (fin : ∀ D H' L, Same H H' → Own H H' (.ref D) (.list ds) L → Q (.ref D) H') : tLC (none :: src) (iTup K tl) (gName 0) tYes te σ H Q :=
  ha _ ⟨b, rfl, ⟨xs, hS⟩, fun D hD => lc_own (itseq_tup.imp fun H' (e : Same H H') => e.tup hS) ds (fun _ e => e) hD hl hlen step fun _ H' L sm => fin D H' L sm⟩
/-- so many turns of range(0, n, c) -/
def UpTo (n c m : Nat) : Prop := (∀ i, i < m → i * c < n) ∧ n ≤ m * c
/-- what is left of a list by the places -/
def sel (p : Nat → Bool) (ds : List PyData) (n : Nat) : List PyData := ((List.range n).filter p).filterMap (ds[·]?)
end
end L2
namespace L2
open PySem PySem.Spec PyProof.Rows
section
variable {X : Cx} {pos : Pos}
def rStarts : V → List V → Hp → VK → Prop := fun x vs H Q => ∃ (z y : Str), x = .str z ∧ vs = [.str y] ∧ Q (.bl (Txt.startswith z y)) H
end
/-- the signs of a number's text -/
def dg (i : Int) : List Nat := (Str.ofString (toString i)).cps.toList
end L2
namespace L2
open PySem
section
variable {src : List (Option Nat)} {te : TE} {σ : St} {H : Hp} {Q : VK}
/-- a comprehension over range(n) with a promise of its own, that need not keep the heap -/
theorem tLC_rangeI {ta : TA} {n : Nat} (I : Addr → Nat → List V → Hp → Prop) (ha : ∀ R : List V → Hp → Prop, R [.int n] H → ta σ H R) (hlen : n ≤ 100000)
    (i0 : ∀ D, H D = none → I D 0 [] (upd H D (.lst []))) (dl : ∀ D i zs H', I D i zs H' → zs.length = i ∧ H' D = some (.lst zs))
    (step : ∀ D (i : Nat) zs H', H D = none → i < n → I D i zs H' → ∀ R : VK, (∀ y H'', H'' D = some (.lst zs) → I D (i + 1) (zs ++ [y]) (upd H'' D (.lst (zs ++ [y]))) → R y H'') → te (some (.int i) :: capSt src σ) H' R)
    (fin : ∀ D zs H', H D = none → I D n zs H' → Q (.ref D) H') : tLC (none :: src) (iRng1 ta) (gName 0) tYes te σ H Q := by
  refine ha _ ⟨n, rfl, by omega, by omega, fun D hD => ?_⟩
  have h6 : 100000 < sizeLine := by decide
  refine lc_on (itseq_range (lo := 0) (n := n) (P := fun _ => True)) (fun i zs σ' H' => (∃ o, σ' = o :: capSt src σ) ∧ i ≤ n ∧ I D i zs H') ⟨⟨none, rfl⟩, Nat.zero_le _, i0 D hD⟩ (fun i zs σ' H' q => ⟨trivial, (dl _ _ _ _ q.2.2).2⟩) (gName_mono 0) ?_ ?_
  · rintro i zs σ' H' x hx ⟨⟨o, rfl⟩, _, hI⟩
    have hi : i < n := by have := (List.getElem?_eq_some_iff.mp hx).1; simpa using this
    rw [List.getElem?_map, List.getElem?_range hi] at hx
    have e : V.int (0 + (i : Int)) = x := Option.some.inj hx
    rw [Int.zero_add] at e
    subst e
    have hl := (dl _ _ _ _ hI).1
    show te (some (.int i) :: capSt src σ) H' _
    exact step D i zs H' hD hi hI _ fun y H'' hd hI' => ⟨hd, by omega, ⟨_, rfl⟩, hi, hI'⟩
  · rintro zs σ' H' ⟨_, _, hI⟩
    exact fin D zs H' hD (by simpa using hI)
end
end L2
namespace L2
open PySem PySem.Spec PyProof.Rows
/-! ### methods that may raise -/
def Gx.MeX (g : Gx) (k : Nat) (C : Addr) (m : Str) (ps : List Str) (sp : Sp) : Prop := ∃ f fd, FnOk g.P g.w g.K g.mg g.base (CXF g.P g.w) k f fd ps sp ∧ Binds g.K fd ps [] ∧ Meth g.K C m f
section
variable {g : Gx} {k : Nat} {x qual m : Str} {st : Stmt} {N ps : List Str} {sp : Sp} {C : Addr}
end
section
variable {g : Gx} {X : Cx} {k j : Nat} {x m : Str} {ps : List Str} {sp : Sp} {E : XK} {C : Addr} {e o : Expr} {es : List Expr} {t : TA} {ta : TE} {p pos apos : Pos}
end
/-- an expression that is never reached -/
def tNo : TE := fun _ _ _ => False
/-! ### try: f(..) except C as e: suite -/
def tTryE (K : PySem.W.Frag) (cv : Value) (sp : Sp) (t : TA) (j : Nat) (ts : TS) : TS := fun D σ H => t σ H fun vs H1 => sp (vs ++ []) H1 (fun v H2 => D.nx σ H2) (fun cls _ H2 => PySem.W.exmOne K cls cv = some true ∧ ∀ a, H2 a = none → ts (D.gone j) (σ.set j (some (.ref a))) (upd H2 a (ExcO a cls)))
section
variable {g : Gx} {X : Cx} {k jj j : Nat} {f c n : Str} {ps : List Str} {sp : Sp} {e : Expr} {es : List Expr} {t : TA} {ts : TS} {b₀ : Stmt} {suite : List Stmt} {cv : Value} {fp cp hpos apos cpos pos : Pos}
end
end L2
namespace L2
open PySem PySem.Spec PyProof.Rows
/-! ### sets of texts: set(text), set(list of texts), len of it -/
def addOnce (l : List Str) (v : Str) : List Str := if l.any (· == v) then l else l ++ [v]
def met (val : Nat → Str) (i : Nat) : List Str := ((List.range i).map val).foldl addOnce []
section
variable {prog : Program} {w : World} {A : Around} {R : Result → Shared → Prop} {I : Addr} {fp wr : List Addr} {G : Array GenState → Array GenState → Prop} {n : Nat} {P : Nat → Value → Prop} {St : Nat → Shared → Prop}
end
end L2
namespace L2
open PySem PySem.Spec PyProof.Rows
def sg (x : Str) (i : Nat) : Str := ⟨#[x.cps.getD i 0]⟩
section
variable {prog : Program} {w : World} {A : Around} {E : Value → Shared → Prop} {s : Shared}
end
/-- a set, so many in it -/
def SetO (a : Addr) (n : Nat) : HO := .ext fun h => ∃ (o : Obj) (es : Array (Int × Value)) (ep : Nat) (t : SetTable), h.get? a = some o ∧ o.ExactSet ∧ o.data = .set es ep t ∧ t.fits es.size = true ∧ es.size = n ∧ n < scanBound
section
variable {X : Cx}
end
end L2
namespace L2
open PySem PySem.Spec PyProof.Rows
/-- a test that is never reached -/
def tNoT : TT := fun _ _ _ => False
section
variable {X : Cx}
end
end L2
namespace L2
open PySem PySem.Spec PyProof.Rows
/-! ### x.split(one sign) -/
section
variable {X : Cx}
def rSplit : V → List V → Hp → VK → Prop := fun x vs H Q => ∃ (z : Str) (c : Nat), x = .str z ∧ vs = [.str ⟨#[c]⟩] ∧ z.length ≤ 100000 ∧ ∀ l, H l = none → Q (.ref l) (upd H l (.lst ((Txt.split z ⟨#[c]⟩).map V.str)))
end
end L2
namespace L2
open PySem PySem.Spec PyProof.Rows
section
variable {X : Cx}
end
end L2
namespace L2
open PySem PySem.Spec PyProof.Rows
/-! ### xs[k::step], and defs asked of a class by its name -/
section
variable {X : Cx} {e lo st : Expr} {te tl ts : TE} {pos p2 : Pos}
/-- xs[k::step] of a list, k not below 0, step above it: a new list of some of its things -/
def tSlStep (K : PySem.W.Frag) (te tl ts : TE) : TE := fun σ H Q => te σ H fun x H1 => tl σ H1 fun y H2 => ts σ H2 fun z H3 =>
  ∃ (a : Addr) (xs : List V) (k n : Int), x = .ref a ∧ y = .int k ∧ z = .int n ∧ 0 ≤ k ∧ 0 < n ∧ SqL K H3 a xs ∧ ∀ p ys, H3 p = none → (∀ v ∈ ys, v ∈ xs) → ys.length ≤ xs.length → Q (.ref p) (upd H3 p (.lst ys))
end
/-- what a class has from its line, to be asked for a def by its own name -/
structure ClsFn (K : PySem.W.Frag) (B : Addr) (m : Str) (f : Addr) : Prop where
  ga : PySem.W.specialIn K (.ref B) "__getattribute__" = some (some (.builtin "type.__getattribute__"))
  rd : PySem.W.readsIn K B (.type "type") = true
  at_ : PySem.W.findCls K (.ref B) (.type "type") m = some (.val (.ref f))
  kp : PySem.W.keepIn K (.ref f) = true
/-- the def m of the class at B, which the text calls x -/
def Gx.Cf (g : Gx) (k : Nat) (x m : Str) (ps : List Str) (sp : Sp) : Prop := ∃ B f fd, FnOk g.P g.w g.K g.mg g.base CX0 k f fd ps sp ∧ Binds g.K fd ps [] ∧ ClsFn g.K B m f ∧ g.mg x = some (.ref B)
def Gx.RawC (g : Gx) (x m qual : Str) (st : Stmt) (ps : List Str) : Prop := ∃ B f fd, Fun g.K m qual st f fd ∧ Binds g.K fd ps [] ∧ ClsFn g.K B m f ∧ g.mg x = some (.ref B)
section
variable {g : Gx} {X : Cx} {k j : Nat} {x m : Str} {ps : List Str} {sp : Sp} {e : Expr} {es : List Expr} {t : TA} {p pos apos : Pos}
end
end L2
namespace L2
open PySem PySem.Spec PyProof.Rows
/-- y not in d, y in d, of a dict -/
def rNotInD : R2 := fun y x H Q => ∃ a o, x = .ref a ∧ DGet H a y o ∧ Q (.bl (!o.isSome)) H
def rInD : R2 := fun y x H Q => ∃ a o, x = .ref a ∧ DGet H a y o ∧ Q (.bl o.isSome) H
section
variable {X : Cx}
end
section
variable {K : PySem.W.Frag} {h : Heap} {mg : Str → Option Value} {P : Program} {w : World} {base : Heap} {f B : Addr} {x qual m : Str} {st : Stmt} {ps N : List Str} {oc kV dc pm cd ct : Value} {od an : Option Addr} {sl : Array (Option Value)} {g : Gx} {k : Nat} {sp : Sp}
end
end L2
namespace L2
/-- one reading or the other: an expression whose object is of one class or of another -/
def tEither (a b : TE) : TE := fun σ H Q => a σ H Q ∨ b σ H Q
end L2
namespace L2
open PySem PySem.Spec PyProof.Rows
section
variable {g : TG} {tb : TS} {D : Ends} {σ : St} {H : Hp}
/-- for i, x in enumerate(xs), a list -/
theorem tFor_enumL {K : PySem.W.Frag} {ta : TA} {a : Addr} {xs : List V} (Pv : Nat → St → Hp → Prop) (ha : ∀ R : List V → Hp → Prop, R [.ref a] H → ta σ H R) (h0 : Pv 0 σ H) (hl : ∀ i σ H, i ≤ xs.length → Pv i σ H → SqL K H a xs)
    (hs : ∀ i x σ H T, xs[i]? = some x → Pv i σ H → H T = none → g (.ref T) σ (upd H T (.tup [.int (i : Int), x])) fun σ2 H2 => tb { D with nx := Pv (i + 1), ct := Pv (i + 1), bk := D.nx } σ2 H2) (hd : ∀ σ H, Pv xs.length σ H → D.nx σ H) : tFor (iEnumL K ta) g tb D σ H := by
  refine ha _ ⟨a, xs, rfl, hl 0 σ H (Nat.zero_le _) h0, ?_⟩
  refine ⟨fun i m σ H => m = xs.length - i ∧ i ≤ xs.length ∧ Pv i σ H, ⟨xs.length, by simp, Nat.zero_le _, h0⟩, ?_⟩
  rintro i m σ H ⟨rfl, hi, p⟩
  have q := hl i σ H hi p
  by_cases hlt : i < xs.length
  · have hx : xs[i]? = some xs[i] := List.getElem?_eq_getElem hlt
    refine .inr ⟨⟨xs, _, q, hx⟩, Pv (i + 1), fun σ' H' p' => ⟨xs.length - (i + 1), by omega, rfl, hlt, p'⟩, ?_⟩
    rintro v H' ⟨T, rfl, hT, heq⟩
    have e := heq xs _ q hx
    subst e
    exact hs i _ σ H T hx p hT
  · have e : i = xs.length := by omega
    subst e
    exact .inl ⟨⟨xs, q, Nat.le_refl _⟩, hd σ H p⟩
end
/-! ### data without lists: it stays as long as tuples stay -/
def V0s (H : Hp) (us : List V) (ds : List PyData) : Prop := us.length = ds.length ∧ ∀ (i : Nat) u d, us[i]? = some u → ds[i]? = some d → VL H u d []
theorem V0s.keep {H H' : Hp} {us : List V} {ds : List PyData} (h : V0s H us ds) (t : Tps H H') : V0s H' us ds := ⟨h.1, fun i u d h1 h2 => (h.2 i u d h1 h2).keepL t fun a ha => absurd ha (by simp)⟩
theorem V0s.nil {H : Hp} : V0s H [] [] := ⟨rfl, fun i u d h => by simp at h⟩
theorem V0s.one {H : Hp} {u : V} {d : PyData} (h : VL H u d []) : V0s H [u] [d] := ⟨rfl, fun i x y h1 h2 => by
  cases i with
  | zero =>
    have e1 : u = x := by simpa using h1
    have e2 : d = y := by simpa using h2
    subst e1 e2
    exact h
  | succ i => simp at h1⟩
theorem V0s.append {H : Hp} {us us' : List V} {ds ds' : List PyData} (h : V0s H us ds) (h' : V0s H us' ds') : V0s H (us ++ us') (ds ++ ds') := by
  refine ⟨by rw [List.length_append, List.length_append, h.1, h'.1], fun i u d h1 h2 => ?_⟩
  by_cases hi : i < us.length
  · rw [List.getElem?_append_left hi] at h1
    rw [List.getElem?_append_left (by rw [← h.1]; exact hi)] at h2
    exact h.2 i u d h1 h2
  · rw [List.getElem?_append_right (by omega)] at h1
    rw [List.getElem?_append_right (by rw [← h.1]; omega), ← h.1] at h2
    exact h'.2 _ u d h1 h2
theorem V0s.take {H : Hp} {us : List V} {ds : List PyData} (h : V0s H us ds) (n : Nat) : V0s H (us.take n) (ds.take n) := by
  refine ⟨by rw [List.length_take, List.length_take, h.1], fun i u d h1 h2 => ?_⟩
  rw [List.getElem?_take] at h1 h2
  split at h1
  · rw [if_pos (by assumption)] at h2; exact h.2 i u d h1 h2
  · cases h1
theorem V0s.drop {H : Hp} {us : List V} {ds : List PyData} (h : V0s H us ds) (n : Nat) : V0s H (us.drop n) (ds.drop n) := by
  refine ⟨by rw [List.length_drop, List.length_drop, h.1], fun i u d h1 h2 => ?_⟩
  rw [List.getElem?_drop] at h1 h2
  exact h.2 _ u d h1 h2
theorem V0s.vls {H : Hp} : ∀ {us : List V} {ds : List PyData}, V0s H us ds → VLs H us ds []
  | [], [], _ => .nil
  | [], _ :: _, h => by have := h.1; simp at this
  | _ :: _, [], h => by have := h.1; simp at this
  | u :: us, d :: ds, h => by
    have h1 := h.2 0 u d rfl rfl
    have h2 : V0s H us ds := ⟨by have := h.1; simpa using this, fun i x y a b => h.2 (i + 1) x y (by simpa using a) (by simpa using b)⟩
    exact .cons h1 h2.vls
theorem V0s.of {H : Hp} : ∀ {us : List V} {ds : List PyData} {L : List Addr}, VLs H us ds L → L = [] → V0s H us ds
  | _, _, _, .nil, _ => .nil
  | _, _, _, .cons h hs, e => by
    obtain ⟨e1, e2⟩ := List.append_eq_nil_iff.mp e
    subst e1
    have := (V0s.of hs e2)
    exact V0s.append (.one h) this
theorem V0s.at {H : Hp} {us : List V} {ds : List PyData} {i : Nat} {u : V} (h : V0s H us ds) (hu : us[i]? = some u) : ∃ d, ds[i]? = some d ∧ VL H u d [] := by
  have hi := (List.getElem?_eq_some_iff.mp hu).1
  have : ds[i]? = some (ds[i]'(by rw [← h.1]; exact hi)) := List.getElem?_eq_getElem _
  exact ⟨_, this, h.2 i _ _ hu this⟩
end L2
namespace L2
open PySem
theorem call_tuple_ofK {X : Cx} {K : PySem.W.Frag} (h : X.K = K := by rfl) : CallR X (.type "tuple") (fun xs H Q => ∃ p ys, xs = [.ref p] ∧ ((SqL K H p ys ∧ ∀ l, H l = none → Q (.ref l) (upd H l (.tup ys))) ∨ SqT K H p ys ∧ Q (.ref p) H)) := by subst h; exact call_tuple_of
end L2
namespace L2
open PySem
/-- a comprehension over a list made on the spot, of things not known before, whose things keep a promise each -/
theorem tLC_relG {K : PySem.W.Frag} {src : List (Option Nat)} {te tl : TE} {σ : St} {H : Hp} {Q : VK} (G : Addr → List V → Hp → Prop) (ha : ∀ R : V → Hp → Prop, (∀ b xs H1, SqL K H1 b xs → G b xs H1 → R (.ref b) H1) → tl σ H R)
    (hb : ∀ b xs H1, SqL K H1 b xs → G b xs H1 → xs.length ≤ 100000 ∧ ∃ Rl : Addr → Nat → V → Hp → Prop, (∀ D i y H H', Rl D i y H → Same H H' → Rl D i y H') ∧ (∀ D i y H zs zs', Rl D i y H → H D = some (.lst zs) → Rl D i y (upd H D (.lst zs'))) ∧
      (∀ D (i : Nat) x H' zs, xs[i]? = some x → Same H1 H' → H' D = some (.lst zs) → ∀ R : VK, (∀ y H'', Same H' H'' → Rl D i y H'' → R y H'') → te (some x :: capSt src σ) H' R) ∧
      (∀ D (ys : List V) H', H1 D = none → Same H1 H' → H' D = some (.lst ys) → ys.length = xs.length → (∀ (j : Nat) y, ys[j]? = some y → Rl D j y H') → Q (.ref D) H')) : tLC (none :: src) (iList K tl) (gName 0) tYes te σ H Q :=
  ha _ fun b xs H1 hS hG => by
    obtain ⟨hlen, Rl, st, su, step, fin⟩ := hb b xs H1 hS hG
    exact ⟨b, rfl, ⟨xs, hS⟩, fun D hD => lc_relD (itseq_list.imp fun H' (e : Same H1 H') => e.seq hS) (Rl D) (st D) (su D) (fun _ e => e) hD hlen (fun i x H' zs hx sm hd R r => step D i x H' zs hx sm hd R r) fun ys H' sm => fin D ys H' hD sm⟩
end L2
namespace L2
open PySem PySem.Spec PyProof.Rows
/-- zip of a list and a tuple -/
def iZipM (K : PySem.W.Frag) (ta : TA) : TI := fun σ H R => ta σ H fun vs H1 => ∃ a b xs ys, vs = [.ref a, .ref b] ∧ SqL K H1 a xs ∧ SqT K H1 b ys ∧ R (Itz (fun H xs => SqL K H a xs) (fun H ys => SqT K H b ys)) H1
section
variable {X : Cx} {elts : List Expr} {kk : Nat} {tpos : Pos}
theorem pi_zipM {a b : Expr} {ta : TA} {p pos : Pos} (hg : Gl X "zip") (hm : X.mg "zip" = none) (ha : PA X [a, b] ta) (hs : starEach [a, b] X.env = [(false, eval a X.env), (false, eval b X.env)] := by rfl) (hs2 : starEach [b] X.env = [(false, eval b X.env)] := by rfl) :
    PI X (.Tuple elts kk tpos) (.Call (.Name "zip" p) [a, b] [] pos) (iZipM X.K ta) := by
  intro pins s σ H R I h
  refine Call_ (ld_blt I hg hm boot_zip (PyProof.Rows.callWith_type1 (thn (ha pos pins s σ H _ I h) fun us s1 ⟨vs, H1, I1, r1, q1⟩ => ?_) (by rw [hs, hs2]) (by rw [hs2]; rfl)))
  obtain ⟨x, y, xs, ys, e, hx, hy, q⟩ := q1
  subst e
  obtain ⟨u, v, rfl, ru, rv⟩ := r1.two
  cases ru
  cases rv
  obtain ⟨i1, _, ht1, _⟩ := I1.list hx
  obtain ⟨i2, _, ht2, _⟩ := I1.tuple hy
  have l1 : x < s1.heap.objs.size := by obtain ⟨_, e, _⟩ := ht1.isList; exact Heap.lt_size e
  have l2 : y < s1.heap.objs.size := by obtain ⟨_, e, _⟩ := ht2; exact Heap.lt_size e
  exact zip_pie I1 (part_list x) (part_tuple y) (itersTo_list ht1.isList) (itersTo_tuple ht2) rfl rfl l1 l2 (fun h i e => ⟨_, e, rfl, rfl⟩) (fun h i e => ⟨_, e, rfl, rfl⟩) q
end
section
variable {tb : TS} {D : Ends} {σ : St} {H : Hp}
theorem tFor_zipM {K : PySem.W.Frag} {ta : TA} (i j : Nat) {xs ys : List V} (Pv : Addr → Addr → Nat → St → Hp → Prop) (ha : ∀ R : List V → Hp → Prop, (∀ a b H1, Pv a b 0 σ H1 → R [.ref a, .ref b] H1) → ta σ H R)
    (hl : ∀ a b n σ H, n ≤ min xs.length ys.length → Pv a b n σ H → SqL K H a xs ∧ SqT K H b ys)
    (hs : ∀ a b (n : Nat) x y σ H T, xs[n]? = some x → ys[n]? = some y → Pv a b n σ H → H T = none → tb { D with nx := Pv a b (n + 1), ct := Pv a b (n + 1), bk := D.nx } ((σ.set i (some x)).set j (some y)) (upd H T (.tup [x, y])))
    (hd : ∀ a b σ H, Pv a b (min xs.length ys.length) σ H → D.nx σ H) : tFor (iZipM K ta) (gTup K 2 (gCons (gName i) (gCons (gName j) gNil))) tb D σ H := by
  refine ha _ fun a b H1 h0 => ?_
  obtain ⟨s1, s2⟩ := hl a b 0 σ H1 (Nat.zero_le _) h0
  refine ⟨a, b, xs, ys, rfl, s1, s2, ?_⟩
  refine ⟨fun n m σ H => m = min xs.length ys.length - n ∧ n ≤ min xs.length ys.length ∧ Pv a b n σ H, ⟨min xs.length ys.length, by simp, Nat.zero_le _, h0⟩, ?_⟩
  rintro n m σ H ⟨rfl, hn, p⟩
  obtain ⟨g1, g2⟩ := hl a b n σ H hn p
  by_cases hlt : n < min xs.length ys.length
  · have hx : xs[n]? = some (xs[n]'(by omega)) := List.getElem?_eq_getElem _
    have hy : ys[n]? = some (ys[n]'(by omega)) := List.getElem?_eq_getElem _
    refine .inr ⟨⟨xs, ys, _, _, g1, g2, hx, hy⟩, Pv a b (n + 1), fun σ' H' p' => ⟨min xs.length ys.length - (n + 1), by omega, rfl, hlt, p'⟩, ?_⟩
    rintro v H' ⟨T, rfl, hT, heq⟩
    have e := heq xs ys _ _ g1 g2 hx hy
    subst e
    exact ⟨T, _, rfl, SqT.of upd_same, rfl, _, _, rfl, _, _, rfl, rfl, hs a b n _ _ σ H T hx hy p hT⟩
  · have e : n = min xs.length ys.length := by omega
    subst e
    refine .inl ⟨⟨xs, ys, g1, g2, ?_⟩, hd a b σ H p⟩
    omega
end
end L2
namespace L2
open PySem
end L2
namespace L2
open PySem PySem.Spec PyProof.Rows
/-! closures: a function object of the heap, the code object it has, the cells it holds -/
abbrev FnO (f : Addr) (fd : FuncData) : HO := .ext fun h => h.get? f = some { cls := .type "function", data := .func fd }
abbrev CdO (c : Addr) (q : Str) : HO := .ext fun h => h.CodeRec (.ref c) q
abbrev CellO (c : Addr) (v : V) : HO := .ext fun h => ∃ u, RelV v u ∧ h.IsCell c (some u)
section
variable {P : Program} {w : World} {H H' : Hp} {h h' : Heap}
end
/-! cells out of sight, and back -/
def off (H : Hp) (cs : List Addr) : Hp := fun b => if b ∈ cs then none else H b
def on (H' H : Hp) (cs : List Addr) : Hp := fun b => if b ∈ cs then H b else H' b
section
variable {H H' : Hp} {cs : List Addr} {b : Addr} {o : HO}
end
/-- the cells that are held: their names, addresses, values -/
abbrev Caps := List (Str × Addr × V)
def Caps.cl (l : Caps) : List (Str × Addr) := l.map fun p => (p.1, p.2.1)
def Caps.as (l : Caps) : List Addr := l.map fun p => p.2.1
def Caps.vs (l : Caps) : List V := l.map fun p => p.2.2
def Caps.In (l : Caps) (H : Hp) : Prop := ∀ p ∈ l, H p.2.1 = some (CellO p.2.1 p.2.2)
section
variable {l : Caps} {H : Hp}
end
/-- the context of a closure's body -/
def cxCl (P : Program) (w : World) (K : PySem.W.Frag) (mg : Str → Option Value) (base : Heap) (N : List Str) (qual : Str) (scope : Scope) (f : Addr) (cd : Value) (cl : List (Str × Addr)) (A : Around) (outer : List Env) (s : Shared) (H : Hp) : Cx where
  prog := P
  w := w
  K := K
  mg := mg
  base := base
  A := A.deeper (PySem.W.envX qual scope s.heap.objs.size f cd cl)
  N := N
  s₀ := s
  H₀ := H
  env := PySem.W.envX qual scope s.heap.objs.size f cd cl
  outer := outer
  stack := PySem.W.envX qual scope s.heap.objs.size f cd cl :: outer
  ex := []
  calm := true
  fn := fun _ => false
  pn := []
  xe := fun _ _ => False
/-- names: parameters, further ones, captured ones -/
structure ClScope (N ps : List Str) (l : List Str) (sc : Scope) : Prop where
  kind : sc.kind = .function
  co : sc.isCoroutine = false
  gen : sc.isGenerator = false
  nd : N.Nodup
  pre : N.take ps.length = ps
  suf : N.drop (N.length - l.length) = l
  len : ps.length + l.length ≤ N.length
  par : ∀ x ∈ ps, sc.names.lookup x = some .local
  fre : ∀ x ∈ l, sc.names.lookup x = some .free
  nocell : ∀ y ∈ sc.names, y.2 ≠ .cell
  all : ∀ y ∈ sc.names, y.2 = .free → y.1 ∈ l
def startC (N : List Str) (vs fv : List V) : St := vs.map some ++ List.replicate (N.length - vs.length - fv.length) none ++ fv.map some
section
variable {P : Program} {w : World} {K : PySem.W.Frag} {mg : Str → Option Value} {base : Heap} {N ps : List Str} {qual name : Str} {scope : Scope} {f c : Addr} {A : Around} {outer : List Env} {s : Shared} {H : Hp} {us : List Value} {vs : List V} {l : Caps} {cd : Value}
end
/-- a closure in the heap: its object, its code, its cells -/
def ClIn (H : Hp) (f c : Addr) (fd : FuncData) (qual : Str) (l : Caps) : Prop := H f = some (FnO f fd) ∧ H c = some (CdO c qual) ∧ l.In H
end L2
namespace L2
open PySem PySem.Spec PyProof.Rows
/-! making closures -/
def Bm (mg : Str → Option Value) (base : Heap) : Prop := ∃ bm ob, mg "__builtins__" = some (.ref bm) ∧ bm ≠ builtinsNs ∧ bm ≠ mainGlobals ∧ base.get? bm = some ob ∧ ob.cls = .type "module" ∧ ob.dict = some builtinsNs ∧ ob.data = .plain
section
variable {X : Cx} {pins : List (Addr × Obj)} {σ : St} {H : Hp} {s : Shared}
end
/-- a function is made: its code for the first time, or again -/
def Made (P : Addr) (pos : Pos) (q : Str) (mk : Addr → FuncData → Prop) (H : Hp) (Q : VK) : Prop := ∃ ps, H P = some (.tbl ps) ∧ TriplesOk ps.toList ∧
  ((codeAmong pos ps.toList = none ∧ ∀ f c fd, H f = none → H c = none → f ≠ c → mk c fd → Q (.ref f) (upd (upd (upd H P (.tbl (ps ++ #[rawInt pos.line, rawInt pos.col, .ref c]))) c (CdO c q)) f (FnO f fd))) ∨
   ∃ c, codeAmong pos ps.toList = some (.ref c) ∧ ∀ f fd, H f = none → mk c fd → Q (.ref f) (upd H f (FnO f fd)))
section
variable {X : Cx} {c P : Addr} {name qual : Str} {params : Arguments} {body : List Stmt} {eb : Expr} {scope : Scope} {clos : List (Str × Addr)} {pos : Pos} {ln : Nat}
abbrev FnMk (name qual : Str) (params : Arguments) (body : List Stmt) (scope : Scope) (clos : List (Str × Addr)) (c : Addr) (fd : FuncData) : Prop := ∃ doc pm ctv, fd = PySem.W.fnX name qual params body scope clos .none .none doc pm none (.ref c) ctv
abbrev LamMk (qual : Str) (params : Arguments) (body : Expr) (scope : Scope) (clos : List (Str × Addr)) (c : Addr) (fd : FuncData) : Prop := ∃ pm ctv, fd = PySem.W.kla_fn "<lambda>" qual params body scope clos pm (.ref c) ctv
/-- def name(..): within a body -/
def tDef (i : Nat) (P : Addr) (pos : Pos) (q : Str) (mk : Addr → FuncData → Prop) : TS := fun D σ H => Made P pos q mk H fun v H' => D.nx (σ.set i (some v)) H'
/-- lambda ..: -/
def tLam (P : Addr) (pos : Pos) (q : Str) (mk : Addr → FuncData → Prop) : TE := fun _ H Q => Made P pos q mk H Q
end
/-! leaving a body: its cells stay, and are seen -/
def lay (H : Hp) : Caps → Hp
  | [] => H
  | p :: l => upd (lay H l) p.2.1 (CellO p.2.1 p.2.2)
/-- the state's cells -/
def CellsOf (X : Cx) (σ : St) (l : Caps) : Prop := l.as.Nodup ∧ ∀ p ∈ l, ∃ i : Nat, X.N[i]? = some p.1 ∧ σ[i]? = some (some p.2.2) ∧ X.env.kindOf p.1 = some .cell ∧ X.env.cells.lookup p.1 = some p.2.1
/-- a body that returns, with the state at the end -/
def PR (X : Cx) (b : List Stmt) (t : (St → V → Hp → Prop) → St → Hp → Prop) : Prop := ∀ (pins : List (Addr × Obj)) (s : Shared) (σ : St) (H : Hp) (R : St → V → Hp → Prop), Inv X pins σ H s → t R σ H →
  wpAny (model X.prog X.w) X.A (execs b X.env) (fun fl s' => ∃ u, fl = .ret u ∧ ∃ v σ' H', Inv X pins σ' H' s' ∧ RelV v u ∧ R σ' v H') X.xe s
section
variable {X : Cx} {st : Stmt} {rest : List Stmt} {t : TS} {u : (St → V → Hp → Prop) → St → Hp → Prop} {e : Expr} {te : TE} {pos : Pos}
def rRet (te : TE) : (St → V → Hp → Prop) → St → Hp → Prop := fun R σ H => te σ H fun v H' => R σ v H'
def rSeq (t : TS) (u : (St → V → Hp → Prop) → St → Hp → Prop) : (St → V → Hp → Prop) → St → Hp → Prop := fun R σ H => t { nx := u R, rt := fun _ _ => False } σ H
end
end L2
namespace L2
open PySem PySem.Spec PyProof.Rows
/-! a call of a closure that a name holds -/
def tCallC (g : Gx) (k i : Nat) (t : TA) : TE := fun σ H Q => ∃ f fd ps sp, σ[i]? = some (some (.ref f)) ∧ FnOk g.P g.w g.K g.mg g.base CX0 k f fd ps sp ∧ (∀ us : List Value, us.length = ps.length → bindArgs fd ⟨us, []⟩ = pure (ps.zip us)) ∧ H f = some (FnO f fd) ∧ t σ H fun vs H1 => H1 f = some (FnO f fd) ∧ sp vs H1 Q E0
section
variable {X : Cx} {g : Gx} {k j i : Nat} {x : Str} {p pos : Pos} {e : Expr} {es : List Expr} {t : TA}
end
/-! the law's entry, with the tables of the defs that make functions -/
abbrev Tbs := List (Str × Addr × Addr)
/-- what the law is asked for, the tables at hand -/
def spTrueT (K : PySem.W.Frag) (tabs : Tbs) : Sp := fun vs H Q _ => ∃ (a : Addr) (ns : List Int), vs = [.ref a] ∧ SqL K H a (ns.map V.int) ∧ ns.length ≤ 63 ∧ (∀ q ∈ tabs, H q.2.2 = some (.tbl #[])) ∧ ∀ H', Q (.bl true) H'
/-! defs that make functions -/
def inDef (s : Stmt) (j : Nat) : Stmt := (defBody s).getD j (.Pass ⟨0, 0, 0, 0⟩)
def Gx.RawT (g : Gx) (x qual : Str) (st : Stmt) (ps : List Str) (c : Addr) : Prop := ∃ f fd, Fun g.K x qual st f fd ∧ Binds g.K fd ps [] ∧ g.mg x = some (.ref f) ∧ fd.code = .ref c
end L2
namespace HT
open PySem PySem.Spec PyProof.Rows
variable {prog : Program} {w : World} {A : Around} {E : Value → Shared → Prop} {s : Shared}
theorem getItem_tuple_all {t sl : Addr} {items : Array Value} {vl vu : Value} {lo hi : Option Int} {Q : Value → Shared → Prop} (ht : IsTup s.heap t items) (hs : s.heap.IsSliceOf sl vl vu .none) (pl : IsPart vl lo) (pu : IsPart vu hi)
    (hw : sIx items.size 0 lo = 0 ∧ sIx items.size items.size hi = items.size) (h : Q (.ref t) s) : wpAny (model prog w) A (getItem (.ref t) (.ref sl)) Q E s := by
  obtain ⟨os, hos, hcs, hds⟩ := id hs
  have hTs : s.TypeIs (.ref sl) "slice" := ⟨os, hos, hcs⟩
  unfold getItem
  try with_reducible refine wpAny_holding ?_
  first | refine wpAny_bind (wpAny_pure ?_) | skip
  refine wpAny_bind (wpAny_sequenceKey ht.typeIs (by decide) ?_)
  refine wpAny_bind (wpAny_callSpecial?_slot (name := Str.ofString "__getitem__") ht.typeIs PyProof.Rows.slot_tuple_getitem
    (wpAny_call_entry PyProof.Rows.slot_tuple_getitem ht.typeIs entry_tuple_getitem ?_ (args_tuple_getitem _ _)))
  show wpAny _ _ (Builtin.Tuple.tupleItemsOf (.ref t) >>= _) _ _ s
  refine wpAny_bind (tupleItemsOf_ ht ?_)
  refine wpAny_bind (wpAny_typeOf hTs ?_)
  rw [if_pos (by decide)]
  refine wpAny_bind (sliceApplied_gen hs pl pu ?_)
  show wpAny _ _ (if (((sIx items.size 0 lo : Nat) : Int) == 0 && (1 : Int) == 1 && (sIx items.size items.size hi - sIx items.size 0 lo) == items.size) = true then _ else _) _ _ s
  rw [if_pos (by rw [hw.1, hw.2]; simp)]
  refine wpAny_bind (m := Builtin.Tuple.tupleIsExact _) ?_
  unfold Builtin.Tuple.tupleIsExact
  refine wpAny_bind (wpAny_typeOf ht.typeIs (wpAny_pure ?_))
  rw [if_pos (by decide)]
  refine wpAny_bind (wpAny_rule ?_)
  first
    | exact wpAny_pure ⟨_, rfl, wpAny_pure h⟩
    | exact wpAny_bind (wpAny_pure (wpAny_pure ⟨_, rfl, wpAny_pure h⟩))
end HT
namespace L2
open PySem PySem.Spec PyProof.Rows
/-- t[lo:hi] that is the whole of t: t itself -/
def rSlTA (K : PySem.W.Frag) : V → Option Int → Option Int → Hp → VK → Prop := fun x lo hi H Q => ∃ a xs, x = .ref a ∧ SqT K H a xs ∧ (HT.sIx xs.length 0 lo = 0 ∧ HT.sIx xs.length xs.length hi = xs.length) ∧ Q (.ref a) H
theorem sl_tupA {X : Cx} : SlR X (rSlTA X.K) := by
  intro pins s σ H x v vl vu lo hi sl Q I rx hs pl pu h
  obtain ⟨a, xs, rfl, hx, hw, q⟩ := h
  cases rx
  obtain ⟨its, r, ht, hz⟩ := I.tuple hx
  have hlen : its.toArray.size = xs.length := by rw [List.size_toArray]; exact r.length.symm
  refine ⟨"tuple", _, PyProof.Rows.slot_tuple_getitem.lookup, ht.typeIs, ?_⟩
  exact HT.getItem_tuple_all ht hs pl pu (by rw [hlen]; exact hw) ⟨.ref a, H, I, rfl, q⟩
/-- either way -/
def rSlT2 (K : PySem.W.Frag) : V → Option Int → Option Int → Hp → VK → Prop := fun x lo hi H Q => ∃ a xs, x = .ref a ∧ SqT K H a xs ∧ (∀ p, H p = none → Q (.ref p) (upd H p (.tup (cutV xs lo hi)))) ∧ (cutV xs lo hi = xs → Q (.ref a) H)
theorem cutV_all {xs : List V} {lo hi : Option Int} (h : HT.sIx xs.length 0 lo = 0 ∧ HT.sIx xs.length xs.length hi = xs.length) : cutV xs lo hi = xs := by
  unfold cutV
  rw [h.1, h.2]
  simp
theorem sl_tup2K {X : Cx} {K : PySem.W.Frag} (hK : X.K = K := by rfl) : SlR X (rSlT2 K) := by
  subst hK
  intro pins s σ H x v vl vu lo hi sl Q I rx hs pl pu h
  obtain ⟨a, xs, rfl, hx, q1, q2⟩ := h
  by_cases c : HT.sIx xs.length 0 lo = 0 ∧ HT.sIx xs.length xs.length hi = xs.length
  · exact sl_tupA pins s σ H _ v vl vu lo hi sl Q I rx hs pl pu ⟨a, xs, rfl, hx, c, q2 (cutV_all c)⟩
  · exact sl_tup pins s σ H _ v vl vu lo hi sl Q I rx hs pl pu ⟨a, xs, rfl, hx, c, q1⟩
end L2
set_option maxHeartbeats 8000000
namespace KW
open PySem L2

def top (i : Nat) : Stmt := PySem.Challenge.pw_countgen_k71_steps_of_rows.main.body.getD i (.Pass ⟨0, 0, 0, 0⟩)
abbrev s_wall : Stmt := top 0
abbrev s_copied : Stmt := top 2
theorem sc_copied : FnScope ["thing"] ["thing"] (defScope s_copied) := ⟨rfl, rfl, rfl, by decide +kernel, rfl, by decide +kernel, by decide +kernel⟩
abbrev s_parts_of : Stmt := top 9
abbrev s_shape_of : Stmt := top 11
theorem sc_shape_of : FnScope ["book", "name", "pair"] ["book", "name"] (defScope s_shape_of) := ⟨rfl, rfl, rfl, by decide +kernel, rfl, by decide +kernel, by decide +kernel⟩
abbrev s_is_whole_number : Stmt := top 13
theorem sc_is_whole_number : FnScope ["thing"] ["thing"] (defScope s_is_whole_number) := ⟨rfl, rfl, rfl, by decide +kernel, rfl, by decide +kernel, by decide +kernel⟩
abbrev s_branch_place : Stmt := top 14
theorem sc_branch_place : FnScope ["branches", "mark", "place", "branch"] ["branches", "mark"] (defScope s_branch_place) := ⟨rfl, rfl, rfl, by decide +kernel, rfl, by decide +kernel, by decide +kernel⟩
abbrev s_has_mark : Stmt := top 15
theorem sc_has_mark : FnScope ["branches", "value"] ["branches", "value"] (defScope s_has_mark) := ⟨rfl, rfl, rfl, by decide +kernel, rfl, by decide +kernel, by decide +kernel⟩
abbrev s_has_form : Stmt := top 16
theorem sc_has_form : FnScope ["shape", "value", "kind"] ["shape", "value"] (defScope s_has_form) := ⟨rfl, rfl, rfl, by decide +kernel, rfl, by decide +kernel, by decide +kernel⟩
abbrev s_things_within : Stmt := top 17
theorem sc_things_within : FnScope ["book", "shape", "value", "kind"] ["book", "shape", "value"] (defScope s_things_within) := ⟨rfl, rfl, rfl, by decide +kernel, rfl, by decide +kernel, by decide +kernel⟩
abbrev s_sum_of_sizes : Stmt := top 18
theorem sc_sum_of_sizes : FnScope ["keys"] ["keys"] (defScope s_sum_of_sizes) := ⟨rfl, rfl, rfl, by decide +kernel, rfl, by decide +kernel, by decide +kernel⟩
abbrev s_none_ahead : Stmt := top 19
abbrev s_all_behind : Stmt := top 20
abbrev s_all_alike : Stmt := top 21
abbrev s_groups_by_size : Stmt := top 22
abbrev s_risen_key : Stmt := top 23
abbrev s_list_key : Stmt := top 24
theorem sc_list_key : FnScope ["shape", "keys", "kind", "size", "rises"] ["shape", "keys"] (defScope s_list_key) := ⟨rfl, rfl, rfl, by decide +kernel, rfl, by decide +kernel, by decide +kernel⟩
abbrev s_key_made : Stmt := top 25
theorem sc_key_made : FnScope ["shape", "value", "keys", "kind"] ["shape", "value", "keys"] (defScope s_key_made) := ⟨rfl, rfl, rfl, by decide +kernel, rfl, by decide +kernel, by decide +kernel⟩
abbrev s_weighed : Stmt := top 26
theorem sc_weighed : FnScope ["book", "shape", "value", "keys", "part", "thing", "key"] ["book", "shape", "value"] (defScope s_weighed) := ⟨rfl, rfl, rfl, by decide +kernel, rfl, by decide +kernel, by decide +kernel⟩
abbrev s_key_or_refusal : Stmt := top 28
abbrev s_fits : Stmt := top 29
theorem sc_fits : FnScope ["book", "shape", "value"] ["book", "shape", "value"] (defScope s_fits) := ⟨rfl, rfl, rfl, by decide +kernel, rfl, by decide +kernel, by decide +kernel⟩
abbrev s_refuse_no_value : Stmt := top 30
theorem sc_refuse_no_value : FnScope ["book", "shape", "value"] ["book", "shape", "value"] (defScope s_refuse_no_value) := ⟨rfl, rfl, rfl, by decide +kernel, rfl, by decide +kernel, by decide +kernel⟩
abbrev s_size_of : Stmt := top 31
abbrev s_least_below : Stmt := top 33
abbrev s_sets_among : Stmt := top 35
abbrev s_bags_among : Stmt := top 36
abbrev s_greatest_number : Stmt := top 37
abbrev s_set_at : Stmt := top 38
abbrev s_bag_at : Stmt := top 39
abbrev s_ways_of : Stmt := top 42
abbrev s_found_in : Stmt := top 43
abbrev s_least_distance : Stmt := top 48
abbrev s_whole_steps : Stmt := top 60
theorem sc_whole_steps : FnScope ["low", "value", "steps", "distance"] ["low", "value"] (defScope s_whole_steps) := ⟨rfl, rfl, rfl, by decide +kernel, rfl, by decide +kernel, by decide +kernel⟩
abbrev s_without_each : Stmt := top 61
theorem sc_without_each : FnScope ["things"] ["things"] (defScope s_without_each) := ⟨rfl, rfl, rfl, by decide +kernel, rfl, by decide +kernel, by decide +kernel⟩
abbrev s_with_each_step : Stmt := top 62
theorem sc_with_each_step : FnScope ["things", "inner", "changed", "place", "steps"] ["things", "inner"] (defScope s_with_each_step) := ⟨rfl, rfl, rfl, by decide +kernel, rfl, by decide +kernel, by decide +kernel⟩
abbrev s_things_at_use : Stmt := top 63
abbrev s_steps_of : Stmt := top 65
theorem sc_steps_of : FnScope ["book", "shape", "value"] ["book", "shape", "value"] (defScope s_steps_of) := ⟨rfl, rfl, rfl, by decide +kernel, rfl, by decide +kernel, by decide +kernel⟩
abbrev s_law_cell_at : Stmt := top 67
theorem sc_law_cell_at : FnScope ["_law_script", "_law_k"] ["_law_script", "_law_k"] (defScope s_law_cell_at) := ⟨rfl, rfl, rfl, by decide +kernel, rfl, by decide +kernel, by decide +kernel⟩
abbrev s_law_signs : Stmt := top 68
theorem sc_law_signs : FnScope ["_law_cell", "_law_many", "_law_some"] ["_law_cell", "_law_many"] (defScope s_law_signs) := ⟨rfl, rfl, rfl, by decide +kernel, rfl, by decide +kernel, by decide +kernel⟩
abbrev s_law_part : Stmt := top 69
theorem sc_law_part : FnScope ["_law_cell", "_law_low"] ["_law_cell"] (defScope s_law_part) := ⟨rfl, rfl, rfl, by decide +kernel, rfl, by decide +kernel, by decide +kernel⟩
abbrev s_law_thing : Stmt := top 70
theorem sc_law_thing : FnScope ["_law_part_here", "_law_cell", "_law_many"] ["_law_part_here", "_law_cell"] (defScope s_law_thing) := ⟨rfl, rfl, rfl, by decide +kernel, rfl, by decide +kernel, by decide +kernel⟩
abbrev s_law_inner : Stmt := top 71
theorem sc_law_inner : FnScope ["_law_part_here", "_law_thing_here", "_law_far"] ["_law_part_here", "_law_thing_here"] (defScope s_law_inner) := ⟨rfl, rfl, rfl, by decide +kernel, rfl, by decide +kernel, by decide +kernel⟩
abbrev s_law_count : Stmt := top 72
theorem sc_law_count : FnScope ["_law_parts", "_law_things"] ["_law_parts", "_law_things"] (defScope s_law_count) := ⟨rfl, rfl, rfl, by decide +kernel, rfl, by decide +kernel, by decide +kernel⟩
abbrev s_law_alike : Stmt := top 73
theorem sc_law_alike : FnScope ["_law_found", "_law_parts", "_law_due", "_law_one", "_law_other", "_law_part_here", "_law_thing_here"] ["_law_found", "_law_parts", "_law_due"] (defScope s_law_alike) := ⟨rfl, rfl, rfl, by decide +kernel, rfl, by decide +kernel, by decide +kernel⟩
abbrev s_law : Stmt := top 74
theorem sc_law : FnScope ["_law_script", "_law_book", "_law_signs_here", "_law_many", "_law_near", "_law_text", "_law_found", "_law_cells", "_law_parts", "_law_things", "_law_due", "_law_k", "_law_less", "_law_shape", "_law_head", "_law_tail"] ["_law_script"] (defScope s_law) := ⟨rfl, rfl, rfl, by decide +kernel, rfl, by decide +kernel, by decide +kernel⟩
abbrev s_Lister___init__ : Stmt := inClass (top 58) 0
theorem sc_Lister___init__ : FnScope ["self", "book"] ["self", "book"] (defScope s_Lister___init__) := ⟨rfl, rfl, rfl, by decide +kernel, rfl, by decide +kernel, by decide +kernel⟩
abbrev s_Stepper___init__ : Stmt := inClass (top 64) 0
theorem sc_Stepper___init__ : FnScope ["self", "book"] ["self", "book"] (defScope s_Stepper___init__) := ⟨rfl, rfl, rfl, by decide +kernel, rfl, by decide +kernel, by decide +kernel⟩
abbrev s_Stepper_steps_from : Stmt := inClass (top 64) 1
theorem sc_Stepper_steps_from : FnScope ["self", "shape", "value", "inner", "part", "thing"] ["self", "shape", "value"] (defScope s_Stepper_steps_from) := ⟨rfl, rfl, rfl, by decide +kernel, rfl, by decide +kernel, by decide +kernel⟩
abbrev s_Stepper_steps_by : Stmt := inClass (top 64) 2
theorem sc_Stepper_steps_by : FnScope ["self", "shape", "value", "inner", "kind", "steps"] ["self", "shape", "value", "inner"] (defScope s_Stepper_steps_by) := ⟨rfl, rfl, rfl, by decide +kernel, rfl, by decide +kernel, by decide +kernel⟩
variable {g : Gx}
local macro_rules | `(tactic| walk_at "gn") => `(tactic| simp only [gName, List.set_cons_zero, List.set_cons_succ])
local macro_rules | `(tactic| walk_at "rd") => `(tactic| simp (config := { failIfUnchanged := false, maxSteps := 10000000 }) only [L2.start, cxOf_K, nox_K, List.map_cons, List.map_nil, List.length_cons, List.length_nil, List.cons_append, List.nil_append, List.replicate_succ, List.replicate_zero, Nat.zero_add, Nat.reduceAdd, Nat.reduceSub, Nat.sub_self, tSeq, tIfS, tTest, tOp, tC, tVar, rI0, rI, rU, tUn, tRet, tRetN, tDrop, tNext, tBreak, tCont, tAsg, gName, gNil, gCons, tCons, tNil, tCB, tCall, tTry, tTryAs, tRaise, sFld, tFld, tMake, tMeth, Ends.gone, caught_K, tB, tAnd, tOr, tNot, tAndV, tOrV, tNotV, tIf, tChain, tNoPart, tPart, tSl, tNever, tAug, rIxL, rIxT, rSlL, tLst, tTup, gTup, tRev, tLZ, tConT, tDict0, tDNewT, tDGet, sDPut, rNotInD, rInD, tEither, tSlStep, rBits, rFind, rIn, tBM, tBM0, rAppend, rReverse, rEq, rNe, scal_ii, scal_ss, rCat, rSetL, gSub, ipI, capSt, List.getD_cons_zero, List.getD_cons_succ, decide_true, not_true_eq_false, not_false_eq_true,
  exists_eq_left', exists_eq_left, exists_eq', exists_eq, exists_and_left, and_assoc, Option.some.injEq, V.int.injEq, V.bl.injEq, V.ref.injEq, V.str.injEq, List.getElem?_cons_zero, List.getElem?_cons_succ, List.set_cons_zero, List.set_cons_succ, List.cons.injEq, and_true, true_and, List.append_nil, decide_eq_true_eq, Bool.not_eq_true', decide_eq_false_iff_not, Bool.not_not, Bool.not_true, Bool.not_false, Bool.true_eq_false, Bool.false_eq_true, if_true, if_false, ite_true, ite_false])
theorem cm {i j : Int} {m n : Nat} (h1 : i.natAbs < 2 ^ m) (h2 : j.natAbs < 2 ^ n) (h : m + n ≤ 100000000 := by decide) : CMulB i j := ⟨m, n, h1, h2, h⟩
theorem cpow {i j : Int} (h : 0 ≤ j ∧ j ≤ 1000000 ∧ i.natAbs < 2 ^ 64 := by decide) : CPow i j := h
theorem few {n : Nat} (h : n ≤ 100000) : n ≤ sizeLine := Nat.le_trans h (by decide)
theorem mod_nat (x : Int) {j : Int} (h : 0 < j) : ∃ r : Nat, x % j = r ∧ (r : Int) < j := ⟨(x % j).toNat, by have := Int.emod_nonneg x (Int.ne_of_gt h); omega, by have := Int.emod_lt_of_pos x h; have := Int.emod_nonneg x (Int.ne_of_gt h); omega⟩
/-! what the law reads of its script -/
def sp_law_whole : Sp := fun vs H Q _ => ∃ i : Int, vs = [.int i] ∧ Q (.bl true) H
def sp_law_cell_at (K : PySem.W.Frag) : Sp := fun vs H Q _ => ∃ (a : Addr) (ns : List Int) (k : Nat), vs = [.ref a, .int k] ∧ SqL K H a (ns.map V.int) ∧ ns.length ≤ 63 ∧ Q (.int (ns.getD k 0)) H
theorem getD_at {ns : List Int} {k : Nat} (h : k < ns.length) : atI (ns.map V.int) (k : Int) = some (.int (ns.getD k 0)) := atI_nat (by rw [List.getElem?_map, List.getElem?_eq_getElem h]; simp [h])
theorem ok_law_cell_at {C_Lister : Addr} {C_Stepper : Addr} (R : g.Raw "_law_cell_at" "_law_cell_at" s_law_cell_at ["_law_script", "_law_k"]) (b_len : g.mg "len" = none) : g.Fn (1) "_law_cell_at" ["_law_script", "_law_k"] (sp_law_cell_at g.K) := by
  refine R.fn sc_law_cell_at (fun vs H Q E h => by obtain ⟨a, ns, k, rfl, hS, hl, q⟩ := h; rfl) fun f_ cdv A outer s H vs Q E hr h => ?_
  obtain ⟨a, ns, k, rfl, hS, hl, q⟩ := h
  refine ⟨_, (pss_cons (ps_if (pt_cmpR op_lt (pv 1) (pe_bf b_len call_len_seq (pa_cons (pv 0) pa_nil)) (nomark _)) (pss_one (ps_ret (pe_ix ix_list (pv 0) (pv 1) (fun _ _ => rfl)))) pss_nil)
      (pss_one (ps_ret pe_int))), ?_⟩
  walk_at "rd"
  refine ⟨_, .inl hS, ?_⟩
  refine ite2 (fun c => ?_) (fun c => ?_)
  · have c' := c
    rw [List.length_map] at c'
    exact ⟨_, hS, _, getD_at (by omega), q⟩
  · have c' := c
    rw [List.length_map] at c'
    rw [show ns.getD k 0 = 0 by simp [show ns.length ≤ k by omega]] at q
    exact q
/-! values, mirrored: new objects of the heap -/
mutual
inductive Vd (H : Hp) : V → PyData → Prop
  | non : Vd H .non .none
  | bl (b : Bool) : Vd H (.bl b) (.bool b)
  | int (i : Int) : Vd H (.int i) (.int i)
  | str (l : List Nat) (h : PyData.strOk (S l) = true) (hl : l.length ≤ 1000) : Vd H (.str (S l)) (.str (S l))
  | lst {a : Addr} {vs : List V} {ds : List PyData} : H a = some (.lst vs) → vs.length ≤ 1000 → Vds H vs ds → Vd H (.ref a) (.list ds)
  | tup {a : Addr} {vs : List V} {ds : List PyData} : H a = some (.tup vs) → vs.length ≤ 1000 → Vds H vs ds → Vd H (.ref a) (.tuple ds)
inductive Vds (H : Hp) : List V → List PyData → Prop
  | nil : Vds H [] []
  | cons {v : V} {d : PyData} {vs : List V} {ds : List PyData} : Vd H v d → Vds H vs ds → Vds H (v :: vs) (d :: ds)
end
mutual
theorem Vd.keep {H H' : Hp} (e : Same H H') : ∀ {v : V} {d : PyData}, Vd H v d → Vd H' v d
  | _, _, .non => .non
  | _, _, .bl b => .bl b
  | _, _, .int i => .int i
  | _, _, .str x h hl => .str x h hl
  | _, _, .lst h hn hs => .lst (e _ _ h) hn (hs.keep e)
  | _, _, .tup h hn hs => .tup (e _ _ h) hn (hs.keep e)
theorem Vds.keep {H H' : Hp} (e : Same H H') : ∀ {vs : List V} {ds : List PyData}, Vds H vs ds → Vds H' vs ds
  | _, _, .nil => .nil
  | _, _, .cons h hs => .cons (h.keep e) (hs.keep e)
end
theorem Vds.length {H : Hp} : ∀ {vs : List V} {ds : List PyData}, Vds H vs ds → vs.length = ds.length
  | _, _, .nil => rfl
  | _, _, .cons _ hs => congrArg (· + 1) hs.length
theorem Vds.at {H : Hp} : ∀ {vs : List V} {ds : List PyData} {i : Nat} {v : V}, Vds H vs ds → vs[i]? = some v → ∃ d, ds[i]? = some d ∧ Vd H v d
  | _, _, 0, v, .cons a _, h => by
    have : _ = v := Option.some.inj h
    subst this
    exact ⟨_, rfl, a⟩
  | _, _, i + 1, v, .cons _ b, h => b.at (i := i) h
/-- the name of its type -/
def tn : PyData → String
  | .none => "NoneType"
  | .bool _ => "bool"
  | .int _ => "int"
  | .str _ => "str"
  | .list _ => "list"
  | .tuple _ => "tuple"
  | _ => ""
theorem Vd.ty {K : PySem.W.Frag} {H : Hp} {v : V} {d : PyData} (h : Vd H v d) : TyOf K H v (.type (tn d)) := by
  cases h with
  | non => exact .non
  | bl b => exact .bl b
  | int i => exact .int i
  | str l h hl => exact .str _
  | lst h => exact .lst h
  | tup h => exact .tup h
/-! shapes, mirrored -/
inductive Sh
  | whole (lo hi : Int)
  | text (signs : List Nat)
  | row (ps : List Sh)
  | many (p : Sh)
  | pick (ms : List (List Nat)) (ps : List Sh)
  | use (nm : List Nat)
/-- branches: marks and parts -/
def Brs (K : PySem.W.Frag) (H : Hp) (as : List Addr) (ms : List (List Nat)) (vs : List V) : Prop := as.length = ms.length ∧ vs.length = ms.length ∧ ∀ (j : Nat) a m v, as[j]? = some a → ms[j]? = some m → vs[j]? = some v → SqT K H a [.str (S m), v]
theorem Brs.keep {K : PySem.W.Frag} {H H' : Hp} (e : Same H H') {as : List Addr} {ms : List (List Nat)} {vs : List V} (h : Brs K H as ms vs) : Brs K H' as ms vs := ⟨h.1, h.2.1, fun j a m v h1 h2 h3 => e.tup (h.2.2 j a m v h1 h2 h3)⟩
mutual
inductive ShAt (K : PySem.W.Frag) (H : Hp) : V → Sh → Prop
  | whole {a : Addr} {lo hi : Int} : SqT K H a [.str "whole", .int lo, .int hi] → ShAt K H (.ref a) (.whole lo hi)
  | text {a : Addr} {signs : List Nat} : SqT K H a [.str "text", .str (S signs)] → signs.length ≤ 1000 → ShAt K H (.ref a) (.text signs)
  | row {a b : Addr} {vs : List V} {ps : List Sh} : SqT K H a [.str "row", .ref b] → SqT K H b vs → ShAts K H vs ps → vs.length ≤ 1000 → ShAt K H (.ref a) (.row ps)
  | many {a : Addr} {v : V} {p : Sh} : SqT K H a [.str "many", v] → ShAt K H v p → ShAt K H (.ref a) (.many p)
  | pick {a b : Addr} {as : List Addr} {ms : List (List Nat)} {vs : List V} {ps : List Sh} : SqT K H a [.str "pick", .ref b] → SqT K H b (as.map V.ref) → Brs K H as ms vs → ShAts K H vs ps → as.length ≤ 1000 → ShAt K H (.ref a) (.pick ms ps)
  | use {a : Addr} {nm : List Nat} : SqT K H a [.str "use", .str (S nm)] → ShAt K H (.ref a) (.use nm)
inductive ShAts (K : PySem.W.Frag) (H : Hp) : List V → List Sh → Prop
  | nil : ShAts K H [] []
  | cons {v : V} {p : Sh} {vs : List V} {ps : List Sh} : ShAt K H v p → ShAts K H vs ps → ShAts K H (v :: vs) (p :: ps)
end
mutual
theorem ShAt.keep {K : PySem.W.Frag} {H H' : Hp} (e : Same H H') : ∀ {v : V} {d : Sh}, ShAt K H v d → ShAt K H' v d
  | _, _, .whole h => .whole (e.tup h)
  | _, _, .text h hl => .text (e.tup h) hl
  | _, _, .row h h2 hs hl => .row (e.tup h) (e.tup h2) (hs.keep e) hl
  | _, _, .many h h2 => .many (e.tup h) (h2.keep e)
  | _, _, .pick h h2 hb hs hl => .pick (e.tup h) (e.tup h2) (hb.keep e) (hs.keep e) hl
  | _, _, .use h => .use (e.tup h)
theorem ShAts.keep {K : PySem.W.Frag} {H H' : Hp} (e : Same H H') : ∀ {vs : List V} {ds : List Sh}, ShAts K H vs ds → ShAts K H' vs ds
  | _, _, .nil => .nil
  | _, _, .cons h hs => .cons (h.keep e) (hs.keep e)
end
theorem ShAts.length {K : PySem.W.Frag} {H : Hp} : ∀ {vs : List V} {ds : List Sh}, ShAts K H vs ds → vs.length = ds.length
  | _, _, .nil => rfl
  | _, _, .cons _ hs => congrArg (· + 1) hs.length
theorem ShAts.at {K : PySem.W.Frag} {H : Hp} : ∀ {vs : List V} {ds : List Sh} {i : Nat} {v : V}, ShAts K H vs ds → vs[i]? = some v → ∃ d, ds[i]? = some d ∧ ShAt K H v d
  | _, _, 0, v, .cons a _, h => by
    have : _ = v := Option.some.inj h
    subst this
    exact ⟨_, rfl, a⟩
  | _, _, i + 1, v, .cons _ b, h => b.at (i := i) h
/-- a book: names and shapes -/
abbrev Bk := List (List Nat × Sh)
def BkAt (K : PySem.W.Frag) (H : Hp) (b : V) (bk : Bk) : Prop := ∃ (a : Addr) (as : List Addr) (vs : List V), b = .ref a ∧ SqL K H a (as.map V.ref) ∧ Brs K H as (bk.map (·.1)) vs ∧ ShAts K H vs (bk.map (·.2))
theorem BkAt.keep {K : PySem.W.Frag} {H H' : Hp} (e : Same H H') {b : V} {bk : Bk} (h : BkAt K H b bk) : BkAt K H' b bk := by
  obtain ⟨a, as, vs, h1, h2, h3, h4⟩ := h
  exact ⟨a, as, vs, h1, e.seq h2, h3.keep e, h4.keep e⟩
/-- the first place of a mark -/
def plc (ms : List (List Nat)) (x : Str) : Option Nat := ms.findIdx? fun m => decide (S m = x)
def has_mk (ms : List (List Nat)) : PyData → Bool
  | .tuple [.str x, _] => (plc ms x).isSome
  | _ => false
def pick_in (ms : List (List Nat)) (ps : List Sh) : PyData → List (Sh × PyData)
  | .tuple [.str x, d] => ((plc ms x).bind fun i => ps[i]?).toList.map fun p => (p, d)
  | _ => []
theorem pick_inv {ms : List (List Nat)} {d : PyData} (h : has_mk ms d = true) : ∃ x d' i, d = .tuple [.str x, d'] ∧ plc ms x = some i := by
  unfold has_mk at h
  split at h
  · exact ⟨_, _, _, rfl, (Option.some_get h).symm⟩
  · cases h
theorem plc_at {ms : List (List Nat)} {x : Str} {i : Nat} (h : plc ms x = some i) : i < ms.length := by
  rw [plc, List.findIdx?_eq_some_iff_getElem] at h
  exact h.1
theorem pick_in_len {ms : List (List Nat)} {ps : List Sh} {d : PyData} : (pick_in ms ps d).length ≤ 1000 := by
  unfold pick_in
  split
  · rw [List.length_map]
    exact Nat.le_trans (by cases (plc _ _).bind _ <;> simp) (show 1 ≤ 1000 by decide)
  · exact Nat.zero_le _
/-- whether a value has the form of a shape, what is within it, its size by the sizes within -/
def form : Sh → PyData → Bool
  | .whole lo hi, .int i => decide (lo ≤ i) && decide (i ≤ hi)
  | .text signs, .str x => x.cps.toList.all fun c => decide (c ∈ signs)
  | .row ps, .tuple ds => decide (ds.length = ps.length)
  | .many _, .list _ => true
  | .pick ms _, d => has_mk ms d
  | .use _, _ => true
  | _, _ => false
def within (bk : Bk) : Sh → PyData → List (Sh × PyData)
  | .row ps, .tuple ds => ps.zip ds
  | .many p, .list ds => ds.map fun d => (p, d)
  | .pick ms ps, d => pick_in ms ps d
  | .use nm, d => ((plc (bk.map (·.1)) (S nm)).bind fun i => (bk.map (·.2))[i]?).toList.map fun p => (p, d)
  | _, _ => []
def sz : Sh → PyData → List Nat → Nat
  | .whole lo _, .int i, _ => Builtin.Int.intBits (i - lo)
  | .text _, .str x, _ => x.length
  | .row _, _, ns => ns.sum
  | .many _, _, ns => ns.length + ns.sum
  | .pick _ _, _, ns => ns.headD 0
  | .use _, _, ns => 1 + ns.headD 0
  | _, _, _ => 0
def jd (bk : Bk) : Nat → Sh → PyData → Option Nat
  | 0, _, _ => none
  | n + 1, sh, d => if form sh d = true then ((within bk sh d).mapM fun w => jd bk n w.1 w.2).map (sz sh d) else none
/-- the book has the name that a shape uses -/
def Fnd (bk : Bk) : Sh → Prop
  | .use nm => ∃ i, plc (bk.map (·.1)) (S nm) = some i
  | _ => True
/-- so many turns are enough -/
def Enf (bk : Bk) : Nat → Sh → PyData → Prop
  | 0, _, _ => False
  | n + 1, sh, d => form sh d = true → Fnd bk sh ∧ ∀ w ∈ within bk sh d, Enf bk n w.1 w.2
theorem atI30 (a b c : V) : atI [a, b, c] 0 = some a := rfl
theorem atI31 (a b c : V) : atI [a, b, c] 1 = some b := rfl
theorem atI32 (a b c : V) : atI [a, b, c] 2 = some c := rfl
theorem atI20 (a b : V) : atI [a, b] 0 = some a := rfl
theorem atI21 (a b : V) : atI [a, b] 1 = some b := rfl
def spNo : Sp := fun _ _ _ _ => False
def sp_is_whole_number (K : PySem.W.Frag) : Sp := fun vs H Q _ => ∃ v d, vs = [v] ∧ Vd H v d ∧ Q (.bl (match d with | .int _ => true | _ => false)) H
theorem ok_is_whole_number {C_Lister : Addr} {C_Stepper : Addr} (R : g.Raw "is_whole_number" "is_whole_number" s_is_whole_number ["thing"]) (b_bool : g.mg "bool" = none) (b_int : g.mg "int" = none) (b_isinstance : g.mg "isinstance" = none) : g.Fn (1) "is_whole_number" ["thing"] (sp_is_whole_number g.K) := by
  refine R.fn sc_is_whole_number (fun vs H Q E h => by obtain ⟨v, d, rfl, hd, q⟩ := h; rfl) fun f_ cdv A outer s H vs Q E hr h => ?_
  obtain ⟨v, d, rfl, hd, q⟩ := h
  refine ⟨_, (pss_one (ps_ret (pe_and (pe_bf b_isinstance call_isinst (pa_cons (pv 0) (pa_cons (pe_bn (T := "int") b_int) pa_nil))) (pe_one (pe_not (pe_bf b_isinstance call_isinst (pa_cons (pv 0) (pa_cons (pe_bn (T := "bool") b_bool) pa_nil)))))))), ?_⟩
  walk_at "rd"
  cases hd with
  | non => exact ⟨_, rfl, _, .non, false, rfl, iteF q⟩
  | bl b => exact ⟨_, rfl, _, .bl b, true, rfl, iteT ⟨_, rfl, _, .bl b, true, rfl, q⟩⟩
  | int i => exact ⟨_, rfl, _, .int i, true, rfl, iteT ⟨_, rfl, _, .int i, false, rfl, q⟩⟩
  | str l h hl => exact ⟨_, rfl, _, .str _, false, rfl, iteF q⟩
  | lst h => exact ⟨_, rfl, _, .lst h, false, rfl, iteF q⟩
  | tup h => exact ⟨_, rfl, _, .tup h, false, rfl, iteF q⟩
def sp_branch_place (K : PySem.W.Frag) : Sp := fun vs H Q _ => ∃ (b : Addr) (as : List Addr) (ms : List (List Nat)) (us : List V) (x : Str), vs = [.ref b, .str x] ∧ SqT K H b (as.map V.ref) ∧ Brs K H as ms us ∧ ∀ H', Same H H' → Q (match plc ms x with | some i => .int (i : Nat) | none => .non) H'
theorem ok_branch_place {C_Lister : Addr} {C_Stepper : Addr} (R : g.Raw "branch_place" "branch_place" s_branch_place ["branches", "mark"]) (b_enumerate : g.mg "enumerate" = none) : g.Fn (1) "branch_place" ["branches", "mark"] (sp_branch_place g.K) := by
  refine R.fn sc_branch_place (fun vs H Q E h => by obtain ⟨b, as, ms, us, x, rfl, hb, hbr, q⟩ := h; rfl) fun f_ cdv A outer s H vs Q E hr h => ?_
  obtain ⟨b, as, ms, us, x, rfl, hb, hbr, q⟩ := h
  refine ⟨_, (pss_cons (ps_for PassesOwn.never rfl (pi_enumT rfl b_enumerate (pa_cons (pv 0) pa_nil)) (pg_tup (n := 2) rfl (pgs_cons (pg_name (i := 2) sc_branch_place.nd rfl (Or.inl rfl)) (pgs_cons (pg_name (i := 3) sc_branch_place.nd rfl (Or.inl rfl)) pgs_nil))) (pss_one (ps_if (pt_cmpR op_eq (pe_ix ix_tup (pv 3) pe_int (fun _ _ => rfl)) (pv 1) (nomark _)) (pss_one (ps_ret (pv 2))) pss_nil)))
      (pss_one (ps_ret pe_non))), ?_⟩
  walk_at "rd"
  refine tFor_enumT (K := g.K) (xs := as.map V.ref) (fun i σ H' => ∃ o2 o3, σ = [some (.ref b), some (.str x), o2, o3] ∧ Same H H' ∧ ∀ j m, j < i → ms[j]? = some m → S m ≠ x) (fun R r => by walk_at "rd"; exact r) ⟨_, _, rfl, .refl H, fun j m h => by omega⟩ (fun i σ H' hi ⟨o2, o3, _, sm, _⟩ => sm.tup hb) ?_ ?_
  · rintro i v σ H' T hv ⟨o2, o3, rfl, sm, hno⟩ hT
    obtain ⟨b1, b2, b3⟩ := hbr
    have hi : i < as.length := by simpa using (List.getElem?_eq_some_iff.mp hv).1
    have ha : as[i]? = some as[i] := List.getElem?_eq_getElem hi
    rw [List.getElem?_map, ha] at hv
    have : V.ref as[i] = v := Option.some.inj hv
    subst this
    have hm : ms[i]? = some (ms[i]'(by omega)) := List.getElem?_eq_getElem _
    have hu : us[i]? = some (us[i]'(by omega)) := List.getElem?_eq_getElem _
    have ht := b3 i _ _ _ ha hm hu
    have s2 := sm.trans (.upd_new hT (.tup [.int (i : Int), .ref as[i]]))
    generalize hme : ms[i]'(by omega) = m at hm ht
    walk_at "rd"
    refine ⟨_, SqT.of upd_same, rfl, _, _, rfl, _, _, rfl, rfl, _, rfl, _, s2.tup ht, _, atI20 _ _, rfl, ?_⟩
    by_cases c : S m = x
    · have hp : plc ms x = some i := by
        rw [plc, List.findIdx?_eq_some_iff_getElem]
        refine ⟨by omega, decide_eq_true (by rw [hme]; exact c), fun j hj => ?_⟩
        have := hno j (ms[j]'(by omega)) hj (List.getElem?_eq_getElem _)
        simpa using this
      rw [if_pos (congrArg V.str c)]
      have q := q _ s2
      rw [hp] at q
      exact q
    · rw [if_neg (fun e => c (V.str.inj e))]
      refine ⟨s2, fun j m' hj hm' => ?_⟩
      rcases Nat.lt_or_ge j i with h | h
      · exact hno j m' h hm'
      · have : j = i := by omega
        subst this
        rw [hm] at hm'
        have := Option.some.inj hm'
        subst this
        exact c
  · rintro σ H' ⟨o2, o3, rfl, sm, hno⟩
    walk_at "rd"
    have : plc ms x = none := by
      rw [plc, List.findIdx?_eq_none_iff]
      intro m hm
      obtain ⟨j, hj⟩ := List.mem_iff_getElem?.mp hm
      have hjl := (List.getElem?_eq_some_iff.mp hj).1
      exact decide_eq_false (hno j m (by rw [List.length_map, hbr.1]; exact hjl) hj)
    have q := q H' sm
    rw [this] at q
    exact q
theorem has_mk_form {ms : List (List Nat)} (ps : List Sh) (d : PyData) : has_mk ms d = form (.pick ms ps) d := by cases d <;> rfl
theorem within_use (bk : Bk) (nm : List Nat) (d : PyData) : within bk (.use nm) d = ((plc (bk.map (·.1)) (S nm)).bind fun i => (bk.map (·.2))[i]?).toList.map fun p => (p, d) := by cases d <;> rfl
theorem within_pick (bk : Bk) (ms : List (List Nat)) (ps : List Sh) (d : PyData) : within bk (.pick ms ps) d = pick_in ms ps d := by cases d <;> rfl
def sp_shape_of (K : PySem.W.Frag) : Sp := fun vs H Q _ => ∃ (b : V) (bk : Bk) (x : Str) (i : Nat) (H0 : Hp), vs = [b, .str x] ∧ Same H0 H ∧ BkAt K H0 b bk ∧ plc (bk.map (·.1)) x = some i ∧ ∀ v sh, (bk.map (·.2))[i]? = some sh → ShAt K H0 v sh → Q v H
theorem ok_shape_of {C_Lister : Addr} {C_Stepper : Addr} (R : g.Raw "shape_of" "shape_of" s_shape_of ["book", "name"]) : g.Fn (1) "shape_of" ["book", "name"] (sp_shape_of g.K) := by
  refine R.fn sc_shape_of (fun vs H Q E h => by obtain ⟨b, bk, x, i, H0, rfl, s0, hb, hi, q⟩ := h; rfl) fun f_ cdv A outer s H vs Q E hr h => ?_
  obtain ⟨b, bk, x, i, H0, rfl, s0, hb, hi, q⟩ := h
  refine ⟨_, (pss_cons (ps_for PassesOwn.never rfl (pi_list (pv 0)) (pg_name (i := 2) sc_shape_of.nd rfl (Or.inl rfl)) (pss_one (ps_if (pt_cmpR op_eq (pe_ix ix_tup (pv 2) pe_int (fun _ _ => rfl)) (pv 1) (nomark _)) (pss_one (ps_ret (pe_ix ix_tup (pv 2) pe_int (fun _ _ => rfl)))) pss_nil)))
      (pss_one ps_never)), ?_⟩
  obtain ⟨a, as, vs, rfl, hS, ⟨b1, b2, b3⟩, hsh⟩ := hb
  have hil := plc_at hi
  walk_at "rd"
  refine tFor_list (K := g.K) (a := a) (xs := as.map V.ref) (fun j σ H' => ∃ o2, σ = [some (.ref a), some (.str x), o2] ∧ H' = H ∧ j ≤ i) (fun R r => by walk_at "rd"; exact r) ⟨_, rfl, rfl, Nat.zero_le _⟩ (fun j σ H' _ ⟨o2, _, e, _⟩ => by rw [e]; exact s0.seq hS) ?_ ?_
  · rintro j v σ H' hv ⟨o2, rfl, rfl, hj⟩
    have hjl : j < as.length := by simpa using (List.getElem?_eq_some_iff.mp hv).1
    have ha : as[j]? = some as[j] := List.getElem?_eq_getElem hjl
    rw [List.getElem?_map, ha] at hv
    have : V.ref as[j] = v := Option.some.inj hv
    subst this
    have hm : (bk.map (·.1))[j]? = some ((bk.map (·.1))[j]'(by omega)) := List.getElem?_eq_getElem _
    have hu : vs[j]? = some (vs[j]'(by omega)) := List.getElem?_eq_getElem _
    have ht := b3 j _ _ _ ha hm hu
    obtain ⟨sh, g1, s1⟩ := hsh.at hu
    have hpl := hi
    rw [plc, List.findIdx?_eq_some_iff_getElem] at hpl
    obtain ⟨_, p1, p2⟩ := hpl
    walk_at "rd"
    refine ⟨_, s0.tup ht, _, atI20 _ _, rfl, ?_⟩
    by_cases c : S ((bk.map (·.1))[j]'(by omega)) = x
    · have : j = i := by
        rcases Nat.lt_or_ge j i with h | h
        · exact ((p2 j h) (decide_eq_true c)).elim
        · omega
      subst this
      rw [if_pos (congrArg V.str c)]
      exact ⟨_, s0.tup ht, _, atI21 _ _, q _ _ g1 s1⟩
    · rw [if_neg (fun e => c (V.str.inj e))]
      have : j ≠ i := fun e => by subst e; exact c (of_decide_eq_true p1)
      omega
  · rintro σ H' ⟨o2, rfl, rfl, hj⟩
    rw [List.length_map] at hj
    rw [List.length_map] at hil b1
    omega
def sp_has_mark (K : PySem.W.Frag) : Sp := fun vs H Q _ => ∃ (b : Addr) (as : List Addr) (ms : List (List Nat)) (us : List V) (v : V) (d : PyData), vs = [.ref b, v] ∧ SqT K H b (as.map V.ref) ∧ Brs K H as ms us ∧ Vd H v d ∧ ∀ H', Same H H' → Q (.bl (has_mk ms d)) H'
theorem ok_has_mark {k : Nat} {C_Lister : Addr} {C_Stepper : Addr} (R : g.Raw "has_mark" "has_mark" s_has_mark ["branches", "value"]) (F_branch_place : g.Fn k "branch_place" ["branches", "mark"] (sp_branch_place g.K)) (b_isinstance : g.mg "isinstance" = none) (b_len : g.mg "len" = none) (b_str : g.mg "str" = none) (b_tuple : g.mg "tuple" = none) : g.Fn (k + 1) "has_mark" ["branches", "value"] (sp_has_mark g.K) := by
  refine R.fn sc_has_mark (fun vs H Q E h => by obtain ⟨b, as, ms, us, v, d, rfl, hb, hbr, hv, q⟩ := h; rfl) fun f_ cdv A outer s H vs Q E hr h => ?_
  obtain ⟨b, as, ms, us, v, d, rfl, hb, hbr, hv, q⟩ := h
  refine ⟨_, (pss_cons (ps_if (pw_or (pt_not (pt_val (pe_bf b_isinstance call_isinst (pa_cons (pv 1) (pa_cons (pe_bn (T := "tuple") b_tuple) pa_nil))))) (pw_or1 (pt_cmpR op_ne (pe_bf b_len call_len_seq (pa_cons (pv 1) pa_nil)) pe_int (nomark _)))).pt (pss_one (ps_ret pe_bl)) pss_nil)
      (pss_one (ps_ret (pe_and (pe_bf b_isinstance call_isinst (pa_cons (pe_ix ix_tup (pv 1) pe_int (fun _ _ => rfl)) (pa_cons (pe_bn (T := "str") b_str) pa_nil))) (pe_one (pe_cmpR op_notN (pe_fn F_branch_place hr (pa_cons (pv 0) (pa_cons (pe_ix ix_tup (pv 1) pe_int (fun _ _ => rfl)) pa_nil))) pe_non (nomark _))))))), ?_⟩
  have q0 := q H (.refl H)
  have ty := hv.ty (K := g.K)
  walk_at "rd"
  cases hv with
  | @tup a vs ds h hl hds =>
    refine ⟨_, rfl, _, ty, true, rfl, iteN (by simp) ⟨a, rfl, _, .inr (SqT.of h), ?_⟩⟩
    cases hds with
    | nil => exact iteY (by simp) q0
    | @cons v1 d1 vs1 ds1 h1 hds1 =>
    cases hds1 with
    | nil => cases d1 <;> exact iteY (by simp) q0
    | @cons v2 d2 vs2 ds2 h2 hds2 =>
    cases hds2 with
    | @cons v3 d3 vs3 ds3 h3 hds3 => cases d1 <;> exact iteY (by simp; omega) q0
    | nil =>
    refine iteN (by simp) ⟨a, rfl, _, SqT.of h, _, atI20 _ _, _, rfl, _, h1.ty, ?_⟩
    cases h1 with
    | str l hs hl =>
      refine ⟨true, rfl, iteT ⟨a, rfl, _, SqT.of h, _, atI20 _ _, b, as, ms, us, S l, rfl, hb, hbr, fun H' s' => ?_⟩⟩
      have q := q H' s'
      simp only [has_mk] at q
      cases e : plc ms (S l) with
      | none => rw [e] at q; exact q
      | some i => rw [e] at q; exact q
    | _ => exact ⟨false, rfl, iteF q0⟩
  | _ => exact ⟨_, rfl, _, ty, false, rfl, iteY rfl q0⟩
end KW
set_option maxHeartbeats 8000000
namespace KW
open PySem L2

variable {g : Gx}
variable {bk : Bk}
variable {m : Nat}
variable {bk : Bk} {shs : List Sh} {ds : List PyData}
variable {bk : Bk} {shs : List Sh} {ds : List PyData} {sg tl : List Nat}
local macro_rules | `(tactic| walk_at "gn") => `(tactic| simp only [gName, List.set_cons_zero, List.set_cons_succ])

local macro_rules | `(tactic| walk_at "rd") => `(tactic| simp (config := { failIfUnchanged := false, maxSteps := 10000000 }) only [L2.start, cxOf_K, nox_K, List.map_cons, List.map_nil, List.length_cons, List.length_nil, List.cons_append, List.nil_append, List.replicate_succ, List.replicate_zero, Nat.zero_add, Nat.reduceAdd, Nat.reduceSub, Nat.sub_self, tSeq, tIfS, tTest, tOp, tC, tVar, rI0, rI, rU, tUn, tRet, tRetN, tDrop, tNext, tBreak, tCont, tAsg, gName, gNil, gCons, tCons, tNil, tCB, tCall, tTry, tTryAs, tRaise, sFld, tFld, tMake, tMeth, Ends.gone, caught_K, tB, tAnd, tOr, tNot, tAndV, tOrV, tNotV, tIf, tChain, tNoPart, tPart, tSl, tNever, tAug, rIxL, rIxT, rSlL, tLst, tTup, gTup, tRev, tLZ, tConT, tDict0, tDNewT, tDGet, sDPut, rNotInD, rInD, tEither, tSlStep, rBits, rFind, rIn, tBM, tBM0, rAppend, rReverse, rEq, rNe, scal_ii, scal_ss, rCat, rSetL, gSub, ipI, capSt, List.getD_cons_zero, List.getD_cons_succ, decide_true, not_true_eq_false, not_false_eq_true,
  exists_eq_left', exists_eq_left, exists_eq', exists_eq, exists_and_left, and_assoc, Option.some.injEq, V.int.injEq, V.bl.injEq, V.ref.injEq, V.str.injEq, List.getElem?_cons_zero, List.getElem?_cons_succ, List.set_cons_zero, List.set_cons_succ, List.cons.injEq, and_true, true_and, List.append_nil, decide_eq_true_eq, Bool.not_eq_true', decide_eq_false_iff_not, Bool.not_not, Bool.not_true, Bool.not_false, Bool.true_eq_false, Bool.false_eq_true, if_true, if_false, ite_true, ite_false])

def sp_has_form (K : PySem.W.Frag) : Sp := fun vs H Q _ => ∃ (x v : V) (sh : Sh) (d : PyData), vs = [x, v] ∧ ShAt K H x sh ∧ Vd H v d ∧ ∀ H', Same H H' → Q (.bl (form sh d)) H'
theorem ok_has_form {k : Nat} {C_Lister : Addr} {C_Stepper : Addr} (R : g.Raw "has_form" "has_form" s_has_form ["shape", "value"]) (F_is_whole_number : g.Fn k "is_whole_number" ["thing"] (sp_is_whole_number g.K)) (F_has_mark : g.Fn k "has_mark" ["branches", "value"] (sp_has_mark g.K)) (b_all : g.mg "all" = none) (b_isinstance : g.mg "isinstance" = none) (b_len : g.mg "len" = none) (b_list : g.mg "list" = none) (b_str : g.mg "str" = none) (b_tuple : g.mg "tuple" = none) (c_OF_ONE_PART : g.ConT "OF_ONE_PART" ([.str "many", .str "rising", .str "unlike"])) : g.Fn (k + 1) "has_form" ["shape", "value"] (sp_has_form g.K) := by
  refine R.fn sc_has_form (fun vs H Q E h => by obtain ⟨x, v, sh, d, rfl, hx, hv, q⟩ := h; rfl) fun f_ cdv A outer s H vs Q E hr h => ?_
  obtain ⟨x, v, sh, d, rfl, hx, hv, q⟩ := h
  refine ⟨_, (pss_cons (ps_set (i := 2) sc_has_form.nd rfl (Or.inl rfl) (pe_ix ix_tup (pv 0) pe_int (fun _ _ => rfl)))
      (pss_cons (ps_if (pt_cmpR op_eq (pv 2) pe_str (nomark _)) (pss_one (ps_ret (pe_and (pe_fn F_is_whole_number hr (pa_cons (pv 1) pa_nil)) (pe_one (pe_chain op_le op_le (pe_ix ix_tup (pv 0) pe_int (fun _ _ => rfl)) (pv 1) (pe_ix ix_tup (pv 0) pe_int (fun _ _ => rfl))))))) pss_nil)
      (pss_cons (ps_if (pt_cmpR op_eq (pv 2) pe_str (nomark _)) (pss_one (ps_ret (pe_and (pe_bf b_isinstance call_isinst (pa_cons (pv 1) (pa_cons (pe_bn (T := "str") b_str) pa_nil))) (pe_one (pe_bf b_all (call_all_bools rfl) (pa_cons (pe_lc (g := gName 0) (src := [none, some 0]) (N' := (["sign", "shape"] : List Str)) (.own (.cap (i := 0) rfl rfl (by first | exact Or.inl rfl | exact Or.inr rfl) .nil)) rfl (pi_str (pv 1)) (fun cl C s₀ H₀ fp pn => (pg_name (i := 0) (show List.Nodup (["sign", "shape"] : List Str) by decide +kernel) rfl (Or.inl rfl) (Or.inr rfl))) (fun cl C s₀ H₀ fp pn => pts_nil) (fun cl C s₀ H₀ fp pn => (pe_cmpR op_in_str (pv 0) (pe_ix (ix_tupK (K := g.K)) (pv 1) pe_int (fun _ _ => rfl)) rfl)) (by intro x hx; simp at hx; first | (subst hx; exact Or.inl rfl) | (rcases hx with rfl | rfl <;> exact Or.inl rfl) | (rcases hx with rfl | rfl | rfl <;> exact Or.inl rfl))) pa_nil)))))) pss_nil)
      (pss_cons (ps_if (pt_cmpR op_eq (pv 2) pe_str (nomark _)) (pss_one (ps_ret (pe_and (pe_bf b_isinstance call_isinst (pa_cons (pv 1) (pa_cons (pe_bn (T := "tuple") b_tuple) pa_nil))) (pe_one (pe_cmpR op_eq (pe_bf b_len call_len_seq (pa_cons (pv 1) pa_nil)) (pe_bf b_len call_len_seq (pa_cons (pe_ix ix_tup (pv 0) pe_int (fun _ _ => rfl)) pa_nil)) (nomark _)))))) pss_nil)
      (pss_cons (ps_if (pt_cmpR op_eq (pv 2) pe_str (nomark _)) (pss_one (ps_ret (pe_fn F_has_mark hr (pa_cons (pe_ix ix_tup (pv 0) pe_int (fun _ _ => rfl)) (pa_cons (pv 1) pa_nil))))) pss_nil)
      (pss_cons (ps_if (pt_cmpR op_eq (pv 2) pe_str (nomark _)) (pss_one ps_never) pss_nil)
      (pss_cons (ps_if (pt_cmpR op_in_seq (pv 2) (pe_gt c_OF_ONE_PART) rfl) (pss_one (ps_ret (pe_bf b_isinstance call_isinst (pa_cons (pv 1) (pa_cons (pe_bn (T := "list") b_list) pa_nil))))) pss_nil)
      (pss_one (ps_ret pe_bl))))))))), ?_⟩
  have q0 := q H (.refl H)
  have ty := hv.ty (K := g.K)
  cases hx with
  | @whole a lo hi ha =>
    walk_at "rd"
    refine ⟨_, ha, _, atI30 _ _ _, ?_⟩
    walk_at "rd"
    refine ⟨v, d, rfl, hv, _, rfl, ?_⟩
    cases hv with
    | int i =>
      refine iteT ⟨_, ha, _, atI31 _ _ _, _, rfl, _, rfl, ?_⟩
      refine ite2 (fun c => ?_) (fun c => ?_)
      · refine ⟨_, ha, _, atI32 _ _ _, _, rfl, _, rfl, ?_⟩
        simp only [form, decide_eq_true c, Bool.true_and] at q0; exact q0
      · simp only [form, decide_eq_false c, Bool.false_and] at q0; exact q0
    | _ => exact iteF q0
  | @text a signs ha hn =>
    walk_at "rd"
    refine ⟨_, ha, _, atI20 _ _, ?_⟩
    walk_at "rd"
    refine iteN (by decide) ?_
    cases hv with
    | str l h hl =>
      refine ⟨_, rfl, _, .str _, true, rfl, iteT ?_⟩
      refine tLC_str (l := l) ((l.map fun c => decide (c ∈ signs)).map V.bl) (fun R r => by walk_at "rd"; exact r) (by simp) (by omega) ?_ ?_
      · intro i c y H' hc hy sm R r
        rw [List.getElem?_map, List.getElem?_map, hc] at hy
        have : V.bl (decide (c ∈ signs)) = y := Option.some.inj hy
        subst this
        walk_at "rd"
        refine ⟨_, sm.tup ha, _, atI21 _ _, ?_⟩
        walk_at "rd"
        rw [in_sign]
        exact r H' (.refl H')
      · intro D H' hD sm hd
        refine ⟨D, rfl, _, SqL.of hd, ?_⟩
        have := q H' sm
        simp only [form, S_list] at this
        simpa [List.all_map] using this
    | _ => exact ⟨_, rfl, _, ty, false, rfl, iteF q0⟩
  | @row a b vs ps ha hb hs hn =>
    walk_at "rd"
    refine ⟨_, ha, _, atI20 _ _, ?_⟩
    walk_at "rd"
    refine iteN (by decide) (iteN (by decide) ?_)
    cases hv with
    | @tup c us ds h hl hds =>
      refine ⟨_, rfl, _, ty, true, rfl, iteT ⟨_, rfl, _, .inr (SqT.of h), _, ha, _, atI21 _ _, _, rfl, _, .inr hb, ?_⟩⟩
      have e1 := hds.length
      have e2 := hs.length
      rw [show decide ((us.length : Int) = (vs.length : Int)) = form (.row ps) (.tuple ds) from decide_eq_decide.mpr (by omega)]
      exact q0
    | _ => exact ⟨_, rfl, _, ty, false, rfl, iteF q0⟩
  | @many a v' p ha hp =>
    walk_at "rd"
    refine ⟨_, ha, _, atI20 _ _, ?_⟩
    walk_at "rd"
    refine iteN (by decide) (iteN (by decide) (iteN (by decide) (iteN (by decide) (iteN (by decide) fun c hc => ⟨_, .inr hc, rfl, rfl, iteY (by decide +kernel) ?_⟩))))
    cases hv with
    | lst h hl hds => exact ⟨_, rfl, _, ty, true, rfl, q0⟩
    | _ => exact ⟨_, rfl, _, ty, false, rfl, q0⟩
  | @pick a b as ms us ps ha hb hbr hs hn =>
    walk_at "rd"
    refine ⟨_, ha, _, atI20 _ _, ?_⟩
    walk_at "rd"
    refine iteN (by decide) (iteN (by decide) (iteN (by decide) ?_))
    refine ⟨_, ha, _, atI21 _ _, b, as, ms, us, v, d, rfl, hb, hbr, hv, fun H' s' => ?_⟩
    rw [has_mk_form ps]
    exact q H' s'
  | @use a nm ha =>
    walk_at "rd"
    refine ⟨_, ha, _, atI20 _ _, ?_⟩
    walk_at "rd"
    refine iteN (by decide) (iteN (by decide) (iteN (by decide) (iteN (by decide) (iteN (by decide) fun c hc => ⟨_, .inr hc, rfl, rfl, iteN (by decide +kernel) ?_⟩))))
    exact q0
end KW
set_option maxHeartbeats 8000000
namespace KW
open PySem L2

variable {g : Gx}
variable {bk : Bk}
variable {m : Nat}
variable {bk : Bk} {shs : List Sh} {ds : List PyData}
variable {bk : Bk} {shs : List Sh} {ds : List PyData} {sg tl : List Nat}
local macro_rules | `(tactic| walk_at "gn") => `(tactic| simp only [gName, List.set_cons_zero, List.set_cons_succ])

local macro_rules | `(tactic| walk_at "rd") => `(tactic| simp (config := { failIfUnchanged := false, maxSteps := 10000000 }) only [L2.start, cxOf_K, nox_K, List.map_cons, List.map_nil, List.length_cons, List.length_nil, List.cons_append, List.nil_append, List.replicate_succ, List.replicate_zero, Nat.zero_add, Nat.reduceAdd, Nat.reduceSub, Nat.sub_self, tSeq, tIfS, tTest, tOp, tC, tVar, rI0, rI, rU, tUn, tRet, tRetN, tDrop, tNext, tBreak, tCont, tAsg, gName, gNil, gCons, tCons, tNil, tCB, tCall, tTry, tTryAs, tRaise, sFld, tFld, tMake, tMeth, Ends.gone, caught_K, tB, tAnd, tOr, tNot, tAndV, tOrV, tNotV, tIf, tChain, tNoPart, tPart, tSl, tNever, tAug, rIxL, rIxT, rSlL, tLst, tTup, gTup, tRev, tLZ, tConT, tDict0, tDNewT, tDGet, sDPut, rNotInD, rInD, tEither, tSlStep, rBits, rFind, rIn, tBM, tBM0, rAppend, rReverse, rEq, rNe, scal_ii, scal_ss, rCat, rSetL, gSub, ipI, capSt, List.getD_cons_zero, List.getD_cons_succ, decide_true, not_true_eq_false, not_false_eq_true,
  exists_eq_left', exists_eq_left, exists_eq', exists_eq, exists_and_left, and_assoc, Option.some.injEq, V.int.injEq, V.bl.injEq, V.ref.injEq, V.str.injEq, List.getElem?_cons_zero, List.getElem?_cons_succ, List.set_cons_zero, List.set_cons_succ, List.cons.injEq, and_true, true_and, List.append_nil, decide_eq_true_eq, Bool.not_eq_true', decide_eq_false_iff_not, Bool.not_not, Bool.not_true, Bool.not_false, Bool.true_eq_false, Bool.false_eq_true, if_true, if_false, ite_true, ite_false])

def Pairs (K : PySem.W.Frag) (H0 H : Hp) (as : List Addr) (ws : List (Sh × PyData)) : Prop := as.length = ws.length ∧ ∀ (j : Nat) a w, as[j]? = some a → ws[j]? = some w → ∃ y z, H a = some (.tup [y, z]) ∧ ShAt K H0 y w.1 ∧ Vd H0 z w.2
def sp_things_within (K : PySem.W.Frag) : Sp := fun vs H Q _ => ∃ (bk : Bk) (b x v : V) (sh : Sh) (d : PyData) (H0 : Hp), vs = [b, x, v] ∧ Same H0 H ∧ BkAt K H0 b bk ∧ Fnd bk sh ∧ ShAt K H0 x sh ∧ Vd H0 v d ∧ form sh d = true ∧ ∀ l as H', Same H H' → H l = none → H' l = some (.lst (as.map V.ref)) → Pairs K H0 H' as (within bk sh d) → Q (.ref l) H'
theorem within_whole (bk : Bk) (lo hi : Int) (d : PyData) : within bk (.whole lo hi) d = [] := by cases d <;> rfl
theorem within_text (bk : Bk) (s : List Nat) (d : PyData) : within bk (.text s) d = [] := by cases d <;> rfl
theorem pairs_nil (K : PySem.W.Frag) (H0 H : Hp) : Pairs K H0 H [] [] := ⟨rfl, fun j a w h => by simp at h⟩
variable {bk : Bk}
theorem ok_things_within {k : Nat} {C_Lister : Addr} {C_Stepper : Addr} (R : g.Raw "things_within" "things_within" s_things_within ["book", "shape", "value"]) (F_shape_of : g.Fn k "shape_of" ["book", "name"] (sp_shape_of g.K)) (F_branch_place : g.Fn k "branch_place" ["branches", "mark"] (sp_branch_place g.K)) (b_list : g.mg "list" = none) (b_zip : g.mg "zip" = none) (c_OF_ONE_PART : g.ConT "OF_ONE_PART" ([.str "many", .str "rising", .str "unlike"])) : g.Fn (k + 1) "things_within" ["book", "shape", "value"] (sp_things_within g.K) := by
  refine R.fn sc_things_within (fun vs H Q E h => by obtain ⟨bk, b, x, v, sh, d, H0, rfl, s0, hbk, hfd, hx, hv, hf, q⟩ := h; rfl) fun f_ cdv A outer s H vs Q E hr h => ?_
  obtain ⟨bk, b, x, v, sh, d, H0, rfl, s0, hbk, hfd, hx, hv, hf, q⟩ := h
  refine ⟨_, (pss_cons (ps_set (i := 3) sc_things_within.nd rfl (Or.inl rfl) (pe_ix ix_tup (pv 1) pe_int (fun _ _ => rfl)))
      (pss_cons (ps_if (pt_cmpR op_eq (pv 3) pe_str (nomark _)) (pss_one (ps_ret (pe_list_zip rfl b_list rfl b_zip (pa_cons (pe_ix ix_tup (pv 1) pe_int (fun _ _ => rfl)) (pa_cons (pv 2) pa_nil))))) pss_nil)
      (pss_cons (ps_if (pt_cmpR op_eq (pv 3) pe_str (nomark _)) (pss_one (ps_ret (pe_lst (pa_cons (pe_tup (pa_cons (pe_ix ix_tup (pe_ix ix_tup (pe_ix ix_tup (pv 1) pe_int (fun _ _ => rfl)) (pe_fn F_branch_place hr (pa_cons (pe_ix ix_tup (pv 1) pe_int (fun _ _ => rfl)) (pa_cons (pe_ix ix_tup (pv 2) pe_int (fun _ _ => rfl)) pa_nil))) (fun _ _ => rfl)) pe_int (fun _ _ => rfl)) (pa_cons (pe_ix ix_tup (pv 2) pe_int (fun _ _ => rfl)) pa_nil))) pa_nil)))) pss_nil)
      (pss_cons (ps_if (pt_cmpR op_eq (pv 3) pe_str (nomark _)) (pss_one (ps_ret (pe_lst (pa_cons (pe_tup (pa_cons (pe_fn F_shape_of hr (pa_cons (pv 0) (pa_cons (pe_ix ix_tup (pv 1) pe_int (fun _ _ => rfl)) pa_nil))) (pa_cons (pv 2) pa_nil))) pa_nil)))) pss_nil)
      (pss_cons (ps_if (pw_or (pt_cmpR op_eq (pv 3) pe_str (nomark _)) (pw_or1 (pt_cmpR op_in_seq (pv 3) (pe_gt c_OF_ONE_PART) rfl))).pt (pss_one (ps_ret (pe_lc (g := gName 0) (src := [none, some 1]) (N' := (["thing", "shape"] : List Str)) (.own (.cap (i := 1) rfl rfl (by first | exact Or.inl rfl | exact Or.inr rfl) .nil)) rfl (pi_list (pv 2)) (fun cl C s₀ H₀ fp pn => (pg_name (i := 0) (show List.Nodup (["thing", "shape"] : List Str) by decide +kernel) rfl (Or.inl rfl) (Or.inr rfl))) (fun cl C s₀ H₀ fp pn => pts_nil) (fun cl C s₀ H₀ fp pn => (pe_tup (pa_cons (pe_ix (ix_tupK (K := g.K)) (pv 1) pe_int (fun _ _ => rfl)) (pa_cons (pv 0) pa_nil)))) (by intro x hx; simp at hx; first | (subst hx; exact Or.inl rfl) | (rcases hx with rfl | rfl <;> exact Or.inl rfl) | (rcases hx with rfl | rfl | rfl <;> exact Or.inl rfl))))) pss_nil)
      (pss_one (ps_ret (pe_lst pa_nil)))))))), ?_⟩
  cases hx with
  | @whole a lo hi ha =>
    walk_at "rd"
    refine ⟨_, s0.tup ha, _, atI30 _ _ _, ?_⟩
    walk_at "rd"
    rw [within_whole] at q
    exact iteN (by decide) (iteN (by decide) (iteN (by decide) (iteN (by decide) fun c hc => ⟨_, .inr hc, rfl, rfl, iteN (by decide +kernel) ⟨few (by decide), fun p hp => q p [] _ (.upd_new hp _) hp upd_same (pairs_nil _ _ _)⟩⟩)))
  | @text a signs ha hn =>
    walk_at "rd"
    refine ⟨_, s0.tup ha, _, atI20 _ _, ?_⟩
    walk_at "rd"
    rw [within_text] at q
    exact iteN (by decide) (iteN (by decide) (iteN (by decide) (iteN (by decide) fun c hc => ⟨_, .inr hc, rfl, rfl, iteN (by decide +kernel) ⟨few (by decide), fun p hp => q p [] _ (.upd_new hp _) hp upd_same (pairs_nil _ _ _)⟩⟩)))
  | @row a b vs ps ha hb hs hn =>
    walk_at "rd"
    refine ⟨_, s0.tup ha, _, atI20 _ _, ?_⟩
    walk_at "rd"
    cases hv with
    | @tup c us ds h hl hds =>
      have e1 := hds.length
      have e2 := hs.length
      have e3 : ds.length = ps.length := of_decide_eq_true hf
      refine ⟨_, s0.tup ha, _, atI21 _ _, _, rfl, _, rfl, _, s0.tup hb, _, SqT.of (s0 _ _ h), by omega, fun l as H2 hl' sm hlst hal hpr => q l as H2 sm hl' hlst ⟨?_, fun j a w h1 h2 => ?_⟩⟩
      · show as.length = (ps.zip ds).length
        rw [List.length_zip]; omega
      · obtain ⟨k1, k2⟩ := List.getElem?_zip_eq_some.mp (show (ps.zip ds)[j]? = some w from h2)
        have hj := (List.getElem?_eq_some_iff.mp h1).1
        have f1 : vs[j]? = some (vs[j]'(by omega)) := List.getElem?_eq_getElem _
        have f2 : us[j]? = some (us[j]'(by omega)) := List.getElem?_eq_getElem _
        obtain ⟨p1, g1, s1⟩ := hs.at f1
        obtain ⟨d1, g2, s2⟩ := hds.at f2
        rw [k1] at g1
        rw [k2] at g2
        cases g1
        cases g2
        exact ⟨_, _, (hpr j a _ _ h1 f1 f2).2, s1, s2⟩
    | _ => cases hf
  | @many a v' p ha hp =>
    walk_at "rd"
    refine ⟨_, s0.tup ha, _, atI20 _ _, ?_⟩
    walk_at "rd"
    refine iteN (by decide) (iteN (by decide) (iteN (by decide) (iteN (by decide) fun c hc => ⟨_, .inr hc, rfl, rfl, iteY (by decide +kernel) ?_⟩)))
    cases hv with
    | @lst c' us ds h hl hds =>
      have e1 := hds.length
      refine tLC_tups (K := g.K) (xs := us) (us.map fun u => [v', u]) (fun R r => by walk_at "rd"; exact r c' H (.refl H) (SqL.of (s0 _ _ h))) (by simp) (by omega) ?_ ?_
      · intro i x t H' hx ht sm R r
        rw [List.getElem?_map, hx] at ht
        have : [v', x] = t := Option.some.inj ht
        subst this
        walk_at "rd"
        exact ⟨_, (s0.trans sm).tup ha, _, atI21 _ _, few (by decide), fun a' ha' => r a' _ (.upd_new ha' _) upd_same⟩
      · intro D as H' hD sm hd hal hts
        refine q D as H' sm hD hd ⟨?_, fun j a w h1 h2 => ?_⟩
        · show as.length = (ds.map fun d => (p, d)).length
          rw [List.length_map]; omega
        · have h2' : (ds.map fun d => (p, d))[j]? = some w := h2
          have hj := (List.getElem?_eq_some_iff.mp h1).1
          have f2 : us[j]? = some (us[j]'(by omega)) := List.getElem?_eq_getElem _
          obtain ⟨d1, g2, s2⟩ := hds.at f2
          rw [List.getElem?_map, g2] at h2'
          have : (p, d1) = w := Option.some.inj h2'
          subst this
          exact ⟨v', _, hts j a [v', us[j]'(by omega)] h1 (by rw [List.getElem?_map, f2]; rfl), hp, s2⟩
    | _ => cases hf
  | @pick a b' as ms us ps ha hb hbr hs hn =>
    walk_at "rd"
    refine ⟨_, s0.tup ha, _, atI20 _ _, ?_⟩
    walk_at "rd"
    rw [← has_mk_form] at hf
    rw [within_pick] at q
    obtain ⟨x, d', i, rfl, hi⟩ := pick_inv hf
    cases hv with
    | @tup c vs _ h hl hds =>
    cases hds with
    | @cons v1 _ vs1 _ h1 hds1 =>
    cases hds1 with
    | @cons v2 _ vs2 _ h2 hds2 =>
    cases hds2 with
    | nil =>
    cases h1 with
    | str l hs1 hl1 =>
    have hil := plc_at hi
    have e2 := hs.length
    obtain ⟨b1, b2, b3⟩ := hbr
    have fa : as[i]? = some (as[i]'(by omega)) := List.getElem?_eq_getElem _
    have fm : ms[i]? = some (ms[i]'(by omega)) := List.getElem?_eq_getElem _
    have fu : us[i]? = some (us[i]'(by omega)) := List.getElem?_eq_getElem _
    have fp : ps[i]? = some (ps[i]'(by omega)) := List.getElem?_eq_getElem _
    obtain ⟨p1, g1, s1⟩ := hs.at fu
    have ht := b3 i _ _ _ fa fm fu
    have ew : pick_in ms ps (.tuple [.str (S l), d']) = [(p1, d')] := by
      show (((plc ms (S l)).bind fun i => ps[i]?).toList.map fun p => (p, d')) = _
      rw [hi, Option.bind_some, g1]
      rfl
    refine iteN (by decide) ⟨_, s0.tup ha, _, atI21 _ _, _, s0.tup ha, _, atI21 _ _, c, rfl, _, SqT.of (s0 _ _ h), _, atI20 _ _, b', as, ms, us, S l, rfl, s0.tup hb, ⟨b1, b2, fun j a m v h1 h2 h3 => s0.tup (b3 j a m v h1 h2 h3)⟩, fun H' s' => ?_⟩
    have s02 := s0.trans s'
    rw [hi]
    refine ⟨b', rfl, _, _, rfl, s02.tup hb, .ref (as[i]'(by omega)), atI_nat (by rw [List.getElem?_map, fa]; rfl), _, rfl, _, s02.tup ht, _, atI21 _ _, c, rfl, _, SqT.of (s02 _ _ h), _, atI21 _ _, few (by decide), fun p hp => ⟨few (by decide), fun p2 hp2 => ?_⟩⟩
    refine q p2 [p] _ ((s'.trans (.upd_new hp _)).trans (.upd_new hp2 _)) (s'.free ((Same.upd_new hp _).free hp2)) upd_same ?_
    rw [ew]
    refine ⟨rfl, fun j a w h1' h2' => ?_⟩
    cases j with
    | succ j => simp at h1'
    | zero =>
      have e1 : p = a := Option.some.inj h1'
      have e2 : (p1, d') = w := Option.some.inj h2'
      subst e1 e2
      exact ⟨_, _, (Same.upd_new hp2 _) _ _ upd_same, s1, h2⟩
  | @use a nm ha =>
    walk_at "rd"
    refine ⟨_, s0.tup ha, _, atI20 _ _, ?_⟩
    walk_at "rd"
    obtain ⟨i, hi⟩ := hfd
    refine iteN (by decide) (iteN (by decide) ⟨_, s0.tup ha, _, atI21 _ _, b, bk, S nm, i, H0, rfl, s0, hbk, hi, fun y sh hsh hy => ⟨few (by decide), fun p hp => ⟨few (by decide), fun p2 hp2 => ?_⟩⟩⟩)
    refine q p2 [p] _ ((Same.upd_new hp _).trans (.upd_new hp2 _)) ((Same.upd_new hp _).free hp2) upd_same ?_
    rw [within_use, hi, Option.bind_some, hsh]
    refine ⟨rfl, fun j a w h1' h2' => ?_⟩
    cases j with
    | succ j => simp at h1'
    | zero =>
      have e1 : p = a := Option.some.inj h1'
      have e2 : (sh, d) = w := Option.some.inj h2'
      subst e1 e2
      exact ⟨_, _, (Same.upd_new hp2 _) _ _ upd_same, hy, hv⟩
end KW
set_option maxHeartbeats 8000000
namespace KW
open PySem L2

variable {g : Gx}
variable {bk : Bk}
variable {m : Nat}
variable {bk : Bk} {shs : List Sh} {ds : List PyData}
variable {bk : Bk} {shs : List Sh} {ds : List PyData} {sg tl : List Nat}
local macro_rules | `(tactic| walk_at "gn") => `(tactic| simp only [gName, List.set_cons_zero, List.set_cons_succ])

local macro_rules | `(tactic| walk_at "rd") => `(tactic| simp (config := { failIfUnchanged := false, maxSteps := 10000000 }) only [L2.start, cxOf_K, nox_K, List.map_cons, List.map_nil, List.length_cons, List.length_nil, List.cons_append, List.nil_append, List.replicate_succ, List.replicate_zero, Nat.zero_add, Nat.reduceAdd, Nat.reduceSub, Nat.sub_self, tSeq, tIfS, tTest, tOp, tC, tVar, rI0, rI, rU, tUn, tRet, tRetN, tDrop, tNext, tBreak, tCont, tAsg, gName, gNil, gCons, tCons, tNil, tCB, tCall, tTry, tTryAs, tRaise, sFld, tFld, tMake, tMeth, Ends.gone, caught_K, tB, tAnd, tOr, tNot, tAndV, tOrV, tNotV, tIf, tChain, tNoPart, tPart, tSl, tNever, tAug, rIxL, rIxT, rSlL, tLst, tTup, gTup, tRev, tLZ, tConT, tDict0, tDNewT, tDGet, sDPut, rNotInD, rInD, tEither, tSlStep, rBits, rFind, rIn, tBM, tBM0, rAppend, rReverse, rEq, rNe, scal_ii, scal_ss, rCat, rSetL, gSub, ipI, capSt, List.getD_cons_zero, List.getD_cons_succ, decide_true, not_true_eq_false, not_false_eq_true,
  exists_eq_left', exists_eq_left, exists_eq', exists_eq, exists_and_left, and_assoc, Option.some.injEq, V.int.injEq, V.bl.injEq, V.ref.injEq, V.str.injEq, List.getElem?_cons_zero, List.getElem?_cons_succ, List.set_cons_zero, List.set_cons_succ, List.cons.injEq, and_true, true_and, List.append_nil, decide_eq_true_eq, Bool.not_eq_true', decide_eq_false_iff_not, Bool.not_not, Bool.not_true, Bool.not_false, Bool.true_eq_false, Bool.false_eq_true, if_true, if_false, ite_true, ite_false])

/-- a list of keys, by their sizes -/
def Keyed (H : Hp) (ks : List V) (ns : List Nat) : Prop := ks.length = ns.length ∧ ks.length ≤ 1000 ∧ ∀ (j : Nat) k n, ks[j]? = some k → ns[j]? = some n → ∃ a r, k = .ref a ∧ H a = some (.tup (.int (n : Nat) :: r))
theorem atI_c0 (x : V) (r : List V) : atI (x :: r) 0 = some x := by
  have := atI_nat (xs := x :: r) (j := 0) (show (x :: r)[0]? = some x from rfl)
  simpa using this
theorem sum_cast (ns : List Nat) : (ns.map fun (n : Nat) => (n : Int)).sum = ((ns.sum : Nat) : Int) := by
  induction ns with
  | nil => rfl
  | cons n ns ih => simp [ih]
def sp_sum_of_sizes (K : PySem.W.Frag) : Sp := fun vs H Q _ => ∃ b ks ns, vs = [.ref b] ∧ H b = some (.lst ks) ∧ Keyed H ks ns ∧ ∀ H', Same H H' → Q (.int (ns.sum : Nat)) H'
theorem ok_sum_of_sizes {C_Lister : Addr} {C_Stepper : Addr} (R : g.Raw "sum_of_sizes" "sum_of_sizes" s_sum_of_sizes ["keys"]) (b_sum : g.mg "sum" = none) : g.Fn (1) "sum_of_sizes" ["keys"] (sp_sum_of_sizes g.K) := by
  refine R.fn sc_sum_of_sizes (fun vs H Q E h => by obtain ⟨b, ks, ns, rfl, hb, hk, q⟩ := h; rfl) fun f_ cdv A outer s H vs Q E hr h => ?_
  obtain ⟨b, ks, ns, rfl, hb, hk, q⟩ := h
  refine ⟨_, (pss_one (ps_ret (pe_bf b_sum call_sum_ints (pa_cons (pe_lc (g := gName 0) (src := [none]) (N' := (["key"] : List Str)) (.own .nil) rfl (pi_list (pv 0)) (fun cl C s₀ H₀ fp pn => (pg_name (i := 0) (show List.Nodup (["key"] : List Str) by decide +kernel) rfl (Or.inl rfl) (Or.inr rfl))) (fun cl C s₀ H₀ fp pn => pts_nil) (fun cl C s₀ H₀ fp pn => (pe_ix (ix_tupK (K := g.K)) (pv 0) pe_int (fun _ _ => rfl))) (by intro x hx; simp at hx)) pa_nil)))), ?_⟩
  walk_at "rd"
  obtain ⟨hk1, hk2, hk3⟩ := hk
  refine tLC_listN (K := g.K) (xs := ks) ((ns.map fun (n : Nat) => (n : Int)).map V.int) (fun R r => by walk_at "rd"; exact r b H (.refl H) (SqL.of hb)) (by simp [hk1]) (by omega) ?_ ?_
  · intro i x y H' hx hy sm R r
    have hj := (List.getElem?_eq_some_iff.mp hx).1
    have f2 : ns[i]? = some (ns[i]'(by omega)) := List.getElem?_eq_getElem _
    obtain ⟨a, r', rfl, e2⟩ := hk3 i x _ hx f2
    rw [List.getElem?_map, List.getElem?_map, f2] at hy
    have : V.int ((ns[i]'(by omega) : Nat) : Int) = y := Option.some.inj hy
    subst this
    walk_at "rd"
    exact ⟨_, SqT.of (sm _ _ e2), _, atI_c0 _ _, r H' (.refl H')⟩
  · intro D H' hD sm hd
    refine ⟨D, rfl, _, SqL.of hd, ?_⟩
    rw [sum_cast]
    exact q H' sm
def sp_list_key (K : PySem.W.Frag) : Sp := fun vs H Q _ => ∃ x p b ks ns, vs = [x, .ref b] ∧ ShAt K H x (.many p) ∧ H b = some (.lst ks) ∧ Keyed H ks ns ∧ ∀ t r H', Same H H' → H' t = some (.tup (.int ((ns.length + ns.sum : Nat) : Int) :: r)) → Q (.ref t) H'
theorem ok_list_key {k : Nat} {C_Lister : Addr} {C_Stepper : Addr} (R : g.Raw "list_key" "list_key" s_list_key ["shape", "keys"]) (F_sum_of_sizes : g.Fn k "sum_of_sizes" ["keys"] (sp_sum_of_sizes g.K)) (b_len : g.mg "len" = none) (b_tuple : g.mg "tuple" = none) : g.Fn (k + 1) "list_key" ["shape", "keys"] (sp_list_key g.K) := by
  refine R.fn sc_list_key (fun vs H Q E h => by obtain ⟨x, p, b, ks, ns, rfl, hx, hb, hk, q⟩ := h; rfl) fun f_ cdv A outer s H vs Q E hr h => ?_
  obtain ⟨x, p, b, ks, ns, rfl, hx, hb, hk, q⟩ := h
  refine ⟨_, (pss_cons (ps_set (i := 2) sc_list_key.nd rfl (Or.inl rfl) (pe_ix ix_tup (pv 0) pe_int (fun _ _ => rfl)))
      (pss_cons (ps_set (i := 3) sc_list_key.nd rfl (Or.inl rfl) (pe_op op_add (pe_bf b_len call_len_seq (pa_cons (pv 1) pa_nil)) (pe_fn F_sum_of_sizes hr (pa_cons (pv 1) pa_nil))))
      (pss_cons (ps_if (pt_cmpR op_eq (pv 2) pe_str (nomark _)) (pss_one (ps_ret (pe_bt b_tuple call_tuple_of (pa_cons (pe_op op_cat (pe_lst (pa_cons (pv 3) pa_nil)) (pv 1)) pa_nil)))) pss_nil)
      (pss_cons ps_never
      (pss_cons ps_never
      (pss_one ps_never)))))), ?_⟩
  cases hx with
  | @many a v' p ha hp =>
    walk_at "rd"
    refine ⟨_, ha, _, atI20 _ _, ?_⟩
    walk_at "rd"
    refine ⟨_, .inl (SqL.of hb), b, ks, ns, rfl, hb, hk, fun H2 s2 => ⟨_, rfl, few (by decide), fun p hp => ?_⟩⟩
    have h6 : 10000 < sizeLine := by decide
    have h7 := hk.2.1
    refine ⟨_, upd_same, _, (Same.upd_new hp _) _ _ (s2 _ _ hb), by simp; omega, fun p1 hp1 => ⟨_, .inl ⟨SqL.of upd_same, fun l hl => q l ks _ (((s2.trans (.upd_new hp _)).trans (.upd_new hp1 _)).trans (.upd_new hl _)) ?_⟩⟩⟩
    rw [upd_same]
    show some (HO.tup (V.int ((ks.length : Int) + (ns.sum : Int)) :: ks)) = _
    rw [hk.1, ← Int.natCast_add]
def sp_key_made (K : PySem.W.Frag) : Sp := fun vs H Q _ => ∃ (bk : Bk) (x v : V) (sh : Sh) (d : PyData) (b : Addr) (ks : List V) (ns : List Nat), vs = [x, v, .ref b] ∧ ShAt K H x sh ∧ Vd H v d ∧ form sh d = true ∧ Fnd bk sh ∧ H b = some (.lst ks) ∧ Keyed H ks ns ∧ ns.length = (within bk sh d).length ∧
  ∀ t r H', Same H H' → H' t = some (.tup (.int ((sz sh d ns : Nat) : Int) :: r)) → Q (.ref t) H'
theorem ok_key_made {k : Nat} {C_Lister : Addr} {C_Stepper : Addr} (R : g.Raw "key_made" "key_made" s_key_made ["shape", "value", "keys"]) (F_branch_place : g.Fn k "branch_place" ["branches", "mark"] (sp_branch_place g.K)) (F_sum_of_sizes : g.Fn k "sum_of_sizes" ["keys"] (sp_sum_of_sizes g.K)) (F_list_key : g.Fn k "list_key" ["shape", "keys"] (sp_list_key g.K)) (b_len : g.mg "len" = none) (b_tuple : g.mg "tuple" = none) : g.Fn (k + 1) "key_made" ["shape", "value", "keys"] (sp_key_made g.K) := by
  refine R.fn sc_key_made (fun vs H Q E h => by obtain ⟨bk, x, v, sh, d, b, ks, ns, rfl, hx, hv, hf, hfd, hb, hk, hnl, q⟩ := h; rfl) fun f_ cdv A outer s H vs Q E hr h => ?_
  obtain ⟨bk, x, v, sh, d, b, ks, ns, rfl, hx, hv, hf, hfd, hb, hk, hnl, q⟩ := h
  refine ⟨_, (pss_cons (ps_set (i := 3) sc_key_made.nd rfl (Or.inl rfl) (pe_ix ix_tup (pv 0) pe_int (fun _ _ => rfl)))
      (pss_cons (ps_if (pt_cmpR op_eq (pv 3) pe_str (nomark _)) (pss_one (ps_ret (pe_tup (pa_cons (pe_bm0 PySem.F.plainAttrs_int PySem.F.slot_int_bit_length PySem.F.type_int_bit_length mt_bits (pe_op op_sub (pv 1) (pe_ix ix_tup (pv 0) pe_int (fun _ _ => rfl)))) (pa_cons (pv 1) pa_nil))))) pss_nil)
      (pss_cons (ps_if (pt_cmpR op_eq (pv 3) pe_str (nomark _)) (pss_one (ps_ret (pe_bt b_tuple call_tuple_of (pa_cons (pe_op op_cat (pe_lst (pa_cons (pe_bf b_len call_len_str (pa_cons (pv 1) pa_nil)) pa_nil)) (pe_lc (g := gName 0) (src := [none, some 0]) (N' := (["sign", "shape"] : List Str)) (.own (.cap (i := 0) rfl rfl (by first | exact Or.inl rfl | exact Or.inr rfl) .nil)) rfl (pi_str (pv 1)) (fun cl C s₀ H₀ fp pn => (pg_name (i := 0) (show List.Nodup (["sign", "shape"] : List Str) by decide +kernel) rfl (Or.inl rfl) (Or.inr rfl))) (fun cl C s₀ H₀ fp pn => pts_nil) (fun cl C s₀ H₀ fp pn => (pe_bmK (K := g.K) PySem.F.plainAttrs_str PySem.F.slot_str_find PySem.F.type_str_find mt_find (pe_ix (ix_tupK (K := g.K)) (pv 1) pe_int (fun _ _ => rfl)) (pa_cons (pv 0) pa_nil))) (by intro x hx; simp at hx; first | (subst hx; exact Or.inl rfl) | (rcases hx with rfl | rfl <;> exact Or.inl rfl) | (rcases hx with rfl | rfl | rfl <;> exact Or.inl rfl)))) pa_nil)))) pss_nil)
      (pss_cons (ps_if (pt_cmpR op_eq (pv 3) pe_str (nomark _)) (pss_one (ps_ret (pe_bt b_tuple call_tuple_of (pa_cons (pe_op op_cat (pe_lst (pa_cons (pe_fn F_sum_of_sizes hr (pa_cons (pv 2) pa_nil)) pa_nil)) (pv 2)) pa_nil)))) pss_nil)
      (pss_cons (ps_if (pt_cmpR op_eq (pv 3) pe_str (nomark _)) (pss_one (ps_ret (pe_tup (pa_cons (pe_ix ix_tup (pe_ix ix_list (pv 2) pe_int (fun _ _ => rfl)) pe_int (fun _ _ => rfl)) (pa_cons (pe_fn F_branch_place hr (pa_cons (pe_ix ix_tup (pv 0) pe_int (fun _ _ => rfl)) (pa_cons (pe_ix ix_tup (pv 1) pe_int (fun _ _ => rfl)) pa_nil))) (pa_cons (pe_ix ix_list (pv 2) pe_int (fun _ _ => rfl)) pa_nil)))))) pss_nil)
      (pss_cons (ps_if (pt_cmpR op_eq (pv 3) pe_str (nomark _)) (pss_one (ps_ret (pe_tup (pa_cons (pe_op op_add pe_int (pe_ix ix_tup (pe_ix ix_list (pv 2) pe_int (fun _ _ => rfl)) pe_int (fun _ _ => rfl))) (pa_cons (pe_ix ix_list (pv 2) pe_int (fun _ _ => rfl)) pa_nil))))) pss_nil)
      (pss_one (ps_ret (pe_fn F_list_key hr (pa_cons (pv 0) (pa_cons (pv 2) pa_nil))))))))))), ?_⟩
  have h6 : 10000 < sizeLine := by decide
  have h7 := hk.2.1
  cases hx with
  | @whole a lo hi ha =>
    walk_at "rd"
    refine ⟨_, ha, _, atI30 _ _ _, ?_⟩
    walk_at "rd"
    cases hv with
    | int i =>
      walk_at "rd"
      exact ⟨_, ha, _, atI31 _ _ _, _, rfl, rfl, few (by decide), fun p hp => q p _ _ (.upd_new hp _) upd_same⟩
    | _ => cases hf
  | @text a signs ha hn =>
    walk_at "rd"
    refine ⟨_, ha, _, atI20 _ _, ?_⟩
    walk_at "rd"
    refine iteN (by decide) ?_
    cases hv with
    | str l h hl =>
      walk_at "rd"
      refine ⟨few (by rw [S_len]; omega), few (by decide), fun p hp => ?_⟩
      have s1 := Same.upd_new hp (.lst [.int (S l).length])
      refine tLC_str (l := l) (l.map fun c => V.int (Txt.find (S signs) (S [c]))) (fun R r => by walk_at "rd"; exact r) (by simp) (by omega) ?_ ?_
      · intro i c y H' hc hy sm R r
        rw [List.getElem?_map, hc] at hy
        have : V.int (Txt.find (S signs) (S [c])) = y := Option.some.inj hy
        subst this
        walk_at "rd"
        refine ⟨_, (s1.trans sm).tup ha, _, atI21 _ _, rfl, _, rfl, ?_⟩
        exact r H' (.refl H')
      · intro D H' hD sm hd
        have hpp := sm _ _ (upd_same (H := H) (a := p) (o := .lst [.int (S l).length]))
        refine ⟨_, rfl, _, hpp, _, hd, ?_, fun p2 hp2 => ⟨_, .inl ⟨SqL.of upd_same, fun t ht => ?_⟩⟩⟩
        · simp; omega
        · exact q t _ _ (((s1.trans sm).trans (.upd_new hp2 _)).trans (.upd_new ht _)) upd_same
    | _ => cases hf
  | @row a b' vs ps ha hb' hs hn =>
    walk_at "rd"
    refine ⟨_, ha, _, atI20 _ _, ?_⟩
    walk_at "rd"
    refine iteN (by decide) (iteN (by decide) ?_)
    refine ⟨b, ks, ns, rfl, hb, hk, fun H2 s2 => ⟨few (by decide), fun p hp => ?_⟩⟩
    refine ⟨_, upd_same, _, (Same.upd_new hp _) _ _ (s2 _ _ hb), by simp; omega, fun p1 hp1 => ⟨_, .inl ⟨SqL.of upd_same, fun l hl => q l ks _ (((s2.trans (.upd_new hp _)).trans (.upd_new hp1 _)).trans (.upd_new hl _)) ?_⟩⟩⟩
    rw [upd_same]
    cases d <;> rfl
  | @many a v' p ha hp =>
    walk_at "rd"
    refine ⟨_, ha, _, atI20 _ _, ?_⟩
    walk_at "rd"
    refine iteN (by decide) (iteN (by decide) (iteN (by decide) (iteN (by decide) (iteN (by decide) ?_))))
    refine ⟨_, p, b, ks, ns, rfl, .many ha hp, hb, hk, fun t r H' s' ht => q t r H' s' ?_⟩
    rw [ht]
    cases d <;> rfl
  | @pick a b' as ms us ps ha hb' hbr hs hn =>
    walk_at "rd"
    refine ⟨_, ha, _, atI20 _ _, ?_⟩
    walk_at "rd"
    rw [← has_mk_form] at hf
    rw [within_pick] at hnl
    obtain ⟨x, d', i, rfl, hi⟩ := pick_inv hf
    cases hv with
    | @tup c vs _ h hl hds =>
    cases hds with
    | @cons v1 _ vs1 _ h1 hds1 =>
    cases hds1 with
    | @cons v2 _ vs2 _ h2 hds2 =>
    cases hds2 with
    | nil =>
    cases h1 with
    | str l hs1 hl1 =>
    have hil := plc_at hi
    have e2 := hs.length
    have b2 := hbr.2.1
    have fp : ps[i]? = some (ps[i]'(by omega)) := List.getElem?_eq_getElem _
    have ew : pick_in ms ps (.tuple [.str (S l), d']) = [(ps[i]'(by omega), d')] := by
      show (((plc ms (S l)).bind fun i => ps[i]?).toList.map fun p => (p, d')) = _
      rw [hi, Option.bind_some, fp]
      rfl
    rw [ew] at hnl
    obtain ⟨n, rfl⟩ : ∃ n, ns = [n] := by
      match ns, hnl with
      | [n], _ => exact ⟨n, rfl⟩
    obtain ⟨k1, k2, k3⟩ := hk
    obtain ⟨k, rfl⟩ : ∃ k, ks = [k] := by
      match ks, k1 with
      | [k], _ => exact ⟨k, rfl⟩
    obtain ⟨ka, kr, rfl, hka⟩ := k3 0 _ _ rfl rfl
    refine iteN (by decide) (iteN (by decide) (iteN (by decide) ⟨_, SqL.of hb, _, atI_c0 _ _, _, rfl, _, SqT.of hka, _, atI_c0 _ _, _, ha, _, atI21 _ _, c, rfl, _, SqT.of h, _, atI20 _ _, b', as, ms, us, S l, rfl, hb', hbr, fun H' s' => ⟨_, SqL.of (s' _ _ hb), _, atI_c0 _ _, few (by decide), fun p hp => q p _ _ (s'.trans (.upd_new hp _)) upd_same⟩⟩))
  | @use a nm ha =>
    walk_at "rd"
    refine ⟨_, ha, _, atI20 _ _, ?_⟩
    walk_at "rd"
    obtain ⟨i, hi⟩ := hfd
    have hil := plc_at hi
    rw [List.length_map] at hil
    have fp : (bk.map (·.2))[i]? = some ((bk.map (·.2))[i]'(by rw [List.length_map]; exact hil)) := List.getElem?_eq_getElem _
    rw [within_use, hi, Option.bind_some, fp] at hnl
    obtain ⟨n, rfl⟩ : ∃ n, ns = [n] := by
      match ns, hnl with
      | [n], _ => exact ⟨n, rfl⟩
    obtain ⟨k1, k2, k3⟩ := hk
    obtain ⟨k, rfl⟩ : ∃ k, ks = [k] := by
      match ks, k1 with
      | [k], _ => exact ⟨k, rfl⟩
    obtain ⟨ka, kr, rfl, hka⟩ := k3 0 _ _ rfl rfl
    refine iteN (by decide) (iteN (by decide) (iteN (by decide) (iteN (by decide) ⟨_, SqL.of hb, _, atI_c0 _ _, _, rfl, _, SqT.of hka, _, atI_c0 _ _, _, rfl, _, SqL.of hb, _, atI_c0 _ _, few (by decide), fun p hp => q p [.ref ka] _ (.upd_new hp _) (upd_same.trans ?_)⟩)))
    have e : sz (.use nm) d [n] = 1 + n := by cases d <;> rfl
    rw [e, Int.natCast_add]
    rfl
end KW
set_option maxHeartbeats 8000000
namespace KW
open PySem L2

variable {g : Gx}
variable {bk : Bk}
variable {m : Nat}
variable {bk : Bk} {shs : List Sh} {ds : List PyData}
variable {bk : Bk} {shs : List Sh} {ds : List PyData} {sg tl : List Nat}
local macro_rules | `(tactic| walk_at "gn") => `(tactic| simp only [gName, List.set_cons_zero, List.set_cons_succ])

local macro_rules | `(tactic| walk_at "rd") => `(tactic| simp (config := { failIfUnchanged := false, maxSteps := 10000000 }) only [L2.start, cxOf_K, nox_K, List.map_cons, List.map_nil, List.length_cons, List.length_nil, List.cons_append, List.nil_append, List.replicate_succ, List.replicate_zero, Nat.zero_add, Nat.reduceAdd, Nat.reduceSub, Nat.sub_self, tSeq, tIfS, tTest, tOp, tC, tVar, rI0, rI, rU, tUn, tRet, tRetN, tDrop, tNext, tBreak, tCont, tAsg, gName, gNil, gCons, tCons, tNil, tCB, tCall, tTry, tTryAs, tRaise, sFld, tFld, tMake, tMeth, Ends.gone, caught_K, tB, tAnd, tOr, tNot, tAndV, tOrV, tNotV, tIf, tChain, tNoPart, tPart, tSl, tNever, tAug, rIxL, rIxT, rSlL, tLst, tTup, gTup, tRev, tLZ, tConT, tDict0, tDNewT, tDGet, sDPut, rNotInD, rInD, tEither, tSlStep, rBits, rFind, rIn, tBM, tBM0, rAppend, rReverse, rEq, rNe, scal_ii, scal_ss, rCat, rSetL, gSub, ipI, capSt, List.getD_cons_zero, List.getD_cons_succ, decide_true, not_true_eq_false, not_false_eq_true,
  exists_eq_left', exists_eq_left, exists_eq', exists_eq, exists_and_left, and_assoc, Option.some.injEq, V.int.injEq, V.bl.injEq, V.ref.injEq, V.str.injEq, List.getElem?_cons_zero, List.getElem?_cons_succ, List.set_cons_zero, List.set_cons_succ, List.cons.injEq, and_true, true_and, List.append_nil, decide_eq_true_eq, Bool.not_eq_true', decide_eq_false_iff_not, Bool.not_not, Bool.not_true, Bool.not_false, Bool.true_eq_false, Bool.false_eq_true, if_true, if_false, ite_true, ite_false])
end KW
set_option maxHeartbeats 8000000
namespace KW
open PySem L2

variable {g : Gx}
variable {bk : Bk}
variable {m : Nat}
variable {bk : Bk} {shs : List Sh} {ds : List PyData}
variable {bk : Bk} {shs : List Sh} {ds : List PyData} {sg tl : List Nat}
local macro_rules | `(tactic| walk_at "gn") => `(tactic| simp only [gName, List.set_cons_zero, List.set_cons_succ])

local macro_rules | `(tactic| walk_at "rd") => `(tactic| simp (config := { failIfUnchanged := false, maxSteps := 10000000 }) only [L2.start, cxOf_K, nox_K, List.map_cons, List.map_nil, List.length_cons, List.length_nil, List.cons_append, List.nil_append, List.replicate_succ, List.replicate_zero, Nat.zero_add, Nat.reduceAdd, Nat.reduceSub, Nat.sub_self, tSeq, tIfS, tTest, tOp, tC, tVar, rI0, rI, rU, tUn, tRet, tRetN, tDrop, tNext, tBreak, tCont, tAsg, gName, gNil, gCons, tCons, tNil, tCB, tCall, tTry, tTryAs, tRaise, sFld, tFld, tMake, tMeth, Ends.gone, caught_K, tB, tAnd, tOr, tNot, tAndV, tOrV, tNotV, tIf, tChain, tNoPart, tPart, tSl, tNever, tAug, rIxL, rIxT, rSlL, tLst, tTup, gTup, tRev, tLZ, tConT, tDict0, tDNewT, tDGet, sDPut, rNotInD, rInD, tEither, tSlStep, rBits, rFind, rIn, tBM, tBM0, rAppend, rReverse, rEq, rNe, scal_ii, scal_ss, rCat, rSetL, gSub, ipI, capSt, List.getD_cons_zero, List.getD_cons_succ, decide_true, not_true_eq_false, not_false_eq_true,
  exists_eq_left', exists_eq_left, exists_eq', exists_eq, exists_and_left, and_assoc, Option.some.injEq, V.int.injEq, V.bl.injEq, V.ref.injEq, V.str.injEq, List.getElem?_cons_zero, List.getElem?_cons_succ, List.set_cons_zero, List.set_cons_succ, List.cons.injEq, and_true, true_and, List.append_nil, decide_eq_true_eq, Bool.not_eq_true', decide_eq_false_iff_not, Bool.not_not, Bool.not_true, Bool.not_false, Bool.true_eq_false, Bool.false_eq_true, if_true, if_false, ite_true, ite_false])

theorem tFor_listG {K : PySem.W.Frag} {tl : TE} {g : TG} {tb : TS} {D : Ends} {σ : St} {H : Hp} (G : Addr → List V → Hp → Prop) (ha : ∀ R : V → Hp → Prop, (∀ a xs H1, SqL K H1 a xs → G a xs H1 → R (.ref a) H1) → tl σ H R)
    (hb : ∀ a xs H1, SqL K H1 a xs → G a xs H1 → ∃ Pv : Nat → St → Hp → Prop, Pv 0 σ H1 ∧ (∀ i σ H, i ≤ xs.length → Pv i σ H → SqL K H a xs) ∧ (∀ (i : Nat) x σ H, xs[i]? = some x → Pv i σ H → g x σ H fun σ2 H2 => tb { D with nx := Pv (i + 1), ct := Pv (i + 1), bk := D.nx } σ2 H2) ∧ (∀ σ H, Pv xs.length σ H → D.nx σ H)) :
    tFor (iList K tl) g tb D σ H :=
  ha _ fun a xs H1 hS hG => by
    obtain ⟨Pv, h0, hl, hs, hd⟩ := hb a xs H1 hS hG
    exact ⟨a, rfl, ⟨xs, hS⟩, for_list Pv h0 hl hs hd⟩
theorem within_len {H : Hp} {v : V} {d : PyData} {sh : Sh} (h : Vd H v d) : (within bk sh d).length ≤ 1000 := by
  by_cases hu : ∃ nm, sh = .use nm
  · obtain ⟨nm, rfl⟩ := hu
    have e : (within bk (.use nm) d).length ≤ 1 := by
      cases d <;> (show ((Option.toList _).map _).length ≤ 1; rw [List.length_map]; cases (plc (bk.map (·.1)) (S nm)).bind _ <;> simp)
    omega
  by_cases hp : ∃ ms ps, sh = .pick ms ps
  · obtain ⟨ms, ps, rfl⟩ := hp; rw [within_pick]; exact pick_in_len
  cases h with
  | @lst a vs ds h hl hs =>
    have := hs.length
    cases sh <;> first | exact (hp ⟨_, _, rfl⟩).elim | exact (hu ⟨_, rfl⟩).elim | (simp [within] <;> omega)
  | @tup a vs ds h hl hs =>
    have := hs.length
    cases sh <;> first | exact (hp ⟨_, _, rfl⟩).elim | exact (hu ⟨_, rfl⟩).elim | (simp [within] <;> omega)
  | _ => cases sh <;> first | exact (hp ⟨_, _, rfl⟩).elim | exact (hu ⟨_, rfl⟩).elim | simp [within]
theorem mapM_none {α β : Type} {f : α → Option β} : ∀ {l : List α} {w : α}, w ∈ l → f w = none → l.mapM f = none
  | x :: l, w, hw, hn => by
    rw [List.mapM_cons]
    rcases List.mem_cons.mp hw with rfl | hw
    · rw [hn]; rfl
    · rw [mapM_none hw hn]
      cases f x <;> rfl
variable {m : Nat}
/-- levels of weighed -/
abbrev LV : Nat := 5
def sp_weighed (K : PySem.W.Frag) (m : Nat) : Sp := fun vs H Q _ => ∃ (bk : Bk) (b x v : V) (sh : Sh) (d : PyData), vs = [b, x, v] ∧ BkAt K H b bk ∧ ShAt K H x sh ∧ Enf bk m sh d ∧ Vd H v d ∧
  (∀ n, jd bk m sh d = some n → ∀ p ks H', Same H H' → H' p = some (.tup (.int (n : Nat) :: ks)) → Q (.ref p) H') ∧ (jd bk m sh d = none → ∀ H', Same H H' → Q .non H')
theorem no_weighed {K : PySem.W.Frag} {vs : List V} {H : Hp} {Q : VK} {E : XK} (h : sp_weighed K 0 vs H Q E) : False := by
  obtain ⟨bk, b, x, v, sh, d, _, _, _, h, _⟩ := h
  exact h
theorem ok_weighed {k : Nat} {C_Lister : Addr} {C_Stepper : Addr} (R : g.Raw "weighed" "weighed" s_weighed ["book", "shape", "value"]) (F_has_form : g.Fn k "has_form" ["shape", "value"] (sp_has_form g.K)) (F_things_within : g.Fn k "things_within" ["book", "shape", "value"] (sp_things_within g.K)) (F_key_made : g.Fn k "key_made" ["shape", "value", "keys"] (sp_key_made g.K)) (F_weighed : g.Fn k "weighed" ["book", "shape", "value"] (sp_weighed g.K m)) : g.Fn (k + 1) "weighed" ["book", "shape", "value"] (sp_weighed g.K (m + 1)) := by
  refine R.fn sc_weighed (fun vs H Q E h => by obtain ⟨bk, b, x, v, sh, d, rfl, hbk, hx, hft, hv, q1, q2⟩ := h; rfl) fun f_ cdv A outer s H vs Q E hr h => ?_
  obtain ⟨bk, b, x, v, sh, d, rfl, hbk, hx, hft, hv, q1, q2⟩ := h
  refine ⟨_, (pss_cons (ps_if (pt_not (pt_val (pe_fn F_has_form hr (pa_cons (pv 1) (pa_cons (pv 2) pa_nil))))) (pss_one (ps_ret pe_non)) pss_nil)
      (pss_cons (ps_set (i := 3) sc_weighed.nd rfl (Or.inl rfl) (pe_lst pa_nil))
      (pss_cons (ps_for PassesOwn.never rfl (pi_list (pe_fn F_things_within hr (pa_cons (pv 0) (pa_cons (pv 1) (pa_cons (pv 2) pa_nil))))) (pg_tup (n := 2) rfl (pgs_cons (pg_name (i := 4) sc_weighed.nd rfl (Or.inl rfl)) (pgs_cons (pg_name (i := 5) sc_weighed.nd rfl (Or.inl rfl)) pgs_nil))) (pss_cons (ps_set (i := 6) sc_weighed.nd rfl (Or.inl rfl) (pe_fn F_weighed hr (pa_cons (pv 0) (pa_cons (pv 4) (pa_cons (pv 5) pa_nil)))))
      (pss_cons (ps_if (pt_cmpR op_isN (pv 6) pe_non (nomark _)) (pss_one (ps_ret pe_non)) pss_nil)
      (pss_one (ps_expr (pe_bm PySem.F.plainAttrs_list PySem.F.slot_list_append PySem.F.type_list_append mt_append (pv 3) (pa_cons (pv 6) pa_nil)))))))
      (pss_one (ps_ret (pe_fn F_key_made hr (pa_cons (pv 1) (pa_cons (pv 2) (pa_cons (pv 3) pa_nil))))))))), ?_⟩
  have h6 : 10000 < sizeLine := by decide
  refine cut1 (fun σ H' => σ = [some b, some x, some v, none, none, none, none] ∧ Same H H' ∧ form sh d = true) ?_ ?_
  · rintro σ H1 ⟨rfl, sm, hf⟩
    walk_at "rd"
    refine ⟨few (by decide), fun p hp => ?_⟩
    have s1 := Same.upd_new hp (.lst [])
    have hx1 := hx.keep sm
    have hv1 := hv.keep sm
    refine tFor_listG (fun l xs H2 => ∃ as, xs = as.map V.ref ∧ l ≠ p ∧ Same (upd H1 p (.lst [])) H2 ∧ H2 l = some (.lst (as.map V.ref)) ∧ Pairs g.K H1 H2 as (within bk sh d)) (fun R r => ?_) ?_
    · walk_at "rd"
      exact ⟨bk, b, x, v, sh, d, H1, rfl, s1, hbk.keep sm, (hft hf).1, hx1, hv1, hf, fun l as H' s' hl0 hl hpr => r l _ H' (SqL.of hl) ⟨as, rfl, fun e => by (rw [e, upd_same] at hl0; cases hl0), s', hl, hpr⟩⟩
    · rintro l xs H2 hS ⟨as, rfl, hlp, s2, hl, hpr⟩
      refine ⟨fun i σ H' => ∃ o4 o5 o6 ks ns, σ = [some b, some x, some v, some (.ref p), o4, o5, o6] ∧ Same H1 H' ∧ H' p = some (.lst ks) ∧ H' l = some (.lst (as.map V.ref)) ∧ Pairs g.K H1 H' as (within bk sh d) ∧ Keyed H' ks ns ∧ ks.length = i ∧ ((within bk sh d).take i).mapM (fun w => jd bk m w.1 w.2) = some ns, ?_, ?_, ?_, ?_⟩
      · exact ⟨none, none, none, [], [], rfl, s1.trans s2, s2 _ _ upd_same, hl, hpr, ⟨rfl, by simp, fun j k n h => by simp at h⟩, rfl, by simp⟩
      · rintro i σ H' hi ⟨o4, o5, o6, ks, ns, rfl, e1, e2, e3, _⟩
        exact SqL.of e3
      · rintro i y σ H' hy ⟨o4, o5, o6, ks, ns, rfl, e1, e2, e3, e4, e5, e6, e7⟩
        have hi : i < as.length := by simpa using (List.getElem?_eq_some_iff.mp hy).1
        have ha : as[i]? = some as[i] := List.getElem?_eq_getElem hi
        rw [List.getElem?_map, ha] at hy
        have : V.ref as[i] = y := Option.some.inj hy
        subst this
        have hw : (within bk sh d)[i]? = some ((within bk sh d)[i]'(by rw [← e4.1]; exact hi)) := List.getElem?_eq_getElem _
        generalize (within bk sh d)[i]'(by rw [← e4.1]; exact hi) = w at hw
        have hwm := List.mem_of_getElem? hw
        obtain ⟨y', z, ht, hsy, hvz⟩ := e4.2 i _ w ha hw
        walk_at "rd"
        refine ⟨_, SqT.of ht, rfl, ?_⟩
        walk_at "rd"
        refine ⟨bk, b, y', z, w.1, w.2, rfl, hbk.keep (sm.trans e1), hsy.keep e1, (hft hf).2 w hwm, hvz.keep e1, fun n hn t kk H4 s4 ht4 => ?_, fun hn H4 s4 => ?_⟩
        · walk_at "rd"
          have s14 := e1.trans s4
          have hwl := within_len (bk := bk) (sh := sh) hv
          have e41 := e4.1
          have hkl := e5.1
          refine iteN (by simp) ⟨.inl ⟨rfl, _, SqL.of (s4 _ _ e2)⟩, ks, s4 _ _ e2, by omega, .upd_over hp s14 _, _, upd_same, ?_, ⟨e4.1, fun j a w h1 h2 => ?_⟩, ns ++ [n], ⟨by simp [hkl], by simp; omega, fun j k' n' h1 h2 => ?_⟩, by simp [e6], ?_⟩
          · rw [upd_ne hlp]; exact s4 _ _ e3
          · obtain ⟨y, z, g1, g2, g3⟩ := e4.2 j a w h1 h2
            exact ⟨y, z, by rw [upd_ne (ne_of (s4 _ _ g1) (s4 _ _ e2) (by intro z; cases z))]; exact s4 _ _ g1, g2, g3⟩
          · have key : ∃ a r, k' = .ref a ∧ H4 a = some (.tup (.int (n' : Nat) :: r)) := by
              rcases Nat.lt_trichotomy j ks.length with c | c | c
              · rw [List.getElem?_append_left c] at h1
                rw [List.getElem?_append_left (by omega)] at h2
                obtain ⟨a, r, f1, f2⟩ := e5.2.2 j k' n' h1 h2
                exact ⟨a, r, f1, s4 _ _ f2⟩
              · have f1 : V.ref t = k' := by subst c; simpa using h1
                have f2 : n = n' := by rw [c, hkl] at h2; simpa using h2
                subst f1 f2
                exact ⟨t, kk, rfl, ht4⟩
              · rw [List.getElem?_eq_none (by rw [List.length_append, List.length_singleton]; omega)] at h1; cases h1
            obtain ⟨a, r, f1, f2⟩ := key
            exact ⟨a, r, f1, by rw [upd_ne (ne_of f2 (s4 _ _ e2) (by intro z; cases z))]; exact f2⟩
          · rw [take_snoc hw, List.mapM_append, e7]
            simp [hn]
        · exact q2 (by
            rw [jd, mapM_none (f := fun w => jd bk m w.1 w.2) hwm hn]
            split <;> rfl) H4 ((sm.trans e1).trans s4)
      · rintro σ H' ⟨o4, o5, o6, ks, ns, rfl, e1, e2, e3, e4, e5, e6, e7⟩
        walk_at "rd"
        rw [List.length_map, e4.1, List.take_length] at e7
        refine ⟨bk, x, v, sh, d, p, ks, ns, rfl, hx1.keep e1, hv1.keep e1, hf, (hft hf).1, e2, e5, by rw [← e5.1, e6, List.length_map]; exact e4.1, fun t r H4 s4 ht => ?_⟩
        exact q1 (sz sh d ns) (by rw [jd, if_pos hf, e7]; rfl) t r H4 ((sm.trans e1).trans s4) ht
  · intro N hN
    walk_at "rd"
    refine ⟨x, v, sh, d, rfl, hx, hv, fun H' s' => ⟨_, rfl, ?_⟩⟩
    by_cases hf : form sh d = true
    · rw [hf]
      exact iteN (by simp) (hN _ _ ⟨rfl, s', hf⟩)
    · have hf' := Bool.eq_false_iff.mpr hf
      rw [hf']
      exact iteY rfl (q2 (by rw [jd, if_neg hf]) H' s')
def sp_fits (K : PySem.W.Frag) : Sp := fun vs H Q _ => ∃ (bk : Bk) (b x v : V) (sh : Sh) (d : PyData), vs = [b, x, v] ∧ BkAt K H b bk ∧ ShAt K H x sh ∧ Enf bk LV sh d ∧ Vd H v d ∧ ∀ H', Same H H' → Q (.bl (jd bk LV sh d).isSome) H'
theorem ok_fits {k : Nat} {C_Lister : Addr} {C_Stepper : Addr} (R : g.Raw "fits" "fits" s_fits ["book", "shape", "value"]) (F_weighed : g.Fn k "weighed" ["book", "shape", "value"] (sp_weighed g.K LV)) : g.Fn (k + 1) "fits" ["book", "shape", "value"] (sp_fits g.K) := by
  refine R.fn sc_fits (fun vs H Q E h => by obtain ⟨bk, b, x, v, sh, d, rfl, hbk, hx, hft, hv, q⟩ := h; rfl) fun f_ cdv A outer s H vs Q E hr h => ?_
  obtain ⟨bk, b, x, v, sh, d, rfl, hbk, hx, hft, hv, q⟩ := h
  refine ⟨_, (pss_one (ps_ret (pe_cmpR op_notN (pe_fn F_weighed hr (pa_cons (pv 0) (pa_cons (pv 1) (pa_cons (pv 2) pa_nil)))) pe_non (nomark _)))), ?_⟩
  walk_at "rd"
  refine ⟨bk, b, x, v, sh, d, rfl, hbk, hx, hft, hv, fun n hn p ks H' s' hp => ?_, fun hn H' s' => ?_⟩
  · have := q H' s'
    rw [hn] at this
    show Q (V.bl !decide (V.ref p = V.non)) H'
    rw [show decide (V.ref p = V.non) = false from decide_eq_false (by simp)]
    exact this
  · have := q H' s'
    rw [hn] at this
    exact this
end KW
set_option maxHeartbeats 8000000
namespace KW
open PySem L2

variable {g : Gx}
variable {bk : Bk}
variable {m : Nat}
variable {bk : Bk} {shs : List Sh} {ds : List PyData}
variable {bk : Bk} {shs : List Sh} {ds : List PyData} {sg tl : List Nat}
local macro_rules | `(tactic| walk_at "gn") => `(tactic| simp only [gName, List.set_cons_zero, List.set_cons_succ])

local macro_rules | `(tactic| walk_at "rd") => `(tactic| simp (config := { failIfUnchanged := false, maxSteps := 10000000 }) only [L2.start, cxOf_K, nox_K, List.map_cons, List.map_nil, List.length_cons, List.length_nil, List.cons_append, List.nil_append, List.replicate_succ, List.replicate_zero, Nat.zero_add, Nat.reduceAdd, Nat.reduceSub, Nat.sub_self, tSeq, tIfS, tTest, tOp, tC, tVar, rI0, rI, rU, tUn, tRet, tRetN, tDrop, tNext, tBreak, tCont, tAsg, gName, gNil, gCons, tCons, tNil, tCB, tCall, tTry, tTryAs, tRaise, sFld, tFld, tMake, tMeth, Ends.gone, caught_K, tB, tAnd, tOr, tNot, tAndV, tOrV, tNotV, tIf, tChain, tNoPart, tPart, tSl, tNever, tAug, rIxL, rIxT, rSlL, tLst, tTup, gTup, tRev, tLZ, tConT, tDict0, tDNewT, tDGet, sDPut, rNotInD, rInD, tEither, tSlStep, rBits, rFind, rIn, tBM, tBM0, rAppend, rReverse, rEq, rNe, scal_ii, scal_ss, rCat, rSetL, gSub, ipI, capSt, List.getD_cons_zero, List.getD_cons_succ, decide_true, not_true_eq_false, not_false_eq_true,
  exists_eq_left', exists_eq_left, exists_eq', exists_eq, exists_and_left, and_assoc, Option.some.injEq, V.int.injEq, V.bl.injEq, V.ref.injEq, V.str.injEq, List.getElem?_cons_zero, List.getElem?_cons_succ, List.set_cons_zero, List.set_cons_succ, List.cons.injEq, and_true, true_and, List.append_nil, decide_eq_true_eq, Bool.not_eq_true', decide_eq_false_iff_not, Bool.not_not, Bool.not_true, Bool.not_false, Bool.true_eq_false, Bool.false_eq_true, if_true, if_false, ite_true, ite_false])

theorem vl_ty {K : PySem.W.Frag} {H : Hp} {v : V} {d : PyData} {L : List Addr} (h : VL H v d L) : TyOf K H v (.type (tn d)) := by
  cases h with
  | int i => exact .int i
  | str x h => exact .str _
  | lst h => exact .lst h
  | tup h => exact .tup h
theorem mem_depth {d : PyData} : ∀ {ds : List PyData}, d ∈ ds → d.depth ≤ PyData.depthAll ds
  | e :: ds, h => by
    simp only [PyData.depthAll]
    rcases List.mem_cons.mp h with rfl | h
    · omega
    · have := mem_depth h; omega
theorem own_flat {H : Hp} {v : V} {d : PyData} (h : VL H v d []) : Own H H v d [] := ⟨h, .nil, fun a h => by cases h⟩
theorem own_tup {H H' : Hp} {ys : List V} {ds : List PyData} {L : List Addr} {p : Addr} (h : Owns H H' ys ds L) (hl : ys.length ≤ 10000) (hp : H' p = none) : Own H (upd H' p (.tup ys)) (.ref p) (.tuple ds) L := ⟨.tup upd_same hl (h.vl.keep (.upd_new hp _)), h.nd, h.new⟩
variable {m : Nat}
def sp_copied (m : Nat) : Sp := fun vs H Q _ => ∃ v d L, vs = [v] ∧ VL H v d L ∧ d.depth < m ∧ ∀ v' H' L', Same H H' → Own H H' v' d L' → Q v' H'
theorem no_copied {vs : List V} {H : Hp} {Q : VK} {E : XK} (h : sp_copied 0 vs H Q E) : False := by
  obtain ⟨v, d, L, _, _, h, _⟩ := h
  omega
theorem ok_copied {k : Nat} {C_Lister : Addr} {C_Stepper : Addr} (R : g.Raw "copied" "copied" s_copied ["thing"]) (F_copied : g.Fn k "copied" ["thing"] (sp_copied m)) (b_dict : g.mg "dict" = none) (b_isinstance : g.mg "isinstance" = none) (b_list : g.mg "list" = none) (b_tuple : g.mg "tuple" = none) : g.Fn (k + 1) "copied" ["thing"] (sp_copied (m + 1)) := by
  refine R.fn sc_copied (fun vs H Q E h => by obtain ⟨v, d, L, rfl, hv, hdp, q⟩ := h; rfl) fun f_ cdv A outer s H vs Q E hr h => ?_
  obtain ⟨v, d, L, rfl, hv, hdp, q⟩ := h
  refine ⟨_, (pss_cons (ps_if (pt_val (pe_bf b_isinstance call_isinst (pa_cons (pv 0) (pa_cons (pe_bn (T := "list") b_list) pa_nil)))) (pss_one (ps_ret (pe_lc (g := gName 0) (src := [none]) (N' := (["each"] : List Str)) (.own .nil) rfl (pi_list (pv 0)) (fun cl C s₀ H₀ fp pn => (pg_name (i := 0) (show List.Nodup (["each"] : List Str) by decide +kernel) rfl (Or.inl rfl) (Or.inr rfl))) (fun cl C s₀ H₀ fp pn => pts_nil) (fun cl C s₀ H₀ fp pn => (pe_fn F_copied hr (pa_cons (pv 0) pa_nil))) (by intro x hx; simp at hx)))) pss_nil)
      (pss_cons (ps_if (pt_val (pe_bf b_isinstance call_isinst (pa_cons (pv 0) (pa_cons (pe_bn (T := "tuple") b_tuple) pa_nil)))) (pss_one (ps_ret (pe_bt b_tuple call_tuple_of (pa_cons (pe_lc (g := gName 0) (src := [none]) (N' := (["each"] : List Str)) (.own .nil) rfl (pi_tup (pv 0)) (fun cl C s₀ H₀ fp pn => (pg_name (i := 0) (show List.Nodup (["each"] : List Str) by decide +kernel) rfl (Or.inl rfl) (Or.inr rfl))) (fun cl C s₀ H₀ fp pn => pts_nil) (fun cl C s₀ H₀ fp pn => (pe_fn F_copied hr (pa_cons (pv 0) pa_nil))) (by intro x hx; simp at hx)) pa_nil)))) pss_nil)
      (pss_cons (ps_if (pt_val (pe_bf b_isinstance call_isinst (pa_cons (pv 0) (pa_cons (pe_bn (T := "dict") b_dict) pa_nil)))) (pss_one ps_never) pss_nil)
      (pss_one (ps_ret (pv 0)))))), ?_⟩
  have ty := vl_ty (K := g.K) hv
  walk_at "rd"
  cases hv with
  | int i => exact ⟨_, rfl, _, ty, false, rfl, iteF ⟨_, rfl, _, ty, false, rfl, iteF ⟨_, rfl, _, ty, false, rfl, iteF (q _ _ _ (.refl _) (own_flat (.int i)))⟩⟩⟩
  | str x h => exact ⟨_, rfl, _, ty, false, rfl, iteF ⟨_, rfl, _, ty, false, rfl, iteF ⟨_, rfl, _, ty, false, rfl, iteF (q _ _ _ (.refl _) (own_flat (.str x h)))⟩⟩⟩
  | @lst a vs ds L h hl hds =>
    have e1 := hds.length
    refine ⟨_, rfl, _, ty, true, rfl, iteT ?_⟩
    refine tLC_own (K := g.K) (b := a) (xs := vs) ds (fun R r => by walk_at "rd"; exact r) (SqL.of h) (by omega) hl ?_ (fun D H' L sm ho => q _ _ _ sm ho)
    intro i x e H' hx he sm R r
    obtain ⟨e', L', he', hve⟩ := hds.at hx
    rw [he] at he'
    cases he'
    have hme := mem_depth (List.mem_of_getElem? he)
    walk_at "rd"
    exact ⟨x, e, L', rfl, hve.keep sm, by rw [PyData.depth] at hdp; omega, fun v' H'' L'' s' ho => r v' H'' L'' s' ho⟩
  | @tup a vs ds L h hl hds =>
    have e1 := hds.length
    refine ⟨_, rfl, _, ty, false, rfl, iteF ⟨_, rfl, _, ty, true, rfl, iteT ?_⟩⟩
    refine tLC_ownT (K := g.K) (b := a) (xs := vs) ds (fun R r => by walk_at "rd"; exact r) (SqT.of h) (by omega) hl ?_ ?_
    · intro i x e H' hx he sm R r
      obtain ⟨e', L', he', hve⟩ := hds.at hx
      rw [he] at he'
      cases he'
      have hme := mem_depth (List.mem_of_getElem? he)
      walk_at "rd"
      exact ⟨x, e, L', rfl, hve.keep sm, by rw [PyData.depth] at hdp; omega, fun v' H'' L'' s' ho => r v' H'' L'' s' ho⟩
    · intro D H' L sm ho
      obtain ⟨ys, L1, _, h1, h2, h3, _, _⟩ := ho.inv
      exact ⟨_, rfl, _, .inl ⟨SqL.of h1, fun p hp => q _ _ _ (sm.trans (.upd_new hp _)) (own_tup h3 h2 hp)⟩⟩
end KW
set_option maxHeartbeats 8000000
namespace KW
open PySem L2

variable {g : Gx}
variable {bk : Bk}
variable {m : Nat}
variable {bk : Bk} {shs : List Sh} {ds : List PyData}
variable {bk : Bk} {shs : List Sh} {ds : List PyData} {sg tl : List Nat}
local macro_rules | `(tactic| walk_at "gn") => `(tactic| simp only [gName, List.set_cons_zero, List.set_cons_succ])

local macro_rules | `(tactic| walk_at "rd") => `(tactic| simp (config := { failIfUnchanged := false, maxSteps := 10000000 }) only [L2.start, cxOf_K, nox_K, List.map_cons, List.map_nil, List.length_cons, List.length_nil, List.cons_append, List.nil_append, List.replicate_succ, List.replicate_zero, Nat.zero_add, Nat.reduceAdd, Nat.reduceSub, Nat.sub_self, tSeq, tIfS, tTest, tOp, tC, tVar, rI0, rI, rU, tUn, tRet, tRetN, tDrop, tNext, tBreak, tCont, tAsg, gName, gNil, gCons, tCons, tNil, tCB, tCall, tTry, tTryAs, tRaise, sFld, tFld, tMake, tMeth, Ends.gone, caught_K, tB, tAnd, tOr, tNot, tAndV, tOrV, tNotV, tIf, tChain, tNoPart, tPart, tSl, tNever, tAug, rIxL, rIxT, rSlL, tLst, tTup, gTup, tRev, tLZ, tConT, tDict0, tDNewT, tDGet, sDPut, rNotInD, rInD, tEither, tSlStep, rBits, rFind, rIn, tBM, tBM0, rAppend, rReverse, rEq, rNe, scal_ii, scal_ss, rCat, rSetL, gSub, ipI, capSt, List.getD_cons_zero, List.getD_cons_succ, decide_true, not_true_eq_false, not_false_eq_true,
  exists_eq_left', exists_eq_left, exists_eq', exists_eq, exists_and_left, and_assoc, Option.some.injEq, V.int.injEq, V.bl.injEq, V.ref.injEq, V.str.injEq, List.getElem?_cons_zero, List.getElem?_cons_succ, List.set_cons_zero, List.set_cons_succ, List.cons.injEq, and_true, true_and, List.append_nil, decide_eq_true_eq, Bool.not_eq_true', decide_eq_false_iff_not, Bool.not_not, Bool.not_true, Bool.not_false, Bool.true_eq_false, Bool.false_eq_true, if_true, if_false, ite_true, ite_false])

/-- the steps of a number: its distance from low halved again and again, the least last -/
def halves (lo : Int) (d : Nat) : List Int := if h : d = 0 then [] else (lo + ((d / 2 : Nat) : Int)) :: halves lo (d / 2)
termination_by d
decreasing_by omega
theorem halves_zero (lo : Int) : halves lo 0 = [] := by rw [halves]; simp
theorem halves_pos (lo : Int) {d : Nat} (h : 0 < d) : halves lo d = (lo + ((d / 2 : Nat) : Int)) :: halves lo (d / 2) := by rw [halves, dif_neg (by omega)]
theorem halves_len (lo : Int) : ∀ (n : Nat) {d : Nat}, d < 2 ^ n → (halves lo d).length ≤ n
  | 0, d, h => by
    have : d = 0 := by omega
    subst this
    rw [halves_zero]; exact Nat.le_refl _
  | n + 1, d, h => by
    by_cases h0 : d = 0
    · subst h0
      rw [halves_zero]; simp
    · rw [halves_pos lo (by omega), List.length_cons]
      have := halves_len lo n (d := d / 2) (by rw [Nat.pow_succ] at h; omega)
      omega
def sp_whole_steps (K : PySem.W.Frag) : Sp := fun vs H Q _ => ∃ (lo : Int) (d : Nat), vs = [.int lo, .int (lo + d)] ∧ d < 2 ^ 100 ∧ ∀ p H', Same H H' → H p = none → H' p = some (.lst ((halves lo d).reverse.map V.int)) → Q (.ref p) H'
theorem ok_whole_steps {C_Lister : Addr} {C_Stepper : Addr} (R : g.Raw "whole_steps" "whole_steps" s_whole_steps ["low", "value"]) : g.Fn (1) "whole_steps" ["low", "value"] (sp_whole_steps g.K) := by
  refine R.fn sc_whole_steps (fun vs H Q E h => by obtain ⟨lo, d, rfl, hd, q⟩ := h; rfl) fun f_ cdv A outer s H vs Q E hr h => ?_
  obtain ⟨lo, d, rfl, hd, q⟩ := h
  refine ⟨_, (pss_cons (ps_set (i := 2) sc_whole_steps.nd rfl (Or.inl rfl) (pe_lst pa_nil))
      (pss_cons (ps_set (i := 3) sc_whole_steps.nd rfl (Or.inl rfl) (pe_op op_sub (pv 1) (pv 0)))
      (pss_cons (ps_while PassesOwn.never (pt_cmpR op_gt (pv 3) pe_int (nomark _)) (pss_cons (ps_set (i := 3) sc_whole_steps.nd rfl (Or.inl rfl) (pe_op op_fdivL (pv 3) pe_int))
      (pss_one (ps_expr (pe_bm PySem.F.plainAttrs_list PySem.F.slot_list_append PySem.F.type_list_append mt_append (pv 2) (pa_cons (pe_op op_add (pv 0) (pv 3)) pa_nil))))))
      (pss_one (ps_ret (pe_rev (pv 2) (pe_un un_neg pe_int))))))), ?_⟩
  have h6 : 1000 < sizeLine := by decide
  have hlen := halves_len lo 100 hd
  walk_at "rd"
  refine ⟨few (by decide), fun p hp => ?_⟩
  refine while_of (α := Nat) (fun x σ H' => ∃ zs : List Int, σ = [some (.int lo), some (.int (lo + d)), some (.ref p), some (.int x)] ∧ Same H H' ∧ H' p = some (.lst (zs.map V.int)) ∧ zs ++ halves lo x = halves lo d) (fun x => decide (0 < x)) (fun x => x) d ⟨[], by rw [show lo + (d : Int) - lo = d by omega], .upd_new hp _, upd_same, rfl⟩ ?_ ?_ ?_
  · rintro x σ H' ⟨zs, rfl, sm, hz, e⟩ R r
    walk_at "rd"
    rw [show decide ((0 : Int) < (x : Int)) = decide (0 < x) from decide_eq_decide.mpr (by omega)]
    exact r H' ⟨zs, rfl, sm, hz, e⟩
  · rintro x σ H' ⟨zs, rfl, sm, hz, e⟩ hc
    have hc : 0 < x := of_decide_eq_true hc
    have hl : zs.length ≤ 100 := by
      have := congrArg List.length e
      rw [List.length_append] at this
      omega
    walk_at "rd"
    rw [halves_pos lo hc] at e
    exact ⟨small_div (by decide) (by decide), .inl ⟨rfl, _, SqL.of hz⟩, _, hz, by rw [List.length_map]; omega, x / 2, rfl, .upd_over hp sm _, ⟨zs ++ [lo + ((x / 2 : Nat) : Int)], by rw [upd_same, List.map_append]; rfl, by rw [List.append_assoc]; exact e⟩, by omega⟩
  · rintro x σ H' ⟨zs, rfl, sm, hz, e⟩ hc
    have hc : ¬ 0 < x := of_decide_eq_false hc
    have h0 : x = 0 := by omega
    subst h0
    rw [halves_zero, List.append_nil] at e
    subst e
    walk_at "rd"
    refine ⟨_, SqL.of hz, fun p2 hp2 => q p2 _ (sm.trans (.upd_new hp2 _)) (sm.free hp2) ?_⟩
    rw [upd_same, List.map_reverse]
/-- all but one thing stays -/
def SameBut (p : Addr) (H H' : Hp) : Prop := ∀ q o, q ≠ p → H q = some o → H' q = some o
def sp_Lister___init__ (K : PySem.W.Frag) (C : Addr) : Sp := fun vs H Q _ => ∃ (p dx : Addr) (b : V), vs = [.ref p, b] ∧ H p = some (.ins C dx []) ∧ ∀ H', SameBut p H H' → Q .non H'
theorem ok_Lister___init__ {C_Lister : Addr} {C_Stepper : Addr} (R : g.RawI "Lister" C_Lister "Lister.__init__" s_Lister___init__ ["self", "book"]) (cl_Lister : Cls g.K C_Lister) (n_Lister_book : NoAttr g.K C_Lister "book") (n_Lister_makers : NoAttr g.K C_Lister "makers") : g.Ma (1) "Lister" C_Lister ["self", "book"] (sp_Lister___init__ g.K C_Lister) := by
  refine R.ma sc_Lister___init__ (fun vs H Q E h => by obtain ⟨p, dx, b, rfl, hp, q⟩ := h; rfl) fun f_ cdv A outer s H vs Q E hr h => ?_
  obtain ⟨p, dx, b, rfl, hp, q⟩ := h
  refine ⟨_, (pss_cons (ps_fld (pv 0) (pv 1) rfl)
      (pss_one (ps_fld (pv 0) pe_dict0 rfl))), ?_⟩
  walk_at "rd"
  refine ⟨C_Lister, dx, [], hp, cl_Lister, n_Lister_book, by decide, fun p1 hp1 => ?_⟩
  have hne : p ≠ p1 := ne_of_none upd_same hp1
  rw [upd_ne (Ne.symm hne)] at hp1
  refine ⟨C_Lister, dx, _, by rw [upd_ne hne]; exact upd_same, cl_Lister, n_Lister_makers, by simp [putF], q _ fun x o hx h => ?_⟩
  rw [upd_ne hx, upd_ne (ne_of_none h hp1), upd_ne hx]
  exact h
theorem nbl : ¬ (("book" : Str) = "lister") := by decide +kernel
def stf (b : V) (l : Addr) : List (Str × V) := [("book", b), ("lister", .ref l)]
theorem stf_book (b : V) (l : Addr) : (stf b l).lookup ("book" : Str) = some b := rfl
theorem stf_new (b : V) (l : Addr) : putF "lister" (.ref l) (putF "book" b []) = stf b l := by
  show (if ("book" : Str) = "lister" then _ else (("book" : Str), b) :: putF "lister" (V.ref l) []) = _
  rw [if_neg nbl]
  rfl
theorem stf_no (b : V) (l : Addr) {m : Str} (h1 : (m == ("book" : Str)) = false) (h2 : (m == ("lister" : Str)) = false) : (stf b l).lookup m = none := by
  show List.lookup m [(("book" : Str), b), (("lister" : Str), V.ref l)] = _
  rw [List.lookup_cons, h1, List.lookup_cons, h2]
  rfl
def sp_Stepper___init__ (K : PySem.W.Frag) (C : Addr) : Sp := fun vs H Q _ => ∃ (p dx : Addr) (b : V), vs = [.ref p, b] ∧ H p = some (.ins C dx []) ∧ ∀ l H', SameBut p H H' → H' p = some (.ins C dx (stf b l)) → Q .non H'
theorem ok_Stepper___init__ {k : Nat} {C_Lister : Addr} {C_Stepper : Addr} (R : g.RawI "Stepper" C_Stepper "Stepper.__init__" s_Stepper___init__ ["self", "book"]) {j_Lister___init__ : Nat} (F_Lister___init__ : g.Ma j_Lister___init__ "Lister" C_Lister ["self", "book"] (sp_Lister___init__ g.K C_Lister)) (h_Lister___init__ : j_Lister___init__ + 1 ≤ k) (cl_Stepper : Cls g.K C_Stepper) (n_Stepper_book : NoAttr g.K C_Stepper "book") (n_Stepper_lister : NoAttr g.K C_Stepper "lister") : g.Ma (k + 1) "Stepper" C_Stepper ["self", "book"] (sp_Stepper___init__ g.K C_Stepper) := by
  refine R.ma sc_Stepper___init__ (fun vs H Q E h => by obtain ⟨p, dx, b, rfl, hp, q⟩ := h; rfl) fun f_ cdv A outer s H vs Q E hr h => ?_
  obtain ⟨p, dx, b, rfl, hp, q⟩ := h
  refine ⟨_, (pss_cons (ps_fld (pv 0) (pv 1) rfl)
      (pss_one (ps_fld (pv 0) (pe_ma F_Lister___init__ hr (pa_cons (pv 1) pa_nil)) rfl))), ?_⟩
  walk_at "rd"
  refine ⟨C_Stepper, dx, [], hp, cl_Stepper, n_Stepper_book, by decide, fun x dx2 hx hdx hne => ?_⟩
  have npx : p ≠ x := ne_of_none upd_same hx
  have npd : p ≠ dx2 := ne_of_none upd_same hdx
  refine ⟨x, dx2, b, rfl, upd_same, fun H' s' => ⟨rfl, C_Stepper, dx, _, s' _ _ npx (by rw [upd_ne npx, upd_ne npd]; exact upd_same), cl_Stepper, n_Stepper_lister, by simp [putF], ?_⟩⟩
  rw [upd_ne (Ne.symm npx)] at hx
  rw [upd_ne (Ne.symm npd)] at hdx
  rw [stf_new]
  refine q x _ (fun y o hy h => ?_) upd_same
  have n1 : y ≠ x := ne_of_none h hx
  have n2 : y ≠ dx2 := ne_of_none h hdx
  rw [upd_ne hy]
  exact s' _ _ n1 (by rw [upd_ne n1, upd_ne n2, upd_ne hy]; exact h)
end KW
set_option maxHeartbeats 8000000
namespace KW
open PySem L2

variable {g : Gx}
variable {bk : Bk}
variable {m : Nat}
variable {bk : Bk} {shs : List Sh} {ds : List PyData}
variable {bk : Bk} {shs : List Sh} {ds : List PyData} {sg tl : List Nat}
local macro_rules | `(tactic| walk_at "gn") => `(tactic| simp only [gName, List.set_cons_zero, List.set_cons_succ])

local macro_rules | `(tactic| walk_at "rd") => `(tactic| simp (config := { failIfUnchanged := false, maxSteps := 10000000 }) only [L2.start, cxOf_K, nox_K, List.map_cons, List.map_nil, List.length_cons, List.length_nil, List.cons_append, List.nil_append, List.replicate_succ, List.replicate_zero, Nat.zero_add, Nat.reduceAdd, Nat.reduceSub, Nat.sub_self, tSeq, tIfS, tTest, tOp, tC, tVar, rI0, rI, rU, tUn, tRet, tRetN, tDrop, tNext, tBreak, tCont, tAsg, gName, gNil, gCons, tCons, tNil, tCB, tCall, tTry, tTryAs, tRaise, sFld, tFld, tMake, tMeth, Ends.gone, caught_K, tB, tAnd, tOr, tNot, tAndV, tOrV, tNotV, tIf, tChain, tNoPart, tPart, tSl, tNever, tAug, rIxL, rIxT, rSlL, tLst, tTup, gTup, tRev, tLZ, tConT, tDict0, tDNewT, tDGet, sDPut, rNotInD, rInD, tEither, tSlStep, rBits, rFind, rIn, tBM, tBM0, rAppend, rReverse, rEq, rNe, scal_ii, scal_ss, rCat, rSetL, gSub, ipI, capSt, List.getD_cons_zero, List.getD_cons_succ, decide_true, not_true_eq_false, not_false_eq_true,
  exists_eq_left', exists_eq_left, exists_eq', exists_eq, exists_and_left, and_assoc, Option.some.injEq, V.int.injEq, V.bl.injEq, V.ref.injEq, V.str.injEq, List.getElem?_cons_zero, List.getElem?_cons_succ, List.set_cons_zero, List.set_cons_succ, List.cons.injEq, and_true, true_and, List.append_nil, decide_eq_true_eq, Bool.not_eq_true', decide_eq_false_iff_not, Bool.not_not, Bool.not_true, Bool.not_false, Bool.true_eq_false, Bool.false_eq_true, if_true, if_false, ite_true, ite_false])

def sp_refuse_no_value (K : PySem.W.Frag) : Sp := fun vs H Q _ => ∃ (bk : Bk) (b x v : V) (sh : Sh) (d : PyData) (n : Nat), vs = [b, x, v] ∧ BkAt K H b bk ∧ ShAt K H x sh ∧ Enf bk LV sh d ∧ Vd H v d ∧ jd bk LV sh d = some n ∧ ∀ H', Same H H' → Q .non H'
theorem ok_refuse_no_value {k : Nat} {C_Lister : Addr} {C_Stepper : Addr} (R : g.Raw "refuse_no_value" "refuse_no_value" s_refuse_no_value ["book", "shape", "value"]) (F_fits : g.Fn k "fits" ["book", "shape", "value"] (sp_fits g.K)) : g.Fn (k + 1) "refuse_no_value" ["book", "shape", "value"] (sp_refuse_no_value g.K) := by
  refine R.fn sc_refuse_no_value (fun vs H Q E h => by obtain ⟨bk, b, x, v, sh, d, n, rfl, hbk, hx, hft, hv, hn, q⟩ := h; rfl) fun f_ cdv A outer s H vs Q E hr h => ?_
  obtain ⟨bk, b, x, v, sh, d, n, rfl, hbk, hx, hft, hv, hn, q⟩ := h
  refine ⟨_, (pss_one (ps_if (pt_not (pt_val (pe_fn F_fits hr (pa_cons (pv 0) (pa_cons (pv 1) (pa_cons (pv 2) pa_nil)))))) (pss_one ps_never) pss_nil)), ?_⟩
  walk_at "rd"
  refine ⟨bk, b, x, v, sh, d, rfl, hbk, hx, hft, hv, fun H' s' => ⟨_, rfl, ?_⟩⟩
  rw [hn]
  exact iteN (by simp) (q H' s')
/-- a text without each of its signs -/
def outs (l : List Nat) : List (List Nat) := (List.range l.length).map fun i => l.take i ++ l.drop (i + 1)
def sp_without_each (K : PySem.W.Frag) : Sp := fun vs H Q _ => ∃ (l : List Nat), vs = [.str (S l)] ∧ l.length ≤ 1000 ∧ ∀ D H', Same H H' → H D = none → H' D = some (.lst ((outs l).map fun z => V.str (S z))) → Q (.ref D) H'
theorem ok_without_each {C_Lister : Addr} {C_Stepper : Addr} (R : g.Raw "without_each" "without_each" s_without_each ["things"]) (b_len : g.mg "len" = none) (b_range : g.mg "range" = none) : g.Fn (1) "without_each" ["things"] (sp_without_each g.K) := by
  refine R.fn sc_without_each (fun vs H Q E h => by obtain ⟨l, rfl, hl, q⟩ := h; rfl) fun f_ cdv A outer s H vs Q E hr h => ?_
  obtain ⟨l, rfl, hl, q⟩ := h
  refine ⟨_, (pss_one (ps_ret (pe_lc (g := gName 0) (src := [none, some 0]) (N' := (["place", "things"] : List Str)) (.own (.cap (i := 0) rfl rfl (by first | exact Or.inl rfl | exact Or.inr rfl) .nil)) rfl (pi_range1 rfl b_range (pa_cons (pe_bf b_len call_len_str (pa_cons (pv 0) pa_nil)) pa_nil)) (fun cl C s₀ H₀ fp pn => (pg_name (i := 0) (show List.Nodup (["place", "things"] : List Str) by decide +kernel) rfl (Or.inl rfl) (Or.inr rfl))) (fun cl C s₀ H₀ fp pn => pts_nil) (fun cl C s₀ H₀ fp pn => (pe_op op_add_str (pe_slice sl_str (pv 1) po_none (po_some (pv 0))) (pe_slice sl_str (pv 1) (po_some (pe_op op_add (pv 0) pe_int)) po_none))) (by intro x hx; simp at hx; first | (subst hx; exact Or.inl rfl) | (rcases hx with rfl | rfl <;> exact Or.inl rfl) | (rcases hx with rfl | rfl | rfl <;> exact Or.inl rfl))))), ?_⟩
  walk_at "rd"
  refine tLC_range1 (n := l.length) ((outs l).map fun z => V.str (S z)) (fun R r => ?_) (by simp [outs]) (by omega) ?_ ?_
  · walk_at "rd"
    rw [S_len]
    exact ⟨few (by omega), r⟩
  · intro i y H' hi hy sm R r
    walk_at "rd"
    have hy' : V.str (S (l.take i ++ l.drop (i + 1))) = y := by
      rw [List.getElem?_map, outs, List.getElem?_map, List.getElem?_range hi] at hy
      exact Option.some.inj hy
    refine ⟨_, rfl, by rw [S_len]; exact few (by omega), _, rfl, by rw [S_len]; exact few (by omega), _, rfl, _, rfl, ?_, ?_⟩
    · rw [cutS_hi, show ((i : Int) + 1) = ((i + 1 : Nat) : Int) by omega, cutS_lo, S_len, S_len, List.length_take, List.length_drop]
      exact few (by omega)
    · rw [cutS_hi, show ((i : Int) + 1) = ((i + 1 : Nat) : Int) by omega, cutS_lo, S_app, hy']
      exact r H' (.refl _)
  · intro D H' hD sm hd
    exact q D H' sm hD hd
/-- the steps of each thing put in its place -/
def chg (ds : List PyData) : Nat → List (List PyData) → List (List PyData)
  | _, [] => []
  | i, L :: Ls => (L.map fun s => ds.take i ++ [s] ++ ds.drop (i + 1)) ++ chg ds (i + 1) Ls
theorem chg_append (ds : List PyData) : ∀ (o : Nat) (Ls Ms : List (List PyData)), chg ds o (Ls ++ Ms) = chg ds o Ls ++ chg ds (o + Ls.length) Ms
  | o, [], Ms => by simp [chg]
  | o, L :: Ls, Ms => by
    rw [List.cons_append, chg, chg, chg_append ds (o + 1) Ls Ms, List.append_assoc, List.length_cons, show o + 1 + Ls.length = o + (Ls.length + 1) by omega]
theorem chg_snoc (ds : List PyData) {Ls : List (List PyData)} {i : Nat} {L : List PyData} (h : Ls[i]? = some L) : chg ds 0 (Ls.take (i + 1)) = chg ds 0 (Ls.take i) ++ L.map fun s => ds.take i ++ [s] ++ ds.drop (i + 1) := by
  have hi := (List.getElem?_eq_some_iff.mp h).1
  rw [take_snoc h, chg_append, List.length_take, show 0 + min i Ls.length = i by omega]
  simp [chg]
theorem chg_le (ds : List PyData) (Ls : List (List PyData)) (i : Nat) : (chg ds 0 (Ls.take i)).length ≤ (chg ds 0 Ls).length := by
  have := chg_append ds 0 (Ls.take i) (Ls.drop i)
  rw [List.take_append_drop] at this
  rw [this, List.length_append]; omega
/-- lists of steps in a list -/
def Inn (H : Hp) (q : Addr) (Ls : List (List PyData)) : Prop := ∃ qs : List Addr, H q = some (.lst (qs.map V.ref)) ∧ qs.length = Ls.length ∧ ∀ (j : Nat) a L, qs[j]? = some a → Ls[j]? = some L → ∃ ys, H a = some (.lst ys) ∧ V0s H ys L ∧ ys.length ≤ 1000
def Rows (H : Hp) (cs : List V) (rs : List (List PyData)) : Prop := cs.length = rs.length ∧ ∀ (j : Nat) c r, cs[j]? = some c → rs[j]? = some r → ∃ a us, c = .ref a ∧ H a = some (.lst us) ∧ V0s H us r ∧ us.length ≤ 1000
theorem Rows.keep {H H' : Hp} {cs : List V} {rs : List (List PyData)} (h : Rows H cs rs) (s : Same H H') : Rows H' cs rs := ⟨h.1, fun j c r h1 h2 => by
  obtain ⟨a, us, e, h3, h4, h5⟩ := h.2 j c r h1 h2
  exact ⟨a, us, e, s _ _ h3, h4.keep s.tps, h5⟩⟩
theorem Rows.append {H : Hp} {cs cs' : List V} {rs rs' : List (List PyData)} (h : Rows H cs rs) (h' : Rows H cs' rs') : Rows H (cs ++ cs') (rs ++ rs') := by
  refine ⟨by rw [List.length_append, List.length_append, h.1, h'.1], fun i u d h1 h2 => ?_⟩
  by_cases hi : i < cs.length
  · rw [List.getElem?_append_left hi] at h1
    rw [List.getElem?_append_left (by rw [← h.1]; exact hi)] at h2
    exact h.2 i u d h1 h2
  · rw [List.getElem?_append_right (by omega)] at h1
    rw [List.getElem?_append_right (by rw [← h.1]; omega), ← h.1] at h2
    exact h'.2 _ u d h1 h2
/-- the list D takes on other things: the rows stay, where D is none of them -/
theorem Rows.put {H : Hp} {cs : List V} {rs : List (List PyData)} {D : Addr} {zs zs' : List V} (h : Rows H cs rs) (hD : H D = some (.lst zs)) (hn : ∀ c ∈ cs, c ≠ .ref D) : Rows (upd H D (.lst zs')) cs rs := ⟨h.1, fun j c r h1 h2 => by
  obtain ⟨a, us, e, h3, h4, h5⟩ := h.2 j c r h1 h2
  have hne : a ≠ D := fun z => hn c (List.mem_of_getElem? h1) (by rw [e, z])
  exact ⟨a, us, e, by rw [upd_ne hne]; exact h3, h4.keep (Tps.upd_lst hD), h5⟩⟩
def sp_with_each_step (K : PySem.W.Frag) : Sp := fun vs H Q _ => ∃ (t q : Addr) (us : List V) (ds : List PyData) (Ls : List (List PyData)), vs = [.ref t, .ref q] ∧ H t = some (.lst us) ∧ V0s H us ds ∧ us.length ≤ 999 ∧ Inn H q Ls ∧ (chg ds 0 Ls).length ≤ 1000 ∧ ∀ D cs H', Same H H' → H D = none → H' D = some (.lst cs) → Rows H' cs (chg ds 0 Ls) → Q (.ref D) H'
theorem ok_with_each_step {C_Lister : Addr} {C_Stepper : Addr} (R : g.Raw "with_each_step" "with_each_step" s_with_each_step ["things", "inner"]) (b_enumerate : g.mg "enumerate" = none) : g.Fn (1) "with_each_step" ["things", "inner"] (sp_with_each_step g.K) := by
  refine R.fn sc_with_each_step (fun vs H Q E h => by obtain ⟨t, q', us, ds, Ls, rfl, ht, hus, hul, ⟨qs, hq, hql, hqs⟩, hcl, q⟩ := h; rfl) fun f_ cdv A outer s H vs Q E hr h => ?_
  obtain ⟨t, q', us, ds, Ls, rfl, ht, hus, hul, ⟨qs, hq, hql, hqs⟩, hcl, q⟩ := h
  refine ⟨_, (pss_cons (ps_set (i := 2) sc_with_each_step.nd rfl (Or.inl rfl) (pe_lst pa_nil))
      (pss_cons (ps_for PassesOwn.never rfl (pi_enumL rfl b_enumerate (pa_cons (pv 1) pa_nil)) (pg_tup (n := 2) rfl (pgs_cons (pg_name (i := 3) sc_with_each_step.nd rfl (Or.inr rfl)) (pgs_cons (pg_name (i := 4) sc_with_each_step.nd rfl (Or.inl rfl)) pgs_nil))) (pss_one (ps_expr (pe_bm PySem.F.plainAttrs_list PySem.F.slot_list_extend PySem.F.type_list_extend mt_extend (pv 2) (pa_cons (pe_lc (g := gName 0) (src := [none, some 0, some 3]) (N' := (["step", "things", "place"] : List Str)) (.own (.cap (i := 0) rfl rfl (by first | exact Or.inl rfl | exact Or.inr rfl) (.cap (i := 3) rfl rfl (by first | exact Or.inl rfl | exact Or.inr rfl) .nil))) rfl (pi_list (pv 4)) (fun cl C s₀ H₀ fp pn => (pg_name (i := 0) (show List.Nodup (["step", "things", "place"] : List Str) by decide +kernel) rfl (Or.inl rfl) (Or.inr rfl))) (fun cl C s₀ H₀ fp pn => pts_nil) (fun cl C s₀ H₀ fp pn => (pe_op op_cat (pe_op op_cat (pe_slice (sl_listK (K := g.K)) (pv 1) po_none (po_some (pv 2))) (pe_lst (pa_cons (pv 0) pa_nil))) (pe_slice (sl_listK (K := g.K)) (pv 1) (po_some (pe_op op_add (pv 2) pe_int)) po_none))) (by intro x hx; simp at hx; first | (subst hx; exact Or.inl rfl) | (rcases hx with rfl | rfl <;> exact Or.inl rfl) | (rcases hx with rfl | rfl | rfl <;> exact Or.inl rfl))) pa_nil)))))
      (pss_one (ps_ret (pv 2))))), ?_⟩
  walk_at "rd"
  refine ⟨few (by decide), fun D hD => ?_⟩
  refine tFor_enumL (K := g.K) (a := q') (xs := qs.map V.ref) (fun i σ H' => ∃ o3 o4 cs, σ = [some (.ref t), some (.ref q'), some (.ref D), o3, o4] ∧ Same H H' ∧ H' D = some (.lst cs) ∧ (∀ c ∈ cs, c ≠ .ref D) ∧ Rows H' cs (chg ds 0 (Ls.take i))) (fun R r => by walk_at "rd"; exact r) ⟨none, none, [], rfl, .upd_new hD _, upd_same, fun c hc => absurd hc (by simp), ⟨rfl, fun j c r h => by simp at h⟩⟩ (fun i σ H' _ ⟨_, _, _, _, sm, _⟩ => SqL.of (sm _ _ hq)) ?_ ?_
  · rintro i x σ H' T hx ⟨o3, o4, cs, rfl, sm, hd, hnd, hrw⟩ hT
    rw [List.getElem?_map] at hx
    obtain ⟨a, ha, rfl⟩ := Option.map_eq_some_iff.mp hx
    have hi := (List.getElem?_eq_some_iff.mp ha).1
    have hL : Ls[i]? = some (Ls[i]'(by omega)) := List.getElem?_eq_getElem _
    obtain ⟨ys, hya, hyv, hyl⟩ := hqs i a _ ha hL
    have sT := Same.upd_new hT (.tup [.int (i : Int), .ref a])
    have s2 := sm.trans sT
    walk_at "rd"
    refine ⟨_, SqT.of upd_same, rfl, _, _, rfl, _, _, rfl, rfl, .inl ⟨rfl, _, SqL.of (sT _ _ hd)⟩, ?_⟩
    refine tLC_relD (K := g.K) (xs := ys) (b := a) (fun D2 j y H2 => ∃ b us2 s, y = .ref b ∧ b ≠ D2 ∧ b ≠ D ∧ H2 b = some (.lst us2) ∧ us2.length ≤ 1000 ∧ (Ls[i]'(by omega))[j]? = some s ∧ V0s H2 us2 (ds.take i ++ [s] ++ ds.drop (i + 1))) ?_ ?_ (fun R r => by walk_at "rd"; exact r) (SqL.of (s2 _ _ hya)) (by omega) ?_ ?_
    · rintro D2 j y H2 H3 ⟨b, us2, s, rfl, h1, h2, h3, h4, h5, h6⟩ s3
      exact ⟨b, us2, s, rfl, h1, h2, s3 _ _ h3, h4, h5, h6.keep s3.tps⟩
    · rintro D2 j y H2 zs zs' ⟨b, us2, s, rfl, h1, h2, h3, h4, h5, h6⟩ hz
      exact ⟨b, us2, s, rfl, h1, h2, by rw [upd_ne h1]; exact h3, h4, h5, h6.keep (Tps.upd_lst hz)⟩
    · rintro D2 j x H2 zs hx sm2 hD2 R r
      obtain ⟨s, hs, hxs⟩ := hyv.at hx
      have s4 := s2.trans sm2
      walk_at "rd"
      have hx' := hxs.keep s4
      have e1 : (cutV us none (some (i : Int))).length ≤ us.length := cutV_length _ _ _
      have e2 : (cutV us (some ((i : Int) + 1)) none).length ≤ us.length := cutV_length _ _ _
      refine ⟨us, SqL.of (s4 _ _ ht), fun p hp => ⟨few (by decide), fun p1 hp1 => ?_⟩⟩
      have u1 := Same.upd_new hp (.lst (cutV us none (some (i : Int))))
      have u2 := Same.upd_new hp1 (.lst [x])
      refine ⟨_, u2 _ _ upd_same, _, upd_same, by rw [List.length_singleton]; exact few (by omega), fun p2 hp2 => ?_⟩
      have u3 := Same.upd_new hp2 (.lst (cutV us none (some (i : Int)) ++ [x]))
      refine ⟨us, SqL.of (((u1.trans u2).trans u3) _ _ (s4 _ _ ht)), fun p3 hp3 => ?_⟩
      have u4 := Same.upd_new hp3 (.lst (cutV us (some ((i : Int) + 1)) none))
      refine ⟨_, u4 _ _ upd_same, _, upd_same, by rw [List.length_append, List.length_singleton]; exact few (by omega), fun p4 hp4 => ?_⟩
      have u5 := Same.upd_new hp4 (.lst (cutV us none (some (i : Int)) ++ [x] ++ cutV us (some ((i : Int) + 1)) none))
      have sa := ((u1.trans u2).trans u3).trans u4
      have sall := sa.trans u5
      refine r _ _ sall ⟨p4, _, s, rfl, Ne.symm (ne_of_none (sa _ _ hD2) hp4), Ne.symm (ne_of_none (sa _ _ (sm2 _ _ (sT _ _ hd))) hp4), upd_same, ?_, hs, ?_⟩
      · rw [cutV_hi, show ((i : Int) + 1) = ((i + 1 : Nat) : Int) by omega, cutV_lo, List.length_append, List.length_append, List.length_take, List.length_drop, List.length_singleton]
        omega
      · rw [cutV_hi, show ((i : Int) + 1) = ((i + 1 : Nat) : Int) by omega, cutV_lo]
        have hu := hus.keep (s4.trans sall).tps
        rw [cutV_hi, show ((i : Int) + 1) = ((i + 1 : Nat) : Int) by omega, cutV_lo] at hu
        exact ((hu.take i).append (.one (by have := hx'.keep sall; rw [cutV_hi, show ((i : Int) + 1) = ((i + 1 : Nat) : Int) by omega, cutV_lo] at this; exact this))).append (hu.drop (i + 1))
    · rintro D2 zs H2 hD2 sm2 hz hzl hrel
      have hyL := hyv.1
      have hle := chg_le ds Ls i
      have hcs := hrw.1
      have hnew : ∀ c ∈ cs ++ zs, c ≠ .ref D := fun c hc => by
        rcases List.mem_append.mp hc with h | h
        · exact hnd c h
        · obtain ⟨j, hj, e⟩ := List.getElem_of_mem h
          obtain ⟨b, us2, s, rfl, _, hbD, _⟩ := hrel j c (by rw [List.getElem?_eq_getElem hj, e])
          intro z
          exact hbD (V.ref.inj z)
      have hdd := sm2 _ _ (sT _ _ hd)
      refine ⟨D, D2, cs, zs, rfl, rfl, hdd, hz, few (by omega), .upd_over hD (s2.trans sm2) _, _, upd_same, hnew, ?_⟩
      rw [chg_snoc ds hL]
      refine Rows.put (Rows.append (hrw.keep (sT.trans sm2)) ⟨by rw [List.length_map, hzl, hyL], fun j c r h1 h2 => ?_⟩) hdd hnew
      obtain ⟨b, us2, s, rfl, _, hbD, hb2, hb3, hb4, hb5⟩ := hrel j c h1
      rw [List.getElem?_map, hb4] at h2
      have e : ds.take i ++ [s] ++ ds.drop (i + 1) = r := Option.some.inj h2
      subst e
      exact ⟨b, us2, rfl, hb2, hb5, hb3⟩
  · rintro σ H' ⟨o3, o4, cs, rfl, sm, hd, hnd, hrw⟩
    walk_at "rd"
    rw [List.length_map, hql, List.take_length] at hrw
    exact q D cs H' sm hD hd hrw
end KW
set_option maxHeartbeats 8000000
namespace KW
open PySem L2

variable {g : Gx}
variable {bk : Bk}
variable {m : Nat}
variable {bk : Bk} {shs : List Sh} {ds : List PyData}
variable {bk : Bk} {shs : List Sh} {ds : List PyData} {sg tl : List Nat}
local macro_rules | `(tactic| walk_at "gn") => `(tactic| simp only [gName, List.set_cons_zero, List.set_cons_succ])

local macro_rules | `(tactic| walk_at "rd") => `(tactic| simp (config := { failIfUnchanged := false, maxSteps := 10000000 }) only [L2.start, cxOf_K, nox_K, List.map_cons, List.map_nil, List.length_cons, List.length_nil, List.cons_append, List.nil_append, List.replicate_succ, List.replicate_zero, Nat.zero_add, Nat.reduceAdd, Nat.reduceSub, Nat.sub_self, tSeq, tIfS, tTest, tOp, tC, tVar, rI0, rI, rU, tUn, tRet, tRetN, tDrop, tNext, tBreak, tCont, tAsg, gName, gNil, gCons, tCons, tNil, tCB, tCall, tTry, tTryAs, tRaise, sFld, tFld, tMake, tMeth, Ends.gone, caught_K, tB, tAnd, tOr, tNot, tAndV, tOrV, tNotV, tIf, tChain, tNoPart, tPart, tSl, tNever, tAug, rIxL, rIxT, rSlL, tLst, tTup, gTup, tRev, tLZ, tConT, tDict0, tDNewT, tDGet, sDPut, rNotInD, rInD, tEither, tSlStep, rBits, rFind, rIn, tBM, tBM0, rAppend, rReverse, rEq, rNe, scal_ii, scal_ss, rCat, rSetL, gSub, ipI, capSt, List.getD_cons_zero, List.getD_cons_succ, decide_true, not_true_eq_false, not_false_eq_true,
  exists_eq_left', exists_eq_left, exists_eq', exists_eq, exists_and_left, and_assoc, Option.some.injEq, V.int.injEq, V.bl.injEq, V.ref.injEq, V.str.injEq, List.getElem?_cons_zero, List.getElem?_cons_succ, List.set_cons_zero, List.set_cons_succ, List.cons.injEq, and_true, true_and, List.append_nil, decide_eq_true_eq, Bool.not_eq_true', decide_eq_false_iff_not, Bool.not_not, Bool.not_true, Bool.not_false, Bool.true_eq_false, Bool.false_eq_true, if_true, if_false, ite_true, ite_false])

theorem str_ok {l : List Nat} (h : ∀ c ∈ l, c < 1000) : PyData.strOk (S l) = true := by
  simp only [PyData.strOk, S, Array.all_eq_true', decide_eq_true_eq]
  intro c hc
  have := h c (by simpa using hc)
  omega
inductive Nb : PyData → Prop
  | int (i : Int) : Nb (.int i)
  | str (x : Str) : Nb (.str x)
  | tup (ds : List PyData) : (∀ d ∈ ds, Nb d) → Nb (.tuple ds)
theorem vds_v0 {H : Hp} : ∀ {vs : List V} {ds : List PyData}, Vds H vs ds → (∀ d ∈ ds, ∀ v, Vd H v d → VL H v d []) → V0s H vs ds
  | _, _, .nil, _ => .nil
  | _, _, .cons h hs, f => V0s.append (us := [_]) (ds := [_]) (.one (f _ (.head _) _ h)) (vds_v0 hs fun d hd => f d (.tail _ hd))
theorem Nb.vl {H : Hp} {d : PyData} (n : Nb d) : ∀ v, Vd H v d → VL H v d [] := by
  induction n with
  | int i => intro v h; cases h; exact .int i
  | str x => intro v h; cases h with | str l h hl => exact .str _ h
  | tup ds _ ih =>
    intro v h
    cases h with
    | tup h hl hs => exact .tup h (by omega) (vds_v0 hs fun d hd v hv => ih d hd v hv).vls
/-- the steps by what the things within step to -/
def stpBy : Sh → PyData → List (List PyData) → List PyData
  | .whole lo _, .int v, _ => (halves lo (v - lo).toNat).reverse.map PyData.int
  | .text _, .str x, _ => (outs x.cps.toList).map fun z => PyData.str (S z)
  | .row _, .tuple ds, Ls => (chg ds 0 Ls).map PyData.tuple
  | _, _, _ => []
def Pln : Sh → PyData → Prop
  | .whole lo _, .int v => v - lo < 2 ^ 100
  | .text _, .str x => ∀ c ∈ x.cps.toList, c < 1000
  | .row _, .tuple ds => ds.length ≤ 100
  | _, _ => False
def stp (bk : Bk) : Nat → Sh → PyData → List PyData
  | 0, _, _ => []
  | m + 1, sh, d => stpBy sh d ((within bk sh d).map fun w => stp bk m w.1 w.2)
def Okl (bk : Bk) : Nat → Sh → PyData → Prop
  | 0, _, _ => False
  | m + 1, sh, d => form sh d = true ∧ Pln sh d ∧ Nb d ∧ (stp bk (m + 1) sh d).length ≤ 1000 ∧ ∀ w ∈ within bk sh d, Okl bk m w.1 w.2
theorem outs_ok {l : List Nat} (h : ∀ c ∈ l, c < 1000) : ∀ z ∈ outs l, PyData.strOk (S z) = true := fun z hz => by
  obtain ⟨i, _, rfl⟩ := List.mem_map.mp hz
  refine str_ok fun c hc => ?_
  rcases List.mem_append.mp hc with h1 | h1
  · exact h c (List.mem_of_mem_take h1)
  · exact h c (List.mem_of_mem_drop h1)
theorem v0_map {H : Hp} {α : Type} (f : α → V) (e : α → PyData) : ∀ (l : List α), (∀ x ∈ l, VL H (f x) (e x) []) → V0s H (l.map f) (l.map e)
  | [], _ => .nil
  | x :: l, h => V0s.append (us := [f x]) (ds := [e x]) (.one (h x (.head _))) (v0_map f e l fun y hy => h y (.tail _ hy))
def sp_steps_by (K : PySem.W.Frag) : Sp := fun vs H Q _ => ∃ (st x v : V) (sh : Sh) (d : PyData) (q : Addr) (Ls : List (List PyData)), vs = [st, x, v, .ref q] ∧ ShAt K H x sh ∧ Vd H v d ∧ Nb d ∧ form sh d = true ∧ Pln sh d ∧ Inn H q Ls ∧ (stpBy sh d Ls).length ≤ 1000 ∧
  ∀ D ys H', Same H H' → H D = none → H' D = some (.lst ys) → V0s H' ys (stpBy sh d Ls) → Q (.ref D) H'
theorem ok_Stepper_steps_by {k : Nat} {C_Lister : Addr} {C_Stepper : Addr} (R : g.RawM C_Stepper "steps_by" "Stepper.steps_by" s_Stepper_steps_by ["self", "shape", "value", "inner"]) (F_whole_steps : g.Fn k "whole_steps" ["low", "value"] (sp_whole_steps g.K)) (F_without_each : g.Fn k "without_each" ["things"] (sp_without_each g.K)) (F_with_each_step : g.Fn k "with_each_step" ["things", "inner"] (sp_with_each_step g.K)) (b_list : g.mg "list" = none) (b_tuple : g.mg "tuple" = none) : g.Me (k + 1) C_Stepper "steps_by" ["self", "shape", "value", "inner"] (sp_steps_by g.K) := by
  refine R.me sc_Stepper_steps_by (fun vs H Q E h => by obtain ⟨st, x, v, sh, d, q', Ls, rfl, hx, hv, hnb, hf, hpl, hin, hlen, q⟩ := h; rfl) fun f_ cdv A outer s H vs Q E hr h => ?_
  obtain ⟨st, x, v, sh, d, q', Ls, rfl, hx, hv, hnb, hf, hpl, hin, hlen, q⟩ := h
  refine ⟨_, (pss_cons (ps_set (i := 4) sc_Stepper_steps_by.nd rfl (Or.inr rfl) (pe_ix ix_tup (pv 1) pe_int (fun _ _ => rfl)))
      (pss_cons (ps_if (pt_cmpR op_eq (pv 4) pe_str (nomark _)) (pss_one (ps_ret (pe_fn F_whole_steps hr (pa_cons (pe_ix ix_tup (pv 1) pe_int (fun _ _ => rfl)) (pa_cons (pv 2) pa_nil))))) pss_nil)
      (pss_cons (ps_if (pt_cmpR op_eq (pv 4) pe_str (nomark _)) (pss_one (ps_ret (pe_fn F_without_each hr (pa_cons (pv 2) pa_nil)))) pss_nil)
      (pss_cons (ps_if (pt_cmpR op_eq (pv 4) pe_str (nomark _)) (pss_one (ps_ret (pe_lc (g := gName 0) (src := [none]) (N' := (["things"] : List Str)) (.own .nil) rfl (pi_list (pe_fn F_with_each_step hr (pa_cons (pe_bt b_list call_list_of (pa_cons (pv 2) pa_nil)) (pa_cons (pv 3) pa_nil)))) (fun cl C s₀ H₀ fp pn => (pg_name (i := 0) (show List.Nodup (["things"] : List Str) by decide +kernel) rfl (Or.inl rfl) (Or.inr rfl))) (fun cl C s₀ H₀ fp pn => pts_nil) (fun cl C s₀ H₀ fp pn => (pe_bt b_tuple (call_tuple_ofK (K := g.K)) (pa_cons (pv 0) pa_nil))) (by intro x hx; simp at hx)))) pss_nil)
      (pss_cons ps_never
      (pss_cons ps_never
      (pss_cons ps_never
      (pss_cons ps_never
      (pss_one ps_never))))))))), ?_⟩
  walk_at "rd"
  cases hx with
  | @whole a lo hi ha =>
    cases hv <;> try exact (show False from hpl).elim
    rename_i i
    have hfi : lo ≤ i := by simp [form] at hf; exact hf.1
    obtain ⟨n, rfl⟩ : ∃ n : Nat, i = lo + n := ⟨(i - lo).toNat, by omega⟩
    have hn : (n : Int) < 2 ^ 100 := by have : lo + (n : Int) - lo < 2 ^ 100 := hpl; omega
    refine ⟨a, rfl, _, ha, _, atI30 _ _ _, rfl, iteY rfl ⟨a, rfl, _, ha, _, atI31 _ _ _, lo, n, rfl, by omega, fun p H' s' hp h' => q p _ H' s' hp h' ?_⟩⟩
    show V0s H' _ ((halves lo (lo + (n : Int) - lo).toNat).reverse.map PyData.int)
    rw [show (lo + (n : Int) - lo).toNat = n by omega]
    exact v0_map V.int PyData.int _ fun x _ => .int x
  | @text a sg ha hsl =>
    cases hv <;> try exact (show False from hpl).elim
    rename_i l hok hll
    refine ⟨a, rfl, _, ha, _, atI20 _ _, rfl, iteN (by decide +kernel) ⟨rfl, iteY rfl ⟨l, rfl, hll, fun D H' s' hD h' => q D _ H' s' hD h' ?_⟩⟩⟩
    have hpl' : ∀ c ∈ l, c < 1000 := fun c hc => hpl c (by rw [S_list]; exact hc)
    show V0s H' _ ((outs (S l).cps.toList).map fun z => PyData.str (S z))
    rw [S_list]
    exact v0_map (fun z => V.str (S z)) (fun z => PyData.str (S z)) _ fun z hz => .str _ (outs_ok hpl' z hz)
  | @row a b vs ps ha hb hps hvl =>
    cases hv <;> try exact (show False from hpl).elim
    rename_i c us ds hc hcl hds
    have hnd : ∀ d ∈ ds, Nb d := by cases hnb with | tup _ h => exact h
    have hv0 : V0s H us ds := vds_v0 hds fun d hd v hv => (hnd d hd).vl v hv
    have hpl' : ds.length ≤ 100 := hpl
    have hus := hv0.1
    have hlen' : (chg ds 0 Ls).length ≤ 1000 := by
      have : ((chg ds 0 Ls).map PyData.tuple).length ≤ 1000 := hlen
      rwa [List.length_map] at this
    refine ⟨a, rfl, _, ha, _, atI20 _ _, rfl, iteN (by decide +kernel) ⟨rfl, iteN (by decide +kernel) ⟨rfl, iteY rfl ?_⟩⟩⟩
    refine tLC_relG (fun b cs H1 => Same H H1 ∧ Rows H1 cs (chg ds 0 Ls)) (fun R r => ?_) ?_
    · walk_at "rd"
      refine ⟨us, .inr (SqT.of hc), fun l hl => ?_⟩
      have s1 := Same.upd_new hl (.lst us)
      obtain ⟨qs, h1, h2, h3⟩ := hin
      exact ⟨l, q', us, ds, Ls, rfl, upd_same, hv0.keep s1.tps, by omega, ⟨qs, s1 _ _ h1, h2, fun j a L g1 g2 => by obtain ⟨ys, f1, f2, f3⟩ := h3 j a L g1 g2; exact ⟨ys, s1 _ _ f1, f2.keep s1.tps, f3⟩⟩, hlen', fun D cs H' s' hD hd hrw => r D cs H' (SqL.of hd) ⟨s1.trans s', hrw⟩⟩
    · rintro b' cs H1 hS ⟨s1, hrw⟩
      have hcs := hrw.1
      refine ⟨by omega, fun D j y H2 => ∃ p us2 r, y = .ref p ∧ H2 p = some (.tup us2) ∧ us2.length ≤ 1000 ∧ (chg ds 0 Ls)[j]? = some r ∧ V0s H2 us2 r, ?_, ?_, ?_, ?_⟩
      · rintro D j y H2 H3 ⟨p, us2, r, rfl, g1, g2, g3, g4⟩ s3
        exact ⟨p, us2, r, rfl, s3 _ _ g1, g2, g3, g4.keep s3.tps⟩
      · rintro D j y H2 zs zs' ⟨p, us2, r, rfl, g1, g2, g3, g4⟩ hz
        exact ⟨p, us2, r, rfl, Tps.upd_lst hz _ _ g1, g2, g3, g4.keep (Tps.upd_lst hz)⟩
      · rintro D j x H2 zs hx s2 hD R r
        have hj := (List.getElem?_eq_some_iff.mp hx).1
        have hr : (chg ds 0 Ls)[j]? = some ((chg ds 0 Ls)[j]'(by omega)) := List.getElem?_eq_getElem _
        obtain ⟨p, us2, rfl, g1, g2, g3⟩ := hrw.2 j x _ hx hr
        walk_at "rd"
        exact ⟨us2, .inl ⟨SqL.of (s2 _ _ g1), fun l hl => r _ _ (.upd_new hl _) ⟨l, us2, _, rfl, upd_same, g3, hr, g2.keep (s2.trans (.upd_new hl _)).tps⟩⟩⟩
      · rintro D ys H2 hD s2 hd hyl hrel
        refine q D ys H2 (s1.trans s2) (s1.free hD) hd ⟨by show ys.length = ((chg ds 0 Ls).map PyData.tuple).length; rw [List.length_map]; omega, fun j u e g1 g2 => ?_⟩
        obtain ⟨p, us2, r, rfl, f1, f2, f3, f4⟩ := hrel j u g1
        have g2' : ((chg ds 0 Ls).map PyData.tuple)[j]? = some e := g2
        rw [List.getElem?_map, f3] at g2'
        have : PyData.tuple r = e := Option.some.inj g2'
        subst this
        exact .tup f1 (by omega) f4.vls
  | many h h2 => cases d <;> exact (show False from hpl).elim
  | pick h h2 h3 h4 h5 => cases d <;> exact (show False from hpl).elim
  | use h => cases d <;> exact (show False from hpl).elim
end KW
set_option maxHeartbeats 8000000
namespace KW
open PySem L2

variable {g : Gx}
variable {bk : Bk}
variable {m : Nat}
variable {bk : Bk} {shs : List Sh} {ds : List PyData}
variable {bk : Bk} {shs : List Sh} {ds : List PyData} {sg tl : List Nat}
local macro_rules | `(tactic| walk_at "gn") => `(tactic| simp only [gName, List.set_cons_zero, List.set_cons_succ])

local macro_rules | `(tactic| walk_at "rd") => `(tactic| simp (config := { failIfUnchanged := false, maxSteps := 10000000 }) only [L2.start, cxOf_K, nox_K, List.map_cons, List.map_nil, List.length_cons, List.length_nil, List.cons_append, List.nil_append, List.replicate_succ, List.replicate_zero, Nat.zero_add, Nat.reduceAdd, Nat.reduceSub, Nat.sub_self, tSeq, tIfS, tTest, tOp, tC, tVar, rI0, rI, rU, tUn, tRet, tRetN, tDrop, tNext, tBreak, tCont, tAsg, gName, gNil, gCons, tCons, tNil, tCB, tCall, tTry, tTryAs, tRaise, sFld, tFld, tMake, tMeth, Ends.gone, caught_K, tB, tAnd, tOr, tNot, tAndV, tOrV, tNotV, tIf, tChain, tNoPart, tPart, tSl, tNever, tAug, rIxL, rIxT, rSlL, tLst, tTup, gTup, tRev, tLZ, tConT, tDict0, tDNewT, tDGet, sDPut, rNotInD, rInD, tEither, tSlStep, rBits, rFind, rIn, tBM, tBM0, rAppend, rReverse, rEq, rNe, scal_ii, scal_ss, rCat, rSetL, gSub, ipI, capSt, List.getD_cons_zero, List.getD_cons_succ, decide_true, not_true_eq_false, not_false_eq_true,
  exists_eq_left', exists_eq_left, exists_eq', exists_eq, exists_and_left, and_assoc, Option.some.injEq, V.int.injEq, V.bl.injEq, V.ref.injEq, V.str.injEq, List.getElem?_cons_zero, List.getElem?_cons_succ, List.set_cons_zero, List.set_cons_succ, List.cons.injEq, and_true, true_and, List.append_nil, decide_eq_true_eq, Bool.not_eq_true', decide_eq_false_iff_not, Bool.not_not, Bool.not_true, Bool.not_false, Bool.true_eq_false, Bool.false_eq_true, if_true, if_false, ite_true, ite_false])

theorem Okl.pln {bk : Bk} {m : Nat} {sh : Sh} {d : PyData} (h : Okl bk (m + 1) sh d) : Fnd bk sh := by
  obtain ⟨_, h, _⟩ := h
  cases sh <;> first | trivial | (cases d <;> exact (show False from h).elim)
theorem Okl.len {bk : Bk} {m : Nat} {sh : Sh} {d : PyData} (h : Okl bk m sh d) : (stp bk m sh d).length ≤ 1000 := by
  cases m with
  | zero => exact (show False from h).elim
  | succ m => exact h.2.2.2.1
theorem within_le {bk : Bk} {sh : Sh} {d : PyData} (h : Pln sh d) : (within bk sh d).length ≤ 100 := by
  cases sh <;> cases d <;> first | exact (show False from h).elim | (simp [within]; done) | skip
  have h' : _ ≤ 100 := h
  simp only [within, List.length_zip]
  omega
def sp_steps_from (K : PySem.W.Frag) (C : Addr) (m : Nat) : Sp := fun vs H Q _ => ∃ (p dx l : Addr) (b x v : V) (bk : Bk) (sh : Sh) (d : PyData), vs = [.ref p, x, v] ∧ H p = some (.ins C dx (stf b l)) ∧ BkAt K H b bk ∧ ShAt K H x sh ∧ Vd H v d ∧ Okl bk m sh d ∧
  ∀ D ys H', Same H H' → H D = none → H' D = some (.lst ys) → V0s H' ys (stp bk m sh d) → Q (.ref D) H'
theorem no_steps_from {K : PySem.W.Frag} {C : Addr} {vs : List V} {H : Hp} {Q : VK} {E : XK} (h : sp_steps_from K C 0 vs H Q E) : False := by
  obtain ⟨p, dx, l, b, x, v, bk, sh, d, _, _, _, _, _, h, _⟩ := h
  exact h
theorem ok_Stepper_steps_from {k : Nat} {C_Lister : Addr} {C_Stepper : Addr} (R : g.RawM C_Stepper "steps_from" "Stepper.steps_from" s_Stepper_steps_from ["self", "shape", "value"]) (F_things_within : g.Fn k "things_within" ["book", "shape", "value"] (sp_things_within g.K)) (F_Stepper_steps_from : g.Me k C_Stepper "steps_from" ["self", "shape", "value"] (sp_steps_from g.K C_Stepper m)) (F_Stepper_steps_by : g.Me k C_Stepper "steps_by" ["self", "shape", "value", "inner"] (sp_steps_by g.K)) (cl_Stepper : Cls g.K C_Stepper) (n_Stepper_book : NoAttr g.K C_Stepper "book") (n_Stepper_lister : NoAttr g.K C_Stepper "lister") : g.Me (k + 1) C_Stepper "steps_from" ["self", "shape", "value"] (sp_steps_from g.K C_Stepper (m + 1)) := by
  refine R.me sc_Stepper_steps_from (fun vs H Q E h => by obtain ⟨p, dx, l, b, x, v, bk, sh, d, rfl, hp, hbk, hx, hv, hok, q⟩ := h; rfl) fun f_ cdv A outer s H vs Q E hr h => ?_
  obtain ⟨p, dx, l, b, x, v, bk, sh, d, rfl, hp, hbk, hx, hv, hok, q⟩ := h
  refine ⟨_, (pss_cons (ps_set (i := 3) sc_Stepper_steps_from.nd rfl (Or.inl rfl) (pe_lst pa_nil))
      (pss_cons (ps_for PassesOwn.never rfl (pi_list (pe_fn F_things_within hr (pa_cons (pe_fld (pv 0) rfl) (pa_cons (pv 1) (pa_cons (pv 2) pa_nil))))) (pg_tup (n := 2) rfl (pgs_cons (pg_name (i := 4) sc_Stepper_steps_from.nd rfl (Or.inl rfl)) (pgs_cons (pg_name (i := 5) sc_Stepper_steps_from.nd rfl (Or.inl rfl)) pgs_nil))) (pss_one (ps_expr (pe_bm PySem.F.plainAttrs_list PySem.F.slot_list_append PySem.F.type_list_append mt_append (pv 3) (pa_cons (pe_me F_Stepper_steps_from cl_Stepper hr (pv 0) (pa_cons (pv 4) (pa_cons (pv 5) pa_nil))) pa_nil)))))
      (pss_one (ps_ret (pe_me F_Stepper_steps_by cl_Stepper hr (pv 0) (pa_cons (pv 1) (pa_cons (pv 2) (pa_cons (pv 3) pa_nil)))))))), ?_⟩
  have hfn := hok.pln
  obtain ⟨hf, hpl, hnb, hlen, hrest⟩ := hok
  have hwl := within_le (bk := bk) hpl
  walk_at "rd"
  refine ⟨few (by decide), fun I hI => ?_⟩
  have s1 := Same.upd_new hI (.lst [])
  refine tFor_listG (fun l' xs H2 => ∃ as, xs = as.map V.ref ∧ l' ≠ I ∧ Same (upd H I (.lst [])) H2 ∧ H2 l' = some (.lst (as.map V.ref)) ∧ Pairs g.K H H2 as (within bk sh d)) (fun R r => ?_) ?_
  · walk_at "rd"
    exact ⟨_, _, _, s1 _ _ hp, cl_Stepper, n_Stepper_book, _, stf_book _ _, bk, b, x, v, sh, d, H, rfl, s1, hbk, hfn, hx, hv, hf, fun l' as H' s' hl0 hl hpr => r l' _ H' (SqL.of hl) ⟨as, rfl, fun e => by (rw [e, upd_same] at hl0; cases hl0), s', hl, hpr⟩⟩
  · rintro l' xs H2 hS ⟨as, rfl, hlI, s2, hl, hpr⟩
    refine ⟨fun i σ H' => ∃ (o4 o5 : Option V) (qs : List Addr), σ = [some (.ref p), some x, some v, some (.ref I), o4, o5] ∧ Same H H' ∧ H' l' = some (.lst (as.map V.ref)) ∧ Pairs g.K H H' as (within bk sh d) ∧ H' I = some (.lst (qs.map V.ref)) ∧ qs.length = i ∧ (∀ a ∈ qs, a ≠ I) ∧ ∀ (j : Nat) a w, qs[j]? = some a → (within bk sh d)[j]? = some w → ∃ ys, H' a = some (.lst ys) ∧ V0s H' ys (stp bk m w.1 w.2) ∧ ys.length ≤ 1000, ?_, ?_, ?_, ?_⟩
    · exact ⟨none, none, [], rfl, s1.trans s2, hl, hpr, s2 _ _ upd_same, rfl, fun a ha => absurd ha (by simp), fun j a w h => by simp at h⟩
    · rintro i σ H' hi ⟨o4, o5, qs, rfl, e1, e2, _⟩
      exact SqL.of e2
    · rintro i y σ H' hy ⟨o4, o5, qs, rfl, e1, e2, e3, e4, e5, e6, e7⟩
      have hi : i < as.length := by simpa using (List.getElem?_eq_some_iff.mp hy).1
      have ha : as[i]? = some as[i] := List.getElem?_eq_getElem hi
      rw [List.getElem?_map, ha] at hy
      have : V.ref as[i] = y := Option.some.inj hy
      subst this
      have hw : (within bk sh d)[i]? = some ((within bk sh d)[i]'(by rw [← e3.1]; exact hi)) := List.getElem?_eq_getElem _
      generalize (within bk sh d)[i]'(by rw [← e3.1]; exact hi) = w at hw
      have hwm := List.mem_of_getElem? hw
      obtain ⟨y', z, ht, hsy, hvz⟩ := e3.2 i _ w ha hw
      walk_at "rd"
      refine ⟨_, SqT.of ht, rfl, _, _, rfl, _, _, rfl, rfl, .inl ⟨rfl, _, SqL.of e4⟩, _, _, e1 _ _ hp, stf_no _ _ (by decide +kernel) (by decide +kernel), p, dx, l, b, y', z, bk, w.1, w.2, rfl, e1 _ _ hp, hbk.keep e1, hsy.keep e1, hvz.keep e1, hrest w hwm, fun D ys H4 s4 hD hd hv0 => ?_⟩
      have hDI : D ≠ I := Ne.symm (ne_of_none e4 hD)
      have s14 := e1.trans s4
      have tps : Tps H4 (upd H4 I (.lst (qs.map V.ref ++ [.ref D]))) := Tps.upd_lst (s4 _ _ e4)
      have e31 := e3.1
      have hyl := hv0.1
      have hol := (hrest w hwm).len
      refine ⟨_, s4 _ _ e4, by rw [List.length_map]; exact few (by omega), .upd_over hI s14 _, ?_, ⟨e3.1, fun j a w' h1 h2 => ?_⟩, qs ++ [D], by rw [upd_same, List.map_append]; rfl, by rw [List.length_append, e5]; rfl, fun a ha => ?_, fun j a w' h1 h2 => ?_⟩
      · rw [upd_ne hlI]; exact s4 _ _ e2
      · obtain ⟨y, z, g1, g2, g3⟩ := e3.2 j a w' h1 h2
        exact ⟨y, z, tps _ _ (s4 _ _ g1), g2, g3⟩
      · rcases List.mem_append.mp ha with h | h
        · exact e6 a h
        · rw [List.mem_singleton.mp h]; exact hDI
      · by_cases c : j < qs.length
        · rw [List.getElem?_append_left c] at h1
          obtain ⟨ys', f1, f2, f3⟩ := e7 j a w' h1 h2
          exact ⟨ys', by rw [upd_ne (e6 a (List.mem_of_getElem? h1))]; exact s4 _ _ f1, (f2.keep s4.tps).keep tps, f3⟩
        · rw [List.getElem?_append_right (by omega)] at h1
          have hj : j = i := by
            have := (List.getElem?_eq_some_iff.mp h1).1
            rw [List.length_singleton] at this
            omega
          subst hj
          rw [e5, Nat.sub_self] at h1
          have ea : D = a := by simpa using h1
          rw [hw] at h2
          have ew : w = w' := Option.some.inj h2
          subst ea ew
          exact ⟨ys, by rw [upd_ne hDI]; exact hd, hv0.keep tps, by omega⟩
    · rintro σ H' ⟨o4, o5, qs, rfl, e1, e2, e3, e4, e5, e6, e7⟩
      walk_at "rd"
      refine ⟨_, _, e1 _ _ hp, stf_no _ _ (by decide +kernel) (by decide +kernel), .ref p, x, v, sh, d, I, (within bk sh d).map (fun (w : Sh × PyData) => stp bk m w.1 w.2), rfl, hx.keep e1, hv.keep e1, hnb, hf, hpl, ⟨qs, e4, by rw [e5, List.length_map, List.length_map]; exact e3.1, fun j a L h1 h2 => ?_⟩, hlen, fun D ys H4 s4 hD hd hv0 => q D ys H4 (e1.trans s4) (e1.free hD) hd hv0⟩
      rw [List.getElem?_map] at h2
      obtain ⟨w, hw, rfl⟩ := Option.map_eq_some_iff.mp h2
      exact e7 j a w h1 hw
end KW
set_option maxHeartbeats 8000000
namespace KW
open PySem L2

variable {g : Gx}
variable {bk : Bk}
variable {m : Nat}
variable {bk : Bk} {shs : List Sh} {ds : List PyData}
variable {bk : Bk} {shs : List Sh} {ds : List PyData} {sg tl : List Nat}
local macro_rules | `(tactic| walk_at "gn") => `(tactic| simp only [gName, List.set_cons_zero, List.set_cons_succ])

local macro_rules | `(tactic| walk_at "rd") => `(tactic| simp (config := { failIfUnchanged := false, maxSteps := 10000000 }) only [L2.start, cxOf_K, nox_K, List.map_cons, List.map_nil, List.length_cons, List.length_nil, List.cons_append, List.nil_append, List.replicate_succ, List.replicate_zero, Nat.zero_add, Nat.reduceAdd, Nat.reduceSub, Nat.sub_self, tSeq, tIfS, tTest, tOp, tC, tVar, rI0, rI, rU, tUn, tRet, tRetN, tDrop, tNext, tBreak, tCont, tAsg, gName, gNil, gCons, tCons, tNil, tCB, tCall, tTry, tTryAs, tRaise, sFld, tFld, tMake, tMeth, Ends.gone, caught_K, tB, tAnd, tOr, tNot, tAndV, tOrV, tNotV, tIf, tChain, tNoPart, tPart, tSl, tNever, tAug, rIxL, rIxT, rSlL, tLst, tTup, gTup, tRev, tLZ, tConT, tDict0, tDNewT, tDGet, sDPut, rNotInD, rInD, tEither, tSlStep, rBits, rFind, rIn, tBM, tBM0, rAppend, rReverse, rEq, rNe, scal_ii, scal_ss, rCat, rSetL, gSub, ipI, capSt, List.getD_cons_zero, List.getD_cons_succ, decide_true, not_true_eq_false, not_false_eq_true,
  exists_eq_left', exists_eq_left, exists_eq', exists_eq, exists_and_left, and_assoc, Option.some.injEq, V.int.injEq, V.bl.injEq, V.ref.injEq, V.str.injEq, List.getElem?_cons_zero, List.getElem?_cons_succ, List.set_cons_zero, List.set_cons_succ, List.cons.injEq, and_true, true_and, List.append_nil, decide_eq_true_eq, Bool.not_eq_true', decide_eq_false_iff_not, Bool.not_not, Bool.not_true, Bool.not_false, Bool.true_eq_false, Bool.false_eq_true, if_true, if_false, ite_true, ite_false])

def sp_steps_of (K : PySem.W.Frag) : Sp := fun vs H Q _ => ∃ (b x v : V) (bk : Bk) (sh : Sh) (d : PyData) (n : Nat), vs = [b, x, v] ∧ BkAt K H b bk ∧ ShAt K H x sh ∧ Enf bk LV sh d ∧ Vd H v d ∧ jd bk LV sh d = some n ∧ Okl bk 4 sh d ∧ (PyData.list (stp bk 4 sh d)).depth < 8 ∧
  ∀ v' L H', Same H H' → VL H' v' (.list (stp bk 4 sh d)) L → Q v' H'
theorem ok_steps_of {k : Nat} {C_Lister : Addr} {C_Stepper : Addr} (R : g.Raw "steps_of" "steps_of" s_steps_of ["book", "shape", "value"]) (F_copied : g.Fn k "copied" ["thing"] (sp_copied 8)) (F_refuse_no_value : g.Fn k "refuse_no_value" ["book", "shape", "value"] (sp_refuse_no_value g.K)) {j_Stepper___init__ : Nat} (F_Stepper___init__ : g.Ma j_Stepper___init__ "Stepper" C_Stepper ["self", "book"] (sp_Stepper___init__ g.K C_Stepper)) (h_Stepper___init__ : j_Stepper___init__ + 1 ≤ k) (F_Stepper_steps_from : g.Me k C_Stepper "steps_from" ["self", "shape", "value"] (sp_steps_from g.K C_Stepper 4)) (cl_Stepper : Cls g.K C_Stepper) (n_Stepper_book : NoAttr g.K C_Stepper "book") (n_Stepper_lister : NoAttr g.K C_Stepper "lister") : g.Fn (k + 1) "steps_of" ["book", "shape", "value"] (sp_steps_of g.K) := by
  refine R.fn sc_steps_of (fun vs H Q E h => by obtain ⟨b, x, v, bk, sh, d, n, rfl, hbk, hx, hen, hv, hn, hok, hdp, q⟩ := h; rfl) fun f_ cdv A outer s H vs Q E hr h => ?_
  obtain ⟨b, x, v, bk, sh, d, n, rfl, hbk, hx, hen, hv, hn, hok, hdp, q⟩ := h
  refine ⟨_, (pss_cons (ps_expr (pe_fn F_refuse_no_value hr (pa_cons (pv 0) (pa_cons (pv 1) (pa_cons (pv 2) pa_nil)))))
      (pss_one (ps_ret (pe_fn F_copied hr (pa_cons (pe_me F_Stepper_steps_from cl_Stepper hr (pe_ma F_Stepper___init__ hr (pa_cons (pv 0) pa_nil)) (pa_cons (pv 1) (pa_cons (pv 2) pa_nil))) pa_nil))))), ?_⟩
  walk_at "rd"
  refine ⟨bk, b, x, v, sh, d, n, rfl, hbk, hx, hen, hv, hn, fun H1 s1 => ?_⟩
  walk_at "rd"
  intro y dx hy hdy hne
  have s12 : ∀ {H2 : Hp}, SameBut y (upd (upd H1 dx (.own y)) y (.ins C_Stepper dx [])) H2 → Same H1 H2 := fun s2 z o h => by
    have n1 : z ≠ y := ne_of_none h hy
    have n2 : z ≠ dx := ne_of_none h hdy
    exact s2 _ _ n1 (by rw [upd_ne n1, upd_ne n2]; exact h)
  refine ⟨y, dx, b, rfl, upd_same, fun l H2 s2 h2 => ?_⟩
  have s02 := s1.trans (s12 s2)
  refine ⟨rfl, _, _, h2, stf_no _ _ (by decide +kernel) (by decide +kernel), y, dx, l, b, x, v, bk, sh, d, rfl, h2, hbk.keep s02, hx.keep s02, hv.keep s02, hok, fun D ys H3 s3 hD hd hv0 => ?_⟩
  have hlen := hok.len
  have hyl := hv0.1
  exact ⟨_, _, _, rfl, .lst hd (by omega) hv0.vls, hdp, fun v' H4 L' s4 ho => q v' L' H4 ((s02.trans s3).trans s4) ho.vl⟩
end KW
set_option maxHeartbeats 8000000
namespace KW
open PySem L2

variable {g : Gx}
variable {bk : Bk}
variable {m : Nat}
variable {bk : Bk} {shs : List Sh} {ds : List PyData}
variable {bk : Bk} {shs : List Sh} {ds : List PyData} {sg tl : List Nat}
local macro_rules | `(tactic| walk_at "gn") => `(tactic| simp only [gName, List.set_cons_zero, List.set_cons_succ])

local macro_rules | `(tactic| walk_at "rd") => `(tactic| simp (config := { failIfUnchanged := false, maxSteps := 10000000 }) only [L2.start, cxOf_K, nox_K, List.map_cons, List.map_nil, List.length_cons, List.length_nil, List.cons_append, List.nil_append, List.replicate_succ, List.replicate_zero, Nat.zero_add, Nat.reduceAdd, Nat.reduceSub, Nat.sub_self, tSeq, tIfS, tTest, tOp, tC, tVar, rI0, rI, rU, tUn, tRet, tRetN, tDrop, tNext, tBreak, tCont, tAsg, gName, gNil, gCons, tCons, tNil, tCB, tCall, tTry, tTryAs, tRaise, sFld, tFld, tMake, tMeth, Ends.gone, caught_K, tB, tAnd, tOr, tNot, tAndV, tOrV, tNotV, tIf, tChain, tNoPart, tPart, tSl, tNever, tAug, rIxL, rIxT, rSlL, tLst, tTup, gTup, tRev, tLZ, tConT, tDict0, tDNewT, tDGet, sDPut, rNotInD, rInD, tEither, tSlStep, rBits, rFind, rIn, tBM, tBM0, rAppend, rReverse, rEq, rNe, scal_ii, scal_ss, rCat, rSetL, gSub, ipI, capSt, List.getD_cons_zero, List.getD_cons_succ, decide_true, not_true_eq_false, not_false_eq_true,
  exists_eq_left', exists_eq_left, exists_eq', exists_eq, exists_and_left, and_assoc, Option.some.injEq, V.int.injEq, V.bl.injEq, V.ref.injEq, V.str.injEq, List.getElem?_cons_zero, List.getElem?_cons_succ, List.set_cons_zero, List.set_cons_succ, List.cons.injEq, and_true, true_and, List.append_nil, decide_eq_true_eq, Bool.not_eq_true', decide_eq_false_iff_not, Bool.not_not, Bool.not_true, Bool.not_false, Bool.true_eq_false, Bool.false_eq_true, if_true, if_false, ite_true, ite_false])

def Flat : Sh → PyData → Prop
  | .whole lo hi, .int v => lo ≤ v ∧ v ≤ hi ∧ v - lo < 2 ^ 100
  | .text sg, .str x => ∃ l : List Nat, x = S l ∧ l.length ≤ 100 ∧ (∀ z ∈ l, z ∈ sg) ∧ ∀ z ∈ l, z < 1000
  | _, _ => False
theorem Flat.within {bk : Bk} {sh : Sh} {d : PyData} (h : Flat sh d) : within bk sh d = [] := by
  cases sh <;> cases d <;> first | rfl | exact (show False from h).elim
theorem Flat.form {sh : Sh} {d : PyData} (h : Flat sh d) : form sh d = true := by
  cases sh <;> cases d <;> first | exact (show False from h).elim | skip
  · obtain ⟨h1, h2, _⟩ := h
    simp [KW.form, h1, h2]
  · obtain ⟨l, rfl, _, hz, _⟩ := h
    show (S l).cps.toList.all (fun c => decide (c ∈ _)) = true
    rw [S_list, List.all_eq_true]
    intro z hz'
    exact decide_eq_true (hz z hz')
theorem Flat.pln {sh : Sh} {d : PyData} (h : Flat sh d) : Pln sh d := by
  cases sh <;> cases d <;> first | exact (show False from h).elim | skip
  · exact h.2.2
  · obtain ⟨l, rfl, _, _, hz⟩ := h
    show ∀ c ∈ (S l).cps.toList, c < 1000
    rw [S_list]; exact hz
theorem Flat.nb {sh : Sh} {d : PyData} (h : Flat sh d) : Nb d := by
  cases sh <;> cases d <;> first | exact (show False from h).elim | exact .int _ | exact .str _
theorem Flat.len {sh : Sh} {d : PyData} (h : Flat sh d) (Ls : List (List PyData)) : (stpBy sh d Ls).length ≤ 100 := by
  cases sh <;> cases d <;> first | exact (show False from h).elim | skip
  · rename_i lo hi v
    show ((halves lo (v - lo).toNat).reverse.map PyData.int).length ≤ 100
    rw [List.length_map, List.length_reverse]
    refine halves_len lo 100 ?_
    have := h.2.2
    omega
  · obtain ⟨l, rfl, hl, _⟩ := h
    show ((outs (S l).cps.toList).map _).length ≤ 100
    rw [List.length_map, S_list, outs, List.length_map, List.length_range]; exact hl
theorem Flat.flat {sh : Sh} {d : PyData} (h : Flat sh d) (Ls : List (List PyData)) : ∀ e ∈ stpBy sh d Ls, (∃ i, e = .int i) ∨ ∃ x, e = .str x := by
  cases sh <;> cases d <;> first | exact (show False from h).elim | skip
  · intro e he
    obtain ⟨i, _, rfl⟩ := List.mem_map.mp he
    exact .inl ⟨i, rfl⟩
  · intro e he
    obtain ⟨i, _, rfl⟩ := List.mem_map.mp he
    exact .inr ⟨_, rfl⟩
theorem depthAll_le {k : Nat} : ∀ {ds : List PyData}, (∀ d ∈ ds, d.depth ≤ k) → PyData.depthAll ds ≤ k
  | [], _ => by simp [PyData.depthAll]
  | d :: ds, h => by
    simp only [PyData.depthAll]
    have h1 := h d (.head _)
    have h2 := depthAll_le (ds := ds) fun e he => h e (.tail _ he)
    omega
theorem flat_depth {e : PyData} (h : (∃ i, e = .int i) ∨ ∃ x, e = .str x) : e.depth ≤ 1 := by
  rcases h with ⟨i, rfl⟩ | ⟨x, rfl⟩ <;> simp [PyData.depth]
theorem Flat.okl {bk : Bk} {sh : Sh} {d : PyData} (h : Flat sh d) (m : Nat) : Okl bk (m + 1) sh d := by
  refine ⟨h.form, h.pln, h.nb, Nat.le_trans (h.len _) (by decide), fun w hw => ?_⟩
  rw [h.within] at hw; cases hw
theorem Flat.stp {bk : Bk} {sh : Sh} {d : PyData} (h : Flat sh d) (m : Nat) : stp bk (m + 1) sh d = stpBy sh d [] := by
  rw [KW.stp, h.within]; rfl
theorem Flat.fnd {bk : Bk} {sh : Sh} {d : PyData} (h : Flat sh d) : Fnd bk sh := (h.okl (bk := bk) 0).pln
theorem Flat.enf {bk : Bk} {sh : Sh} {d : PyData} (h : Flat sh d) (m : Nat) : Enf bk (m + 1) sh d := fun _ => ⟨h.fnd, fun w hw => by rw [h.within] at hw; cases hw⟩
theorem Flat.jd {bk : Bk} {sh : Sh} {d : PyData} (h : Flat sh d) (m : Nat) : ∃ n, jd bk (m + 1) sh d = some n := by
  rw [KW.jd, if_pos h.form, h.within]
  exact ⟨_, rfl⟩
theorem text_flat {sg l : List Nat} (hl : l.length ≤ 100) (hz : ∀ z ∈ l, z ∈ sg) (hs : ∀ z ∈ sg, z < 1000) : Flat (.text sg) (.str (S l)) := ⟨l, rfl, hl, hz, fun z h => hs z (hz z h)⟩
end KW
set_option maxHeartbeats 8000000
namespace KW
open PySem L2

variable {g : Gx}
variable {bk : Bk}
variable {m : Nat}
variable {bk : Bk} {shs : List Sh} {ds : List PyData}
variable {bk : Bk} {shs : List Sh} {ds : List PyData} {sg tl : List Nat}
local macro_rules | `(tactic| walk_at "gn") => `(tactic| simp only [gName, List.set_cons_zero, List.set_cons_succ])

local macro_rules | `(tactic| walk_at "rd") => `(tactic| simp (config := { failIfUnchanged := false, maxSteps := 10000000 }) only [L2.start, cxOf_K, nox_K, List.map_cons, List.map_nil, List.length_cons, List.length_nil, List.cons_append, List.nil_append, List.replicate_succ, List.replicate_zero, Nat.zero_add, Nat.reduceAdd, Nat.reduceSub, Nat.sub_self, tSeq, tIfS, tTest, tOp, tC, tVar, rI0, rI, rU, tUn, tRet, tRetN, tDrop, tNext, tBreak, tCont, tAsg, gName, gNil, gCons, tCons, tNil, tCB, tCall, tTry, tTryAs, tRaise, sFld, tFld, tMake, tMeth, Ends.gone, caught_K, tB, tAnd, tOr, tNot, tAndV, tOrV, tNotV, tIf, tChain, tNoPart, tPart, tSl, tNever, tAug, rIxL, rIxT, rSlL, tLst, tTup, gTup, tRev, tLZ, tConT, tDict0, tDNewT, tDGet, sDPut, rNotInD, rInD, tEither, tSlStep, rBits, rFind, rIn, tBM, tBM0, rAppend, rReverse, rEq, rNe, scal_ii, scal_ss, rCat, rSetL, gSub, ipI, capSt, List.getD_cons_zero, List.getD_cons_succ, decide_true, not_true_eq_false, not_false_eq_true,
  exists_eq_left', exists_eq_left, exists_eq', exists_eq, exists_and_left, and_assoc, Option.some.injEq, V.int.injEq, V.bl.injEq, V.ref.injEq, V.str.injEq, List.getElem?_cons_zero, List.getElem?_cons_succ, List.set_cons_zero, List.set_cons_succ, List.cons.injEq, and_true, true_and, List.append_nil, decide_eq_true_eq, Bool.not_eq_true', decide_eq_false_iff_not, Bool.not_not, Bool.not_true, Bool.not_false, Bool.true_eq_false, Bool.false_eq_true, if_true, if_false, ite_true, ite_false])

theorem chg_len (ds : List PyData) {k : Nat} : ∀ (o : Nat) (Ls : List (List PyData)), (∀ L ∈ Ls, L.length ≤ k) → (chg ds o Ls).length ≤ k * Ls.length
  | _, [], _ => by simp [chg]
  | o, L :: Ls, h => by
    rw [chg, List.length_append, List.length_map, List.length_cons, Nat.mul_succ]
    have h1 := h L (.head _)
    have h2 := chg_len ds (o + 1) Ls fun M hM => h M (.tail _ hM)
    omega
section
variable {bk : Bk} {shs : List Sh} {ds : List PyData}
theorem row_form (hl : ds.length = shs.length) : form (.row shs) (.tuple ds) = true := by simp [form, hl]
theorem row_stp (hf : ∀ w ∈ shs.zip ds, Flat w.1 w.2) (m : Nat) : stp bk (m + 2) (.row shs) (.tuple ds) = (chg ds 0 ((shs.zip ds).map fun w => stpBy w.1 w.2 [])).map PyData.tuple := by
  show stpBy (.row shs) (.tuple ds) ((shs.zip ds).map fun w => stp bk (m + 1) w.1 w.2) = _
  rw [show ((shs.zip ds).map fun w => stp bk (m + 1) w.1 w.2) = (shs.zip ds).map fun w => stpBy w.1 w.2 [] from List.map_congr_left fun w hw => (hf w hw).stp m]
  rfl
theorem row_nb (hl : ds.length = shs.length) (hf : ∀ w ∈ shs.zip ds, Flat w.1 w.2) : Nb (.tuple ds) := .tup ds fun d hd => by
  obtain ⟨i, hi, e⟩ := List.getElem_of_mem hd
  have h1 : ds[i]? = some d := by rw [List.getElem?_eq_getElem hi, e]
  have h2 : shs[i]? = some (shs[i]'(by omega)) := List.getElem?_eq_getElem _
  have h3 : (shs.zip ds)[i]? = some (shs[i]'(by omega), d) := by rw [List.getElem?_zip_eq_some]; exact ⟨h2, h1⟩
  exact (hf _ (List.mem_of_getElem? h3)).nb
theorem row_okl (hl : ds.length = shs.length) (h8 : shs.length ≤ 8) (hf : ∀ w ∈ shs.zip ds, Flat w.1 w.2) (m : Nat) : Okl bk (m + 2) (.row shs) (.tuple ds) := by
  refine ⟨row_form hl, show ds.length ≤ 100 by omega, row_nb hl hf, ?_, fun w hw => (hf w hw).okl m⟩
  rw [row_stp hf, List.length_map]
  have := chg_len ds (k := 100) 0 ((shs.zip ds).map fun w => stpBy w.1 w.2 []) fun L hL => by
    obtain ⟨w, hw, rfl⟩ := List.mem_map.mp hL
    exact (hf w hw).len []
  rw [List.length_map, List.length_zip] at this
  omega
theorem row_enf (hf : ∀ w ∈ shs.zip ds, Flat w.1 w.2) (m : Nat) : Enf bk (m + 2) (.row shs) (.tuple ds) := fun _ => ⟨trivial, fun w hw => (hf w hw).enf m⟩
theorem mapM_some {α β : Type} {f : α → Option β} : ∀ {l : List α}, (∀ w ∈ l, ∃ n, f w = some n) → ∃ ns, l.mapM f = some ns
  | [], _ => ⟨[], rfl⟩
  | w :: l, h => by
    obtain ⟨n, hn⟩ := h w (.head _)
    obtain ⟨ns, hns⟩ := mapM_some (l := l) fun v hv => h v (.tail _ hv)
    exact ⟨n :: ns, by simp [hn, hns]⟩
theorem row_jd (hl : ds.length = shs.length) (hf : ∀ w ∈ shs.zip ds, Flat w.1 w.2) (m : Nat) : ∃ n, jd bk (m + 2) (.row shs) (.tuple ds) = some n := by
  rw [jd, if_pos (row_form hl)]
  obtain ⟨ns, hns⟩ := mapM_some (l := within bk (.row shs) (.tuple ds)) (f := fun w => jd bk (m + 1) w.1 w.2) fun w hw => (hf w hw).jd m
  rw [hns]
  exact ⟨_, rfl⟩
end
end KW
set_option maxHeartbeats 8000000
namespace KW
open PySem L2

variable {g : Gx}
variable {bk : Bk}
variable {m : Nat}
variable {bk : Bk} {shs : List Sh} {ds : List PyData}
variable {bk : Bk} {shs : List Sh} {ds : List PyData} {sg tl : List Nat}
local macro_rules | `(tactic| walk_at "gn") => `(tactic| simp only [gName, List.set_cons_zero, List.set_cons_succ])

local macro_rules | `(tactic| walk_at "rd") => `(tactic| simp (config := { failIfUnchanged := false, maxSteps := 10000000 }) only [L2.start, cxOf_K, nox_K, List.map_cons, List.map_nil, List.length_cons, List.length_nil, List.cons_append, List.nil_append, List.replicate_succ, List.replicate_zero, Nat.zero_add, Nat.reduceAdd, Nat.reduceSub, Nat.sub_self, tSeq, tIfS, tTest, tOp, tC, tVar, rI0, rI, rU, tUn, tRet, tRetN, tDrop, tNext, tBreak, tCont, tAsg, gName, gNil, gCons, tCons, tNil, tCB, tCall, tTry, tTryAs, tRaise, sFld, tFld, tMake, tMeth, Ends.gone, caught_K, tB, tAnd, tOr, tNot, tAndV, tOrV, tNotV, tIf, tChain, tNoPart, tPart, tSl, tNever, tAug, rIxL, rIxT, rSlL, tLst, tTup, gTup, tRev, tLZ, tConT, tDict0, tDNewT, tDGet, sDPut, rNotInD, rInD, tEither, tSlStep, rBits, rFind, rIn, tBM, tBM0, rAppend, rReverse, rEq, rNe, scal_ii, scal_ss, rCat, rSetL, gSub, ipI, capSt, List.getD_cons_zero, List.getD_cons_succ, decide_true, not_true_eq_false, not_false_eq_true,
  exists_eq_left', exists_eq_left, exists_eq', exists_eq, exists_and_left, and_assoc, Option.some.injEq, V.int.injEq, V.bl.injEq, V.ref.injEq, V.str.injEq, List.getElem?_cons_zero, List.getElem?_cons_succ, List.set_cons_zero, List.set_cons_succ, List.cons.injEq, and_true, true_and, List.append_nil, decide_eq_true_eq, Bool.not_eq_true', decide_eq_false_iff_not, Bool.not_not, Bool.not_true, Bool.not_false, Bool.true_eq_false, Bool.false_eq_true, if_true, if_false, ite_true, ite_false])

def LT : List Nat := [97, 98, 99, 100, 101, 102, 103, 104, 105, 106, 107, 108, 109, 110, 111, 112, 113, 114, 115, 116, 117, 118, 119, 120, 121, 122, 65, 66, 67, 68, 69, 70, 71, 72, 73, 74, 75, 76, 77, 78, 79, 80, 81, 82, 83, 84, 85, 86, 87, 88, 89, 90, 48, 49, 50, 51, 52, 53, 54, 55, 56, 57]
theorem lt_str : Str.ofString "abcdefghijklmnopqrstuvwxyzABCDEFGHIJKLMNOPQRSTUVWXYZ0123456789" = S LT := by decide +kernel
theorem lt_plain : ∀ c ∈ LT, c < 1000 ∧ c ≠ 45 := by decide +kernel
theorem lt_len : LT.length = 62 := by decide
theorem join_ones : ∀ cs : List Nat, joinL [] (cs.map fun c => [c]) = cs
  | [] => rfl
  | [x] => rfl
  | x :: y :: r => by
    have := join_ones (y :: r)
    show [x] ++ [] ++ joinL [] ((y :: r).map fun c => [c]) = _
    rw [this]; rfl
theorem join_signs (cs : List Nat) : Txt.join ("" : Str) (cs.map fun c => S [c]) = S cs := by
  have := join_S [] (cs.map fun c => [c])
  rw [List.map_map, join_ones] at this
  exact this
theorem signs_sum (cs : List Nat) (h : cs.length ≤ 1000) : ((cs.map fun c => S [c]).map (·.length)).sum + (cs.map fun c => S [c]).length * ("" : Str).length ≤ 16777216 := by
  rw [List.map_map, List.length_map]
  have : ((fun x : Str => x.length) ∘ fun c => S [c]) = fun _ => 1 := by funext c; simp [S_len]
  rw [this, List.map_const', List.sum_replicate_nat]
  have : ("" : Str).length = 0 := by decide +kernel
  rw [this]; omega
def sp_law_signs (K : PySem.W.Frag) : Sp := fun vs H Q _ => ∃ (c : Int) (n : Nat), vs = [.int c, .int n] ∧ n ≤ 62 ∧ ∀ (sg : List Nat) H', Same H H' → sg.length = n → (∀ z ∈ sg, z < 1000) → Q (.str (S sg)) H'
theorem ok_law_signs {C_Lister : Addr} {C_Stepper : Addr} (R : g.Raw "_law_signs" "_law_signs" s_law_signs ["_law_cell", "_law_many"]) (b_range : g.mg "range" = none) : g.Fn (1) "_law_signs" ["_law_cell", "_law_many"] (sp_law_signs g.K) := by
  refine R.fn sc_law_signs (fun vs H Q E h => by obtain ⟨c, n, rfl, hn, q⟩ := h; rfl) fun f_ cdv A outer s H vs Q E hr h => ?_
  obtain ⟨c, n, rfl, hn, q⟩ := h
  refine ⟨_, (pss_cons (ps_set (i := 2) sc_law_signs.nd rfl (Or.inr rfl) pe_str)
      (pss_one (ps_ret (pe_bm PySem.F.plainAttrs_str PySem.F.slot_str_join PySem.F.type_str_join mt_join pe_str (pa_cons (pe_lc (g := gName 0) (src := [none, some 2, some 0]) (N' := (["_law_k", "_law_some", "_law_cell"] : List Str)) (.own (.cap (i := 2) rfl rfl (by first | exact Or.inl rfl | exact Or.inr rfl) (.cap (i := 0) rfl rfl (by first | exact Or.inl rfl | exact Or.inr rfl) .nil))) rfl (pi_range1 rfl b_range (pa_cons (pv 1) pa_nil)) (fun cl C s₀ H₀ fp pn => (pg_name (i := 0) (show List.Nodup (["_law_k", "_law_some", "_law_cell"] : List Str) by decide +kernel) rfl (Or.inl rfl) (Or.inr rfl))) (fun cl C s₀ H₀ fp pn => pts_nil) (fun cl C s₀ H₀ fp pn => (pe_ix ix_str (pv 1) (pe_op op_mod (pe_op op_add (pv 2) (pe_op op_mulC pe_int (pv 0))) pe_int) (fun _ _ => rfl))) (by intro x hx; simp at hx; first | (subst hx; exact Or.inl rfl) | (rcases hx with rfl | rfl <;> exact Or.inl rfl) | (rcases hx with rfl | rfl | rfl <;> exact Or.inl rfl))) pa_nil))))), ?_⟩
  walk_at "rd"
  refine ⟨rfl, ?_⟩
  refine tLC_rangeI (n := n) (fun F i zs H' => Same H H' ∧ H' F = some (.lst zs) ∧ ∃ cs : List Nat, zs = cs.map (fun c => V.str (S [c])) ∧ cs.length = i ∧ ∀ z ∈ cs, z < 1000) (fun R r => by walk_at "rd"; exact r) (by omega) ?_ ?_ ?_ ?_
  · intro F hF
    exact ⟨.upd_new hF _, upd_same, [], rfl, rfl, fun z hz => absurd hz (by simp)⟩
  · rintro F i zs H' ⟨sm, hd, cs, rfl, he, _⟩
    exact ⟨by rw [List.length_map]; exact he, hd⟩
  · rintro F i zs H' hF hi ⟨sm, hd, cs, rfl, he, hc⟩ R r
    walk_at "rd"
    rw [lt_str]
    obtain ⟨x, hx1, hx2⟩ := mod_nat (c + 9 * (i : Int)) (j := 62) (by decide)
    have hx3 : LT[x]? = some (LT[x]'(by rw [lt_len]; omega)) := List.getElem?_eq_getElem _
    refine ⟨.inl (cm (m := 8) (n := 8) (by decide) (by rw [Int.natAbs_natCast]; omega)), by decide, _, _, LT[x]'(by rw [lt_len]; omega), rfl, rfl, by rw [S_len, lt_len]; exact few (by decide), by rw [hx1, S_list]; exact atI_nat hx3, r _ _ hd ⟨.upd_over hF sm _, upd_same, cs ++ [_], by rw [List.map_append]; rfl, by rw [List.length_append, he]; rfl, fun z hz => ?_⟩⟩
    rcases List.mem_append.mp hz with h | h
    · exact hc z h
    · rw [List.mem_singleton.mp h]; exact (lt_plain _ (List.mem_of_getElem? hx3)).1
  · rintro F zs H' hF ⟨sm, hd, cs, rfl, he, hc⟩
    refine ⟨"", F, cs.map fun c => S [c], rfl, rfl, by rw [List.map_map]; exact SqL.of hd, signs_sum cs (by omega), ?_⟩
    rw [join_signs]
    exact q cs H' sm he hc
def Prt : Sh → Prop
  | .whole lo hi => hi = lo + 3
  | .text sg => 1 ≤ sg.length ∧ sg.length ≤ 5 ∧ ∀ c ∈ sg, c < 1000
  | _ => False
/-- a part as a tuple of the heap -/
def PrtAt (H : Hp) (x : V) : Sh → Prop
  | .whole lo hi => ∃ p, x = .ref p ∧ H p = some (.tup [.str "whole", .int lo, .int hi])
  | .text sg => ∃ p, x = .ref p ∧ H p = some (.tup [.str "text", .str (S sg)])
  | _ => False
theorem PrtAt.keep {H H' : Hp} {x : V} {sh : Sh} (h : PrtAt H x sh) (t : Tps H H') : PrtAt H' x sh := by
  cases sh with
  | whole lo hi => obtain ⟨p, e, h⟩ := h; exact ⟨p, e, t _ _ h⟩
  | text sg => obtain ⟨p, e, h⟩ := h; exact ⟨p, e, t _ _ h⟩
  | _ => exact h
theorem PrtAt.at_ {K : PySem.W.Frag} {H : Hp} {x : V} {sh : Sh} (h : PrtAt H x sh) (hp : Prt sh) : ShAt K H x sh := by
  cases sh with
  | whole lo hi => obtain ⟨p, rfl, h⟩ := h; exact .whole (SqT.of h)
  | text sg => obtain ⟨p, rfl, h⟩ := h; exact .text (SqT.of h) (by have := hp.2.1; omega)
  | _ => exact (show False from hp).elim
def sp_law_part (K : PySem.W.Frag) : Sp := fun vs H Q _ => ∃ (c : Int), vs = [.int c] ∧ ∀ x sh H', Same H H' → PrtAt H' x sh → Prt sh → Q x H'
theorem ok_law_part {k : Nat} {C_Lister : Addr} {C_Stepper : Addr} (R : g.Raw "_law_part" "_law_part" s_law_part ["_law_cell"]) (F_law_signs : g.Fn k "_law_signs" ["_law_cell", "_law_many"] (sp_law_signs g.K)) : g.Fn (k + 1) "_law_part" ["_law_cell"] (sp_law_part g.K) := by
  refine R.fn sc_law_part (fun vs H Q E h => by obtain ⟨c, rfl, q⟩ := h; rfl) fun f_ cdv A outer s H vs Q E hr h => ?_
  obtain ⟨c, rfl, q⟩ := h
  refine ⟨_, (pss_cons (ps_if (pt_cmpR op_eq (pe_op op_mod (pv 0) pe_int) pe_int (nomark _)) (pss_cons (ps_set (i := 1) sc_law_part.nd rfl (Or.inl rfl) (pe_op op_sub (pe_op op_mod (pe_op op_fdivL (pv 0) pe_int) (pe_op op_pow pe_int pe_int)) (pe_op op_mulC pe_int (pe_op op_pow pe_int pe_int))))
      (pss_one (ps_ret (pe_tup (pa_cons pe_str (pa_cons (pv 1) (pa_cons (pe_op op_add (pv 1) pe_int) pa_nil))))))) pss_nil)
      (pss_one (ps_ret (pe_tup (pa_cons pe_str (pa_cons (pe_fn F_law_signs hr (pa_cons (pe_op op_fdivL (pv 0) pe_int) (pa_cons (pe_op op_add pe_int (pe_op op_mod (pe_op op_fdivL (pv 0) pe_int) pe_int)) pa_nil))) pa_nil)))))), ?_⟩
  walk_at "rd"
  refine ⟨by decide, ite2 (fun _ => ?_) (fun _ => ?_)⟩
  · exact ⟨small_div (by decide) (by decide), cpow, by decide +kernel, cpow, .inl (cm (m := 3) (n := 200) (by decide) (by decide +kernel)), few (by decide), fun p hp => q (.ref p) (.whole _ _) _ (.upd_new hp _) ⟨p, rfl, upd_same⟩ rfl⟩
  · obtain ⟨r, h1, h2⟩ := mod_nat (c / 2) (j := 5) (by decide)
    refine ⟨small_div (by decide) (by decide), small_div (by decide) (by decide), by decide, c / 2, 1 + r, by rw [h1, Int.natCast_add]; rfl, by omega, fun sg H1 s1 hs hz => ⟨few (by decide), fun p hp => q (.ref p) (.text sg) _ (s1.trans (.upd_new hp _)) ⟨p, rfl, upd_same⟩ ⟨by omega, by omega, hz⟩⟩⟩
def Thg : Sh → V → PyData → Prop
  | .whole lo _, v, d => ∃ n : Nat, n < 4 ∧ v = .int (lo + n) ∧ d = .int (lo + n)
  | .text sg, v, d => ∃ l : List Nat, l.length ≤ 2 ∧ (∀ c ∈ l, c ∈ sg) ∧ v = .str (S l) ∧ d = .str (S l)
  | _, _, _ => False
/-- the thing that the law makes of a part and a number -/
def thL (sg : List Nat) (c : Int) (n : Nat) : List Nat := (List.range n).map fun (k : Nat) => sg.getD ((c / 3 + 2 * (k : Int)) % (sg.length : Int)).toNat 0
def thD : Sh → Int → PyData
  | .whole lo _, c => .int (lo + c * 48271 % 65537 % 4)
  | .text sg, c => .str (S (thL sg c (c * 48271 % 65537 % 3).toNat))
  | _, _ => .none
def thV : Sh → Int → V
  | .whole lo _, c => .int (lo + c * 48271 % 65537 % 4)
  | .text sg, c => .str (S (thL sg c (c * 48271 % 65537 % 3).toNat))
  | _, _ => .non
theorem thg_of {sh : Sh} (h : Prt sh) (c : Int) : Thg sh (thV sh c) (thD sh c) := by
  cases sh with
  | whole lo hi => exact ⟨(c * 48271 % 65537 % 4).toNat, by omega, by show V.int _ = _; rw [show (((c * 48271 % 65537 % 4).toNat : Nat) : Int) = c * 48271 % 65537 % 4 by omega], by show PyData.int _ = _; rw [show (((c * 48271 % 65537 % 4).toNat : Nat) : Int) = c * 48271 % 65537 % 4 by omega]⟩
  | text sg =>
    refine ⟨_, by rw [thL, List.length_map, List.length_range]; omega, fun z hz => ?_, rfl, rfl⟩
    obtain ⟨k, _, rfl⟩ := List.mem_map.mp hz
    obtain ⟨h1, _, _⟩ := h
    obtain ⟨x, hx1, hx2⟩ := mod_nat (c / 3 + 2 * (k : Int)) (j := (sg.length : Int)) (by omega)
    rw [hx1, Int.toNat_natCast]
    have hx3 : sg[x]? = some (sg[x]'(by omega)) := List.getElem?_eq_getElem _
    rw [List.getD_eq_getElem?_getD, hx3]
    exact List.mem_of_getElem? hx3
  | _ => exact (show False from h).elim
def sp_law_thing (K : PySem.W.Frag) : Sp := fun vs H Q _ => ∃ (x : V) (c : Int) (sh : Sh), vs = [x, .int c] ∧ ShAt K H x sh ∧ Prt sh ∧ ∀ H', Same H H' → Q (thV sh c) H'
theorem ok_law_thing {C_Lister : Addr} {C_Stepper : Addr} (R : g.Raw "_law_thing" "_law_thing" s_law_thing ["_law_part_here", "_law_cell"]) (b_len : g.mg "len" = none) (b_range : g.mg "range" = none) : g.Fn (1) "_law_thing" ["_law_part_here", "_law_cell"] (sp_law_thing g.K) := by
  refine R.fn sc_law_thing (fun vs H Q E h => by obtain ⟨x, c, sh, rfl, hx, hp, q⟩ := h; rfl) fun f_ cdv A outer s H vs Q E hr h => ?_
  obtain ⟨x, c, sh, rfl, hx, hp, q⟩ := h
  refine ⟨_, (pss_cons (ps_if (pt_cmpR op_eq (pe_ix ix_tup (pv 0) pe_int (fun _ _ => rfl)) pe_str (nomark _)) (pss_one (ps_ret (pe_op op_add (pe_ix ix_tup (pv 0) pe_int (fun _ _ => rfl)) (pe_op op_mod (pe_op op_mod (pe_op op_mulC (pv 1) pe_int) pe_int) pe_int)))) pss_nil)
      (pss_cons (ps_set (i := 2) sc_law_thing.nd rfl (Or.inl rfl) (pe_op op_mod (pe_op op_mod (pe_op op_mulC (pv 1) pe_int) pe_int) pe_int))
      (pss_one (ps_ret (pe_bm PySem.F.plainAttrs_str PySem.F.slot_str_join PySem.F.type_str_join mt_join pe_str (pa_cons (pe_lc (g := gName 0) (src := [none, some 0, some 1]) (N' := (["_law_k", "_law_part_here", "_law_cell"] : List Str)) (.own (.cap (i := 0) rfl rfl (by first | exact Or.inl rfl | exact Or.inr rfl) (.cap (i := 1) rfl rfl (by first | exact Or.inl rfl | exact Or.inr rfl) .nil))) rfl (pi_range1 rfl b_range (pa_cons (pv 2) pa_nil)) (fun cl C s₀ H₀ fp pn => (pg_name (i := 0) (show List.Nodup (["_law_k", "_law_part_here", "_law_cell"] : List Str) by decide +kernel) rfl (Or.inl rfl) (Or.inr rfl))) (fun cl C s₀ H₀ fp pn => pts_nil) (fun cl C s₀ H₀ fp pn => (pe_ix ix_str (pe_ix (ix_tupK (K := g.K)) (pv 1) pe_int (fun _ _ => rfl)) (pe_op op_mod (pe_op op_add (pe_op op_fdivL (pv 2) pe_int) (pe_op op_mulC pe_int (pv 0))) (pe_bf b_len call_len_str (pa_cons (pe_ix (ix_tupK (K := g.K)) (pv 1) pe_int (fun _ _ => rfl)) pa_nil))) (fun _ _ => rfl))) (by intro x hx; simp at hx; first | (subst hx; exact Or.inl rfl) | (rcases hx with rfl | rfl <;> exact Or.inl rfl) | (rcases hx with rfl | rfl | rfl <;> exact Or.inl rfl))) pa_nil)))))), ?_⟩
  cases hx with
  | @whole a lo hi ha =>
    walk_at "rd"
    obtain ⟨r, h1, h2⟩ := mod_nat (c * 48271 % 65537) (j := 4) (by decide)
    refine ⟨_, ha, _, atI30 _ _ _, rfl, iteY rfl ⟨_, ha, _, atI31 _ _ _, .inr (.inr ⟨by decide, by decide⟩), by decide, by decide, _, rfl, q _ (.refl _)⟩⟩
  | @text a sg ha hl =>
    obtain ⟨hp1, hp2, hp3⟩ := hp
    walk_at "rd"
    obtain ⟨n, h1, h2⟩ := mod_nat (c * 48271 % 65537) (j := 3) (by decide)
    have hq : ∀ H', Same H H' → Q (.str (S (thL sg c n))) H' := fun H' s' => by
      have := q H' s'
      rw [thV, h1, Int.toNat_natCast] at this
      exact this
    refine ⟨_, ha, _, atI20 _ _, rfl, iteN (by decide +kernel) ⟨.inr (.inr ⟨by decide, by decide⟩), by decide, by decide, rfl, ?_⟩⟩
    rw [h1]
    refine tLC_rangeI (n := n) (fun F i zs H' => Same H H' ∧ H' F = some (.lst zs) ∧ zs = (thL sg c i).map (fun c => V.str (S [c]))) (fun R r => by walk_at "rd"; exact r) (by omega) ?_ ?_ ?_ ?_
    · intro F hF
      exact ⟨.upd_new hF _, upd_same, rfl⟩
    · rintro F i zs H' ⟨sm, hd, rfl⟩
      exact ⟨by rw [List.length_map, thL, List.length_map, List.length_range], hd⟩
    · rintro F i zs H' hF hi ⟨sm, hd, rfl⟩ R r
      have ha' := sm.tup ha
      walk_at "rd"
      obtain ⟨x, hx1, hx2⟩ := mod_nat (c / 3 + 2 * (i : Int)) (j := (sg.length : Int)) (by omega)
      have hx3 : sg[x]? = some (sg[x]'(by omega)) := List.getElem?_eq_getElem _
      refine ⟨_, ha', _, atI21 _ _, small_div (by decide) (by decide), .inl (cm (m := 8) (n := 8) (by decide) (by rw [Int.natAbs_natCast]; omega)), _, ha', _, atI21 _ _, _, rfl, by rw [S_len]; exact few (by omega), by rw [S_len]; omega, ?_⟩
      rw [S_len, hx1]
      refine ⟨_, _, sg[x]'(by omega), rfl, rfl, by rw [S_len]; exact few (by omega), by rw [S_list]; exact atI_nat hx3, r _ _ hd ⟨.upd_over hF sm _, upd_same, ?_⟩⟩
      have e : sg[x]'(by omega) = sg.getD ((c / 3 + 2 * (i : Int)) % (sg.length : Int)).toNat 0 := by
        rw [hx1, Int.toNat_natCast, List.getD_eq_getElem?_getD, hx3]; rfl
      rw [thL, thL, List.range_succ, List.map_append, List.map_append, e]
      rfl
    · rintro F zs H' hF ⟨sm, hd, rfl⟩
      refine ⟨"", F, (thL sg c n).map fun c => S [c], rfl, rfl, by rw [List.map_map]; exact SqL.of hd, signs_sum _ (by rw [thL, List.length_map, List.length_range]; omega), ?_⟩
      rw [join_signs]
      exact hq H' sm
  | _ => exact (show False from hp).elim
def inV : Sh → PyData → List V
  | .whole lo _, .int v => (halves lo (v - lo).toNat).reverse.map V.int
  | .text _, .str x => (outs x.cps.toList).map fun z => V.str (S z)
  | _, _ => []
theorem halves4 (lo : Int) {n : Nat} (h : n < 4) : (([V.int 0, V.int 1].filter fun x => match x with | .int i => decide (i ≤ (n : Int) / 2) && decide (0 < (n : Int)) | _ => false).map fun x => match x with | .int i => V.int (lo + i) | y => y) = (halves lo n).reverse.map V.int := by
  rcases (show n = 0 ∨ n = 1 ∨ n = 2 ∨ n = 3 by omega) with rfl | rfl | rfl | rfl
  · rw [halves_zero]; rfl
  · rw [halves_pos lo (by decide), halves_zero]; rfl
  · rw [halves_pos lo (by decide), halves_pos lo (by decide), halves_zero]; rfl
  · rw [halves_pos lo (by decide), halves_pos lo (by decide), halves_zero]; rfl
def sp_law_inner (K : PySem.W.Frag) : Sp := fun vs H Q _ => ∃ (x v : V) (sh : Sh) (d : PyData), vs = [x, v] ∧ ShAt K H x sh ∧ Prt sh ∧ Thg sh v d ∧ ∀ D H', Same H H' → H D = none → H' D = some (.lst (inV sh d)) → Q (.ref D) H'
theorem ok_law_inner {C_Lister : Addr} {C_Stepper : Addr} (R : g.Raw "_law_inner" "_law_inner" s_law_inner ["_law_part_here", "_law_thing_here"]) (b_len : g.mg "len" = none) (b_range : g.mg "range" = none) : g.Fn (1) "_law_inner" ["_law_part_here", "_law_thing_here"] (sp_law_inner g.K) := by
  refine R.fn sc_law_inner (fun vs H Q E h => by obtain ⟨x, v, sh, d, rfl, hx, hp, ht, q⟩ := h; rfl) fun f_ cdv A outer s H vs Q E hr h => ?_
  obtain ⟨x, v, sh, d, rfl, hx, hp, ht, q⟩ := h
  refine ⟨_, (pss_cons (ps_if (pt_cmpR op_eq (pe_ix ix_tup (pv 0) pe_int (fun _ _ => rfl)) pe_str (nomark _)) (pss_cons (ps_set (i := 2) sc_law_inner.nd rfl (Or.inr rfl) (pe_op op_sub (pv 1) (pe_ix ix_tup (pv 0) pe_int (fun _ _ => rfl))))
      (pss_one (ps_ret (pe_lc (g := gName 0) (src := [none, some 2, some 0]) (N' := (["_law_less", "_law_far", "_law_part_here"] : List Str)) (.own (.cap (i := 2) rfl rfl (by first | exact Or.inl rfl | exact Or.inr rfl) (.cap (i := 0) rfl rfl (by first | exact Or.inl rfl | exact Or.inr rfl) .nil))) rfl (pi_list (pe_lst (pa_cons pe_int (pa_cons pe_int pa_nil)))) (fun cl C s₀ H₀ fp pn => (pg_name (i := 0) (show List.Nodup (["_law_less", "_law_far", "_law_part_here"] : List Str) by decide +kernel) rfl (Or.inl rfl) (Or.inr rfl))) (fun cl C s₀ H₀ fp pn => (pts_one (pw_and (pt_cmpR op_le (pv 0) (pe_op op_fdivL (pv 1) pe_int) (nomark _)) (pw_and1 (pt_cmpR op_gt (pv 1) pe_int (nomark _)))).pt)) (fun cl C s₀ H₀ fp pn => (pe_op op_add (pe_ix (ix_tupK (K := g.K)) (pv 2) pe_int (fun _ _ => rfl)) (pv 0))) (by intro x hx; simp at hx; first | (subst hx; exact Or.inl rfl) | (rcases hx with rfl | rfl <;> exact Or.inl rfl) | (rcases hx with rfl | rfl | rfl <;> exact Or.inl rfl)))))) pss_nil)
      (pss_one (ps_ret (pe_lc (g := gName 0) (src := [none, some 1]) (N' := (["_law_k", "_law_thing_here"] : List Str)) (.own (.cap (i := 1) rfl rfl (by first | exact Or.inl rfl | exact Or.inr rfl) .nil)) rfl (pi_range1 rfl b_range (pa_cons (pe_bf b_len call_len_str (pa_cons (pv 1) pa_nil)) pa_nil)) (fun cl C s₀ H₀ fp pn => (pg_name (i := 0) (show List.Nodup (["_law_k", "_law_thing_here"] : List Str) by decide +kernel) rfl (Or.inl rfl) (Or.inr rfl))) (fun cl C s₀ H₀ fp pn => pts_nil) (fun cl C s₀ H₀ fp pn => (pe_op op_add_str (pe_slice sl_str (pv 1) po_none (po_some (pv 0))) (pe_slice sl_str (pv 1) (po_some (pe_op op_add (pv 0) pe_int)) po_none))) (by intro x hx; simp at hx; first | (subst hx; exact Or.inl rfl) | (rcases hx with rfl | rfl <;> exact Or.inl rfl) | (rcases hx with rfl | rfl | rfl <;> exact Or.inl rfl)))))), ?_⟩
  cases hx with
  | @whole a lo hi ha =>
    obtain ⟨n, hn, rfl, rfl⟩ := ht
    walk_at "rd"
    refine ⟨_, ha, _, atI30 _ _ _, rfl, iteY rfl ⟨_, ha, _, atI31 _ _ _, _, rfl, ?_⟩⟩
    rw [show lo + (n : Int) - lo = n by omega]
    refine tLC_filt (K := g.K) (xs := [V.int 0, V.int 1]) (fun x => match x with | .int i => decide (i ≤ (n : Int) / 2) && decide (0 < (n : Int)) | _ => false) (fun x => match x with | .int i => V.int (lo + i) | y => y) (fun R r => ?_) (by decide) ?_ ?_ ?_
    · walk_at "rd"
      exact ⟨few (by decide), fun p hp => r p _ (.upd_new hp _) (SqL.of upd_same)⟩
    · intro x H' hx sm R r
      simp only [List.mem_cons, List.not_mem_nil, or_false] at hx
      rcases hx with rfl | rfl
      · walk_at "rd"
        have h : R (decide ((0 : Int) ≤ (n : Int) / 2) && decide (0 < (n : Int))) H' := r H' (.refl _)
        refine ⟨small_div (by decide) (by decide), ite2 (fun c => ?_) (fun c => ?_)⟩
        · rw [decide_eq_true c, Bool.true_and] at h; exact h
        · rw [decide_eq_false c, Bool.false_and] at h; exact h
      · walk_at "rd"
        have h : R (decide ((1 : Int) ≤ (n : Int) / 2) && decide (0 < (n : Int))) H' := r H' (.refl _)
        refine ⟨small_div (by decide) (by decide), ite2 (fun c => ?_) (fun c => ?_)⟩
        · rw [decide_eq_true c, Bool.true_and] at h; exact h
        · rw [decide_eq_false c, Bool.false_and] at h; exact h
    · intro x H' hx hpx sm R r
      simp only [List.mem_cons, List.not_mem_nil, or_false] at hx
      have ha' := sm.tup ha
      rcases hx with rfl | rfl
      · walk_at "rd"
        exact ⟨_, ha', _, atI31 _ _ _, _, rfl, r H' (.refl _)⟩
      · walk_at "rd"
        exact ⟨_, ha', _, atI31 _ _ _, _, rfl, r H' (.refl _)⟩
    · intro D H' hD sm hd
      rw [halves4 lo hn] at hd
      refine q D H' sm hD ?_
      show H' D = some (.lst ((halves lo (lo + (n : Int) - lo).toNat).reverse.map V.int))
      rw [show (lo + (n : Int) - lo).toNat = n by omega]
      exact hd
  | @text a sg ha hl =>
    obtain ⟨l, hll, hlm, rfl, rfl⟩ := ht
    walk_at "rd"
    refine ⟨_, ha, _, atI20 _ _, rfl, iteN (by decide +kernel) ?_⟩
    refine tLC_range1 (n := l.length) ((outs l).map fun z => V.str (S z)) (fun R r => ?_) (by simp [outs]) (by omega) ?_ ?_
    · walk_at "rd"
      rw [S_len]
      exact ⟨few (by omega), r⟩
    · intro i y H' hi hy sm R r
      walk_at "rd"
      have hy' : V.str (S (l.take i ++ l.drop (i + 1))) = y := by
        rw [List.getElem?_map, outs, List.getElem?_map, List.getElem?_range hi] at hy
        exact Option.some.inj hy
      refine ⟨_, rfl, by rw [S_len]; exact few (by omega), _, rfl, by rw [S_len]; exact few (by omega), _, rfl, _, rfl, ?_, ?_⟩
      · rw [cutS_hi, show ((i : Int) + 1) = ((i + 1 : Nat) : Int) by omega, cutS_lo, S_len, S_len, List.length_take, List.length_drop]
        exact few (by omega)
      · rw [cutS_hi, show ((i : Int) + 1) = ((i + 1 : Nat) : Int) by omega, cutS_lo, S_app, hy']
        exact r H' (.refl _)
    · intro D H' hD sm hd
      refine q D H' sm hD ?_
      show H' D = some (.lst ((outs (S l).cps.toList).map fun z => V.str (S z)))
      rw [S_list]
      exact hd
  | _ => exact (show False from hp).elim
end KW
set_option maxHeartbeats 8000000
namespace KW
open PySem L2

variable {g : Gx}
variable {bk : Bk}
variable {m : Nat}
variable {bk : Bk} {shs : List Sh} {ds : List PyData}
variable {bk : Bk} {shs : List Sh} {ds : List PyData} {sg tl : List Nat}
local macro_rules | `(tactic| walk_at "gn") => `(tactic| simp only [gName, List.set_cons_zero, List.set_cons_succ])

local macro_rules | `(tactic| walk_at "rd") => `(tactic| simp (config := { failIfUnchanged := false, maxSteps := 10000000 }) only [L2.start, cxOf_K, nox_K, List.map_cons, List.map_nil, List.length_cons, List.length_nil, List.cons_append, List.nil_append, List.replicate_succ, List.replicate_zero, Nat.zero_add, Nat.reduceAdd, Nat.reduceSub, Nat.sub_self, tSeq, tIfS, tTest, tOp, tC, tVar, rI0, rI, rU, tUn, tRet, tRetN, tDrop, tNext, tBreak, tCont, tAsg, gName, gNil, gCons, tCons, tNil, tCB, tCall, tTry, tTryAs, tRaise, sFld, tFld, tMake, tMeth, Ends.gone, caught_K, tB, tAnd, tOr, tNot, tAndV, tOrV, tNotV, tIf, tChain, tNoPart, tPart, tSl, tNever, tAug, rIxL, rIxT, rSlL, tLst, tTup, gTup, tRev, tLZ, tConT, tDict0, tDNewT, tDGet, sDPut, rNotInD, rInD, tEither, tSlStep, rBits, rFind, rIn, tBM, tBM0, rAppend, rReverse, rEq, rNe, scal_ii, scal_ss, rCat, rSetL, gSub, ipI, capSt, List.getD_cons_zero, List.getD_cons_succ, decide_true, not_true_eq_false, not_false_eq_true,
  exists_eq_left', exists_eq_left, exists_eq', exists_eq, exists_and_left, and_assoc, Option.some.injEq, V.int.injEq, V.bl.injEq, V.ref.injEq, V.str.injEq, List.getElem?_cons_zero, List.getElem?_cons_succ, List.set_cons_zero, List.set_cons_succ, List.cons.injEq, and_true, true_and, List.append_nil, decide_eq_true_eq, Bool.not_eq_true', decide_eq_false_iff_not, Bool.not_not, Bool.not_true, Bool.not_false, Bool.true_eq_false, Bool.false_eq_true, if_true, if_false, ite_true, ite_false])

/-- parts and their things, in lists -/
structure Pts (K : PySem.W.Frag) (H : Hp) (xs vs : List V) (shs : List Sh) (ds : List PyData) : Prop where
  lx : xs.length = shs.length
  lv : vs.length = shs.length
  ld : ds.length = shs.length
  all : ∀ (i : Nat) x v sh d, xs[i]? = some x → vs[i]? = some v → shs[i]? = some sh → ds[i]? = some d → ShAt K H x sh ∧ Prt sh ∧ Thg sh v d
/-- how many steps each has -/
def lens (shs : List Sh) (ds : List PyData) : List Nat := (shs.zip ds).map fun w => (inV w.1 w.2).length
def sp_law_count (K : PySem.W.Frag) : Sp := fun vs H Q _ => ∃ (a b : Addr) (xs us : List V) (shs : List Sh) (ds : List PyData), vs = [.ref a, .ref b] ∧ SqL K H a xs ∧ SqL K H b us ∧ Pts K H xs us shs ds ∧ shs.length ≤ 100 ∧ ∀ H', Same H H' → Q (.int ((lens shs ds).sum : Nat)) H'
theorem ok_law_count {k : Nat} {C_Lister : Addr} {C_Stepper : Addr} (R : g.Raw "_law_count" "_law_count" s_law_count ["_law_parts", "_law_things"]) (F_law_inner : g.Fn k "_law_inner" ["_law_part_here", "_law_thing_here"] (sp_law_inner g.K)) (b_len : g.mg "len" = none) (b_sum : g.mg "sum" = none) (b_zip : g.mg "zip" = none) : g.Fn (k + 1) "_law_count" ["_law_parts", "_law_things"] (sp_law_count g.K) := by
  refine R.fn sc_law_count (fun vs H Q E h => by obtain ⟨a, b, xs, us, shs, ds, rfl, ha, hb, hpt, hl, q⟩ := h; rfl) fun f_ cdv A outer s H vs Q E hr h => ?_
  obtain ⟨a, b, xs, us, shs, ds, rfl, ha, hb, hpt, hl, q⟩ := h
  refine ⟨_, (pss_one (ps_ret (pe_bf b_sum call_sum_ints (pa_cons (pe_lc (g := gTup g.K 2 (gCons (gName 0) (gCons (gName 1) gNil))) (src := [none, none]) (N' := (["_law_part_here", "_law_thing_here"] : List Str)) (.own (.own .nil)) rfl (pi_zipL rfl b_zip (pa_cons (pv 0) (pa_cons (pv 1) pa_nil))) (fun cl C s₀ H₀ fp pn => (pg_tup (n := 2) rfl (pgs_cons (pg_name (i := 0) (show List.Nodup (["_law_part_here", "_law_thing_here"] : List Str) by decide +kernel) rfl (Or.inl rfl) (Or.inr rfl)) (pgs_cons (pg_name (i := 1) (show List.Nodup (["_law_part_here", "_law_thing_here"] : List Str) by decide +kernel) rfl (Or.inl rfl) (Or.inr rfl)) pgs_nil)))) (fun cl C s₀ H₀ fp pn => pts_nil) (fun cl C s₀ H₀ fp pn => (pe_bf b_len (call_len_seqK (K := g.K)) (pa_cons (pe_fn F_law_inner hr (pa_cons (pv 0) (pa_cons (pv 1) pa_nil))) pa_nil))) (by intro x hx; simp at hx)) pa_nil)))), ?_⟩
  have l1 := hpt.lx
  have l2 := hpt.lv
  have l3 := hpt.ld
  walk_at "rd"
  refine tLC_zipL (K := g.K) (a := a) (b := b) (xs := xs) (ys := us) ((lens shs ds).map fun (n : Nat) => V.int (n : Int)) (fun R r => by walk_at "rd"; exact r) ha hb (by omega) (by simp [lens]; omega) (by omega) ?_ ?_
  · intro i x y z H' hx hy hz sm R r
    have hi := (List.getElem?_eq_some_iff.mp hx).1
    have hs : shs[i]? = some (shs[i]'(by omega)) := List.getElem?_eq_getElem _
    have hd : ds[i]? = some (ds[i]'(by omega)) := List.getElem?_eq_getElem _
    obtain ⟨g1, g2, g3⟩ := hpt.all i x y _ _ hx hy hs hd
    walk_at "rd"
    have hzz : (shs.zip ds)[i]? = some (shs[i]'(by omega), ds[i]'(by omega)) := by rw [List.getElem?_zip_eq_some]; exact ⟨hs, hd⟩
    rw [List.getElem?_map, lens, List.getElem?_map, hzz] at hz
    have e : V.int ((inV (shs[i]'(by omega)) (ds[i]'(by omega))).length : Int) = z := Option.some.inj hz
    exact ⟨x, y, _, _, rfl, g1.keep sm, g2, g3, fun D H'' s' hD hd => ⟨D, rfl, _, .inl (SqL.of hd), by rw [e]; exact r H'' s'⟩⟩
  · intro D H' hD sm hd
    refine ⟨D, rfl, (lens shs ds).map fun (n : Nat) => (n : Int), by rw [List.map_map]; exact SqL.of hd, ?_⟩
    rw [sum_cast]
    exact q H' sm
end KW
set_option maxHeartbeats 8000000
namespace KW
open PySem L2

variable {g : Gx}
variable {bk : Bk}
variable {m : Nat}
variable {bk : Bk} {shs : List Sh} {ds : List PyData}
variable {bk : Bk} {shs : List Sh} {ds : List PyData} {sg tl : List Nat}
local macro_rules | `(tactic| walk_at "gn") => `(tactic| simp only [gName, List.set_cons_zero, List.set_cons_succ])

local macro_rules | `(tactic| walk_at "rd") => `(tactic| simp (config := { failIfUnchanged := false, maxSteps := 10000000 }) only [L2.start, cxOf_K, nox_K, List.map_cons, List.map_nil, List.length_cons, List.length_nil, List.cons_append, List.nil_append, List.replicate_succ, List.replicate_zero, Nat.zero_add, Nat.reduceAdd, Nat.reduceSub, Nat.sub_self, tSeq, tIfS, tTest, tOp, tC, tVar, rI0, rI, rU, tUn, tRet, tRetN, tDrop, tNext, tBreak, tCont, tAsg, gName, gNil, gCons, tCons, tNil, tCB, tCall, tTry, tTryAs, tRaise, sFld, tFld, tMake, tMeth, Ends.gone, caught_K, tB, tAnd, tOr, tNot, tAndV, tOrV, tNotV, tIf, tChain, tNoPart, tPart, tSl, tNever, tAug, rIxL, rIxT, rSlL, tLst, tTup, gTup, tRev, tLZ, tConT, tDict0, tDNewT, tDGet, sDPut, rNotInD, rInD, tEither, tSlStep, rBits, rFind, rIn, tBM, tBM0, rAppend, rReverse, rEq, rNe, scal_ii, scal_ss, rCat, rSetL, gSub, ipI, capSt, List.getD_cons_zero, List.getD_cons_succ, decide_true, not_true_eq_false, not_false_eq_true,
  exists_eq_left', exists_eq_left, exists_eq', exists_eq, exists_and_left, and_assoc, Option.some.injEq, V.int.injEq, V.bl.injEq, V.ref.injEq, V.str.injEq, List.getElem?_cons_zero, List.getElem?_cons_succ, List.set_cons_zero, List.set_cons_succ, List.cons.injEq, and_true, true_and, List.append_nil, decide_eq_true_eq, Bool.not_eq_true', decide_eq_false_iff_not, Bool.not_not, Bool.not_true, Bool.not_false, Bool.true_eq_false, Bool.false_eq_true, if_true, if_false, ite_true, ite_false])

def Knd : Sh → PyData → Prop
  | .whole _ _, d => ∃ i, d = .int i
  | .text _, d => ∃ x, d = .str x
  | _, _ => False
def Fit (shs : List Sh) (r : PyData) : Prop := ∃ ds, r = .tuple ds ∧ ds.length = shs.length ∧ ∀ (i : Nat) sh d, shs[i]? = some sh → ds[i]? = some d → Knd sh d
def sp_law_alike (K : PySem.W.Frag) : Sp := fun vs H Q _ => ∃ (f : V) (pa du : Addr) (xs us : List V) (L : List Addr) (shs : List Sh) (rows : List PyData), vs = [f, .ref pa, .ref du] ∧ VL H f (.list rows) L ∧ H pa = some (.lst xs) ∧ xs.length = shs.length ∧ (∀ (i : Nat) x sh, xs[i]? = some x → shs[i]? = some sh → ShAt K H x sh) ∧ H du = some (.lst us) ∧ V0s H us rows ∧ (∀ r ∈ rows, Fit shs r ∧ r.depth ≤ 60) ∧ ∀ H', Same H H' → Q (.bl true) H'
theorem ok_law_alike {C_Lister : Addr} {C_Stepper : Addr} (R : g.Raw "_law_alike" "_law_alike" s_law_alike ["_law_found", "_law_parts", "_law_due"]) (b_bool : g.mg "bool" = none) (b_isinstance : g.mg "isinstance" = none) (b_len : g.mg "len" = none) (b_list : g.mg "list" = none) (b_str : g.mg "str" = none) (b_tuple : g.mg "tuple" = none) (b_zip : g.mg "zip" = none) : g.Fn (1) "_law_alike" ["_law_found", "_law_parts", "_law_due"] (sp_law_alike g.K) := by
  refine R.fn sc_law_alike (fun vs H Q E h => by obtain ⟨f, pa, du, xs, us, L, shs, rows, rfl, hf, hpa, hxl, hxs, hdu, hus, hfit, q⟩ := h; rfl) fun f_ cdv A outer s H vs Q E hr h => ?_
  obtain ⟨f, pa, du, xs, us, L, shs, rows, rfl, hf, hpa, hxl, hxs, hdu, hus, hfit, q⟩ := h
  refine ⟨_, (pss_cons (ps_if (pw_or (pt_not (pt_val (pe_bf b_isinstance call_isinst (pa_cons (pv 0) (pa_cons (pe_bn (T := "list") b_list) pa_nil))))) (pw_or1 (pt_cmpR op_ne (pe_bf b_len call_len_seq (pa_cons (pv 0) pa_nil)) (pe_bf b_len call_len_seq (pa_cons (pv 2) pa_nil)) (nomark _)))).pt (pss_one (ps_ret pe_bl)) pss_nil)
      (pss_cons (ps_for PassesOwn.never rfl (pi_zipL rfl b_zip (pa_cons (pv 0) (pa_cons (pv 2) pa_nil))) (pg_tup (n := 2) rfl (pgs_cons (pg_name (i := 3) sc_law_alike.nd rfl (Or.inl rfl)) (pgs_cons (pg_name (i := 4) sc_law_alike.nd rfl (Or.inl rfl)) pgs_nil))) (pss_cons (ps_if (pw_or (pt_not (pt_val (pe_bf b_isinstance call_isinst (pa_cons (pv 3) (pa_cons (pe_bn (T := "tuple") b_tuple) pa_nil))))) (pw_or (pt_cmpR op_ne (pe_bf b_len call_len_seq (pa_cons (pv 3) pa_nil)) (pe_bf b_len call_len_seq (pa_cons (pv 1) pa_nil)) (nomark _)) (pw_or1 (pt_cmpR (op_neD hr.units) (pv 3) (pv 4) (nomark _))))).pt (pss_one (ps_ret pe_bl)) pss_nil)
      (pss_one (ps_for PassesOwn.never rfl (pi_zipM rfl b_zip (pa_cons (pv 1) (pa_cons (pv 3) pa_nil))) (pg_tup (n := 2) rfl (pgs_cons (pg_name (i := 5) sc_law_alike.nd rfl (Or.inl rfl)) (pgs_cons (pg_name (i := 6) sc_law_alike.nd rfl (Or.inl rfl)) pgs_nil))) (pss_one (ps_if (pw_or (pt_val (pe_bf b_isinstance call_isinst (pa_cons (pv 6) (pa_cons (pe_bn (T := "bool") b_bool) pa_nil)))) (pw_or1 (pt_cmpR op_ne (pe_bf b_isinstance call_isinst (pa_cons (pv 6) (pa_cons (pe_bn (T := "str") b_str) pa_nil))) (pe_cmpR op_eq (pe_ix ix_tup (pv 5) pe_int (fun _ _ => rfl)) pe_str (nomark _)) (nomark _)))).pt (pss_one (ps_ret pe_bl)) pss_nil))))))
      (pss_one (ps_ret pe_bl)))), ?_⟩
  have ty := vl_ty (K := g.K) hf
  cases hf with
  | @lst fa ys _ L' hfa hfl hys =>
  have e1 := hys.length
  have e2 := hus.1
  walk_at "rd"
  refine ⟨_, rfl, _, ty, true, rfl, iteN (by decide) ⟨_, .inl (SqL.of hfa), _, .inl (SqL.of hdu), iteN (by omega) ?_⟩⟩
  refine tFor_zipN (K := g.K) 3 4 (xs := ys) (ys := us) (fun a' b' n σ H' => a' = fa ∧ b' = du ∧ (∃ o3 o4 o5 o6, σ = [some (.ref fa), some (.ref pa), some (.ref du), o3, o4, o5, o6]) ∧ Same H H') (fun R r => by walk_at "rd"; exact r fa du H ⟨rfl, rfl, ⟨_, _, _, _, rfl⟩, .refl _⟩) (fun a' b' n σ H' _ ⟨e1, e2, _, s⟩ => by subst e1 e2; exact ⟨SqL.of (s _ _ hfa), SqL.of (s _ _ hdu)⟩) ?_ ?_
  · rintro a' b' n x y σ H' T hx hy ⟨rfl, rfl, ⟨o3, o4, o5, o6, rfl⟩, s1⟩ hT
    obtain ⟨r, Lx, hr, hvx⟩ := hys.at hx
    obtain ⟨r', hr', hvy⟩ := hus.at hy
    rw [hr] at hr'
    cases hr'
    obtain ⟨⟨ds, rfl, hdl, hkn⟩, hdp⟩ := hfit r (List.mem_of_getElem? hr)
    have u1 := s1.trans (.upd_new hT (.tup [x, y]))
    have hvx1 := hvx.keep u1
    have hvy1 := hvy.keep u1
    have tyx := vl_ty (K := g.K) hvx1
    have d1 := hvx1.den (K := g.K)
    have d2 := hvy1.den (K := g.K)
    cases hvx1 with
    | @tup ta tvs _ Lt ht htl hts =>
    have e3 := hts.length
    have ht0 := ht
    walk_at "rd"
    refine ⟨_, rfl, _, tyx, true, rfl, iteN (by decide) ⟨_, .inr (SqT.of ht), _, .inl (SqL.of (u1 _ _ hpa)), iteN (by omega) ⟨_, d1, _, d2, by omega, ?_⟩⟩⟩
    rw [PySem.SeqAt.eqv_refl _ d1.lay]
    refine iteN (by decide) ?_
    refine tFor_zipM (K := g.K) 5 6 (xs := xs) (ys := tvs) (fun p1 p2 m σ H2 => p1 = pa ∧ p2 = ta ∧ (∃ o3 o4 o5 o6, σ = [some (.ref a'), some (.ref pa), some (.ref b'), o3, o4, o5, o6]) ∧ Same (upd H' T (.tup [.ref ta, y])) H2) (fun R r => by walk_at "rd"; exact r pa ta _ ⟨rfl, rfl, ⟨_, _, _, _, rfl⟩, .refl _⟩) (fun p1 p2 m σ H2 _ ⟨e1, e2, _, s⟩ => by subst e1 e2; exact ⟨SqL.of (s _ _ (u1 _ _ hpa)), SqT.of (s _ _ ht)⟩) ?_ ?_
    · rintro p1 p2 m x1 y1 σ H2 T2 hx1 hy1 ⟨rfl, rfl, ⟨o3, o4, o5, o6, rfl⟩, s2⟩ hT2
      have hm := (List.getElem?_eq_some_iff.mp hx1).1
      have hs : shs[m]? = some (shs[m]'(by omega)) := List.getElem?_eq_getElem _
      obtain ⟨dd, Ld, hdd, hvd⟩ := hts.at hy1
      have hk := hkn m _ dd hs hdd
      have u2 := s2.trans (.upd_new hT2 (.tup [x1, y1]))
      have hsh := (hxs m x1 _ hx1 hs).keep (u1.trans u2)
      have tyd := vl_ty (K := g.K) (hvd.keep u2)
      generalize shs[m]'(by omega) = sh at hs hk hsh
      cases hsh with
      | @whole a lo hi ha =>
        obtain ⟨i, rfl⟩ := hk
        walk_at "rd"
        exact ⟨_, rfl, _, tyd, false, rfl, iteN (by decide) ⟨_, rfl, _, tyd, false, rfl, _, ha, _, atI30 _ _ _, rfl, rfl, iteN (not_not_intro (by decide +kernel)) u2⟩⟩
      | @text a sg ha hl =>
        obtain ⟨z, rfl⟩ := hk
        walk_at "rd"
        exact ⟨_, rfl, _, tyd, false, rfl, iteN (by decide) ⟨_, rfl, _, tyd, true, rfl, _, ha, _, atI20 _ _, rfl, rfl, iteN (not_not_intro (by decide +kernel)) u2⟩⟩
      | _ => exact (show False from hk).elim
    · rintro p1 p2 σ H2 ⟨rfl, rfl, ⟨o3, o4, o5, o6, rfl⟩, s2⟩
      exact ⟨⟨_, _, _, _, rfl⟩, u1.trans s2⟩
  · rintro a' b' σ H' ⟨rfl, rfl, ⟨o3, o4, o5, o6, rfl⟩, s1⟩
    walk_at "rd"
    exact q H' s1
end KW
set_option maxHeartbeats 8000000
namespace KW
open PySem L2

variable {g : Gx}
variable {bk : Bk}
variable {m : Nat}
variable {bk : Bk} {shs : List Sh} {ds : List PyData}
variable {bk : Bk} {shs : List Sh} {ds : List PyData} {sg tl : List Nat}
local macro_rules | `(tactic| walk_at "gn") => `(tactic| simp only [gName, List.set_cons_zero, List.set_cons_succ])

local macro_rules | `(tactic| walk_at "rd") => `(tactic| simp (config := { failIfUnchanged := false, maxSteps := 10000000 }) only [L2.start, cxOf_K, nox_K, List.map_cons, List.map_nil, List.length_cons, List.length_nil, List.cons_append, List.nil_append, List.replicate_succ, List.replicate_zero, Nat.zero_add, Nat.reduceAdd, Nat.reduceSub, Nat.sub_self, tSeq, tIfS, tTest, tOp, tC, tVar, rI0, rI, rU, tUn, tRet, tRetN, tDrop, tNext, tBreak, tCont, tAsg, gName, gNil, gCons, tCons, tNil, tCB, tCall, tTry, tTryAs, tRaise, sFld, tFld, tMake, tMeth, Ends.gone, caught_K, tB, tAnd, tOr, tNot, tAndV, tOrV, tNotV, tIf, tChain, tNoPart, tPart, tSl, tNever, tAug, rIxL, rIxT, rSlL, tLst, tTup, gTup, tRev, tLZ, tConT, tDict0, tDNewT, tDGet, sDPut, rNotInD, rInD, tEither, tSlStep, rBits, rFind, rIn, tBM, tBM0, rAppend, rReverse, rEq, rNe, scal_ii, scal_ss, rCat, rSetL, gSub, ipI, capSt, List.getD_cons_zero, List.getD_cons_succ, decide_true, not_true_eq_false, not_false_eq_true,
  exists_eq_left', exists_eq_left, exists_eq', exists_eq, exists_and_left, and_assoc, Option.some.injEq, V.int.injEq, V.bl.injEq, V.ref.injEq, V.str.injEq, List.getElem?_cons_zero, List.getElem?_cons_succ, List.set_cons_zero, List.set_cons_succ, List.cons.injEq, and_true, true_and, List.append_nil, decide_eq_true_eq, Bool.not_eq_true', decide_eq_false_iff_not, Bool.not_not, Bool.not_true, Bool.not_false, Bool.true_eq_false, Bool.false_eq_true, if_true, if_false, ite_true, ite_false])

theorem shats_of {K : PySem.W.Frag} {H : Hp} : ∀ {xs : List V} {shs : List Sh}, xs.length = shs.length → (∀ (i : Nat) x sh, xs[i]? = some x → shs[i]? = some sh → ShAt K H x sh) → ShAts K H xs shs
  | [], [], _, _ => .nil
  | [], _ :: _, h, _ => by simp at h
  | _ :: _, [], h, _ => by simp at h
  | x :: xs, sh :: shs, h, f => .cons (f 0 x sh rfl rfl) (shats_of (by simpa using h) fun i y s h1 h2 => f (i + 1) y s (by simpa using h1) (by simpa using h2))
theorem vds_of {H : Hp} : ∀ {us : List V} {ds : List PyData}, us.length = ds.length → (∀ (i : Nat) u d, us[i]? = some u → ds[i]? = some d → Vd H u d) → Vds H us ds
  | [], [], _, _ => .nil
  | [], _ :: _, h, _ => by simp at h
  | _ :: _, [], h, _ => by simp at h
  | u :: us, d :: ds, h, f => .cons (f 0 u d rfl rfl) (vds_of (by simpa using h) fun i y s h1 h2 => f (i + 1) y s (by simpa using h1) (by simpa using h2))
theorem thg_vd {H : Hp} {sh : Sh} {v : V} {d : PyData} (hp : Prt sh) (h : Thg sh v d) : Vd H v d := by
  cases sh with
  | whole lo hi => obtain ⟨n, hn, rfl, rfl⟩ := h; exact .int _
  | text sg =>
    obtain ⟨l, hl, hz, rfl, rfl⟩ := h
    exact .str _ (str_ok fun c hc => hp.2.2 c (hz c hc)) (by omega)
  | _ => exact (show False from hp).elim
theorem flat_knd {sh : Sh} {d : PyData} (h : Flat sh d) : Knd sh d := by
  cases sh <;> cases d <;> first | exact (show False from h).elim | exact ⟨_, rfl⟩
theorem stpBy_knd {sh : Sh} {d : PyData} (h : Flat sh d) {Ls : List (List PyData)} {e : PyData} (he : e ∈ stpBy sh d Ls) : Knd sh e := by
  cases sh <;> cases d <;> first | exact (show False from h).elim | skip
  · obtain ⟨i, _, rfl⟩ := List.mem_map.mp he
    exact ⟨i, rfl⟩
  · obtain ⟨i, _, rfl⟩ := List.mem_map.mp he
    exact ⟨_, rfl⟩
theorem knd_flat {sh : Sh} {d : PyData} (h : Knd sh d) : (∃ i, d = .int i) ∨ ∃ x, d = .str x := by
  cases sh with
  | whole lo hi => exact .inl h
  | text sg => exact .inr h
  | _ => exact (show False from h).elim
theorem chg_at (ds : List PyData) : ∀ (o : Nat) (Ls : List (List PyData)) (r : List PyData), r ∈ chg ds o Ls → ∃ (i : Nat) (s : PyData) (L : List PyData), Ls[i]? = some L ∧ s ∈ L ∧ r = ds.take (o + i) ++ [s] ++ ds.drop (o + i + 1)
  | _, [], r, h => by simp [chg] at h
  | o, L :: Ls, r, h => by
    rw [chg] at h
    rcases List.mem_append.mp h with h | h
    · obtain ⟨s, hs, rfl⟩ := List.mem_map.mp h
      exact ⟨0, s, L, rfl, hs, rfl⟩
    · obtain ⟨i, s, M, h1, h2, h3⟩ := chg_at ds (o + 1) Ls r h
      exact ⟨i + 1, s, M, by simpa using h1, h2, by rw [h3, show o + 1 + i = o + (i + 1) by omega]⟩
theorem chg_sum (ds : List PyData) : ∀ (o : Nat) (Ls : List (List PyData)), (chg ds o Ls).length = (Ls.map List.length).sum
  | _, [] => by simp [chg]
  | o, L :: Ls => by rw [chg, List.length_append, List.length_map, chg_sum ds (o + 1) Ls]; simp
theorem chg_cut (ds : List PyData) (k : Nat) : ∀ (o : Nat) (Ms : List (List PyData)), o + Ms.length ≤ k → o + Ms.length ≤ ds.length → (chg ds o Ms).map (List.take k) = chg (ds.take k) o Ms
  | _, [], _, _ => by simp [chg]
  | o, L :: Ms, h1, h2 => by
    rw [List.length_cons] at h1 h2
    rw [chg, chg, List.map_append, chg_cut ds k (o + 1) Ms (by omega) (by omega), List.map_map]
    congr 1
    refine List.map_congr_left fun s _ => ?_
    show (ds.take o ++ [s] ++ ds.drop (o + 1)).take k = _
    rw [List.take_append, List.take_of_length_le (by rw [List.length_append, List.length_take, List.length_singleton]; omega), List.length_append, List.length_take, List.length_singleton, List.take_take, List.drop_take, show min o k = o by omega, show k - (min o ds.length + 1) = k - (o + 1) by omega]
/-- the rows of the first parts' steps, cut -/
theorem chg_firsts (ds : List PyData) (Ls : List (List PyData)) (k : Nat) (h : Ls.length = ds.length) : ((chg ds 0 Ls).take ((Ls.take k).map List.length).sum).map (List.take k) = chg (ds.take k) 0 (Ls.take k) := by
  have e := chg_append ds 0 (Ls.take k) (Ls.drop k)
  rw [List.take_append_drop] at e
  rw [e, ← chg_sum ds 0, List.take_left]
  exact chg_cut ds k 0 _ (by rw [List.length_take]; omega) (by rw [List.length_take]; omega)
section
variable {bk : Bk} {shs : List Sh} {ds : List PyData} {sg tl : List Nat}
theorem row_fit (hl : ds.length = shs.length) (hf : ∀ w ∈ shs.zip ds, Flat w.1 w.2) {r : PyData} (hr : r ∈ (chg ds 0 ((shs.zip ds).map fun w => stpBy w.1 w.2 [])).map PyData.tuple) : Fit shs r := by
  obtain ⟨es, he, rfl⟩ := List.mem_map.mp hr
  obtain ⟨i, s, L, h1, h2, rfl⟩ := chg_at ds 0 _ es he
  rw [List.getElem?_map] at h1
  obtain ⟨w, hw, rfl⟩ := Option.map_eq_some_iff.mp h1
  obtain ⟨w1, w2⟩ := List.getElem?_zip_eq_some.mp hw
  have hi := (List.getElem?_eq_some_iff.mp w2).1
  have hfw := hf w (List.mem_of_getElem? hw)
  have e : ds.take (0 + i) ++ [s] ++ ds.drop (0 + i + 1) = ds.set i s := by
    rw [List.set_eq_take_append_cons_drop, if_pos hi, Nat.zero_add, List.append_assoc]; rfl
  rw [e]
  refine ⟨_, rfl, by rw [List.length_set, hl], fun j sh d g1 g2 => ?_⟩
  rw [List.getElem?_set] at g2
  split at g2
  · rename_i c
    subst c
    have : s = d := Option.some.inj g2
    subst this
    rw [w1] at g1
    have : w.1 = sh := Option.some.inj g1
    subst this
    exact stpBy_knd hfw h2
  · have hz : (shs.zip ds)[j]? = some (sh, d) := List.getElem?_zip_eq_some.mpr ⟨g1, g2⟩
    exact flat_knd (hf _ (List.mem_of_getElem? hz))
theorem fit_depth {r : PyData} (h : Fit shs r) : r.depth ≤ 2 := by
  obtain ⟨es, rfl, hl, hk⟩ := h
  rw [PyData.depth]
  have := depthAll_le (k := 1) (ds := es) fun e he => by
    obtain ⟨i, hi, e'⟩ := List.getElem_of_mem he
    exact flat_depth (knd_flat (hk i (shs[i]'(by omega)) e (List.getElem?_eq_getElem _) (by rw [List.getElem?_eq_getElem hi, e'])))
  omega
theorem row_depth (hl : ds.length = shs.length) (hf : ∀ w ∈ shs.zip ds, Flat w.1 w.2) : (PyData.tuple ds).depth ≤ 2 := fit_depth (shs := shs) ⟨ds, rfl, hl, fun i sh d h1 h2 => flat_knd (hf _ (List.mem_of_getElem? (List.getElem?_zip_eq_some.mpr ⟨h1, h2⟩ : (shs.zip ds)[i]? = some (sh, d))))⟩
/-- a row of a row and a text -/
abbrev sh2 (shs : List Sh) (sg : List Nat) : Sh := .row [.row shs, .text sg]
abbrev d2 (ds : List PyData) (tl : List Nat) : PyData := .tuple [.tuple ds, .str (S tl)]
theorem two_stp (hf : ∀ w ∈ shs.zip ds, Flat w.1 w.2) (ht : Flat (.text sg) (.str (S tl))) : stp bk 4 (sh2 shs sg) (d2 ds tl) = ((chg ds 0 ((shs.zip ds).map fun w => stpBy w.1 w.2 [])).map fun r => PyData.tuple [.tuple r, .str (S tl)]) ++ (outs tl).map fun z => PyData.tuple [.tuple ds, .str (S z)] := by
  show (chg [.tuple ds, .str (S tl)] 0 [stp bk 3 (.row shs) (.tuple ds), stp bk 3 (.text sg) (.str (S tl))]).map PyData.tuple = _
  rw [row_stp hf 1, ht.stp 2]
  show (chg [.tuple ds, .str (S tl)] 0 [_, (outs (S tl).cps.toList).map fun z => PyData.str (S z)]).map PyData.tuple = _
  rw [S_list]
  simp [chg, List.map_map, Function.comp_def]
theorem two_okl (hl : ds.length = shs.length) (h8 : shs.length ≤ 8) (hf : ∀ w ∈ shs.zip ds, Flat w.1 w.2) (ht : Flat (.text sg) (.str (S tl))) (htl : tl.length ≤ 100) : Okl bk 4 (sh2 shs sg) (d2 ds tl) := by
  refine ⟨rfl, show 2 ≤ 100 by omega, .tup _ fun d hd => ?_, ?_, fun w hw => ?_⟩
  · simp only [List.mem_cons, List.not_mem_nil, or_false] at hd
    rcases hd with rfl | rfl
    · exact row_nb hl hf
    · exact .str _
  · rw [two_stp hf ht, List.length_append, List.length_map, List.length_map, outs, List.length_map, List.length_range]
    have := chg_len ds (k := 100) 0 ((shs.zip ds).map fun w => stpBy w.1 w.2 []) fun L hL => by
      obtain ⟨w, hw, rfl⟩ := List.mem_map.mp hL
      exact (hf w hw).len []
    rw [List.length_map, List.length_zip] at this
    omega
  · have hw' : w ∈ [((.row shs, .tuple ds) : Sh × PyData), (.text sg, .str (S tl))] := hw
    simp only [List.mem_cons, List.not_mem_nil, or_false] at hw'
    rcases hw' with rfl | rfl
    · exact row_okl hl h8 hf 1
    · exact ht.okl 2
theorem two_enf (hf : ∀ w ∈ shs.zip ds, Flat w.1 w.2) (ht : Flat (.text sg) (.str (S tl))) : Enf bk LV (sh2 shs sg) (d2 ds tl) := fun _ => ⟨trivial, fun w hw => by
  have hw' : w ∈ [((.row shs, .tuple ds) : Sh × PyData), (.text sg, .str (S tl))] := hw
  simp only [List.mem_cons, List.not_mem_nil, or_false] at hw'
  rcases hw' with rfl | rfl
  · exact row_enf hf 2
  · exact ht.enf 3⟩
theorem two_jd (hl : ds.length = shs.length) (hf : ∀ w ∈ shs.zip ds, Flat w.1 w.2) (ht : Flat (.text sg) (.str (S tl))) : ∃ n, jd bk LV (sh2 shs sg) (d2 ds tl) = some n := by
  rw [show LV = 4 + 1 from rfl, jd, if_pos (show form (sh2 shs sg) (d2 ds tl) = true from rfl)]
  obtain ⟨ns, hns⟩ := mapM_some (l := within bk (sh2 shs sg) (d2 ds tl)) (f := fun w => jd bk 4 w.1 w.2) fun w hw => by
    have hw' : w ∈ [((.row shs, .tuple ds) : Sh × PyData), (.text sg, .str (S tl))] := hw
    simp only [List.mem_cons, List.not_mem_nil, or_false] at hw'
    rcases hw' with rfl | rfl
    · exact row_jd hl hf 2
    · exact ht.jd 3
  rw [hns]
  exact ⟨_, rfl⟩
theorem two_depth (hl : ds.length = shs.length) (hf : ∀ w ∈ shs.zip ds, Flat w.1 w.2) (ht : Flat (.text sg) (.str (S tl))) : (PyData.list (stp bk 4 (sh2 shs sg) (d2 ds tl))).depth < 8 := by
  rw [two_stp hf ht, PyData.depth]
  have pair : ∀ a x, a.depth ≤ 2 → (PyData.tuple [a, .str x]).depth ≤ 3 := fun a x h => by
    rw [PyData.depth]
    have := depthAll_le (k := 2) (ds := [a, .str x]) fun e he => by
      simp only [List.mem_cons, List.not_mem_nil, or_false] at he
      rcases he with rfl | rfl
      · exact h
      · simp [PyData.depth]
    omega
  have := depthAll_le (k := 3) (ds := ((chg ds 0 ((shs.zip ds).map fun w => stpBy w.1 w.2 [])).map fun r => PyData.tuple [.tuple r, .str (S tl)]) ++ (outs tl).map fun z => PyData.tuple [.tuple ds, .str (S z)]) fun e he => by
    rcases List.mem_append.mp he with h | h
    · obtain ⟨r, hr, rfl⟩ := List.mem_map.mp h
      exact pair _ _ (fit_depth (row_fit hl hf (List.mem_map_of_mem hr)))
    · obtain ⟨z, hz, rfl⟩ := List.mem_map.mp h
      exact pair _ _ (row_depth hl hf)
  omega
end
end KW
set_option maxHeartbeats 8000000
namespace KW
open PySem L2

variable {g : Gx}
variable {bk : Bk}
variable {m : Nat}
variable {bk : Bk} {shs : List Sh} {ds : List PyData}
variable {bk : Bk} {shs : List Sh} {ds : List PyData} {sg tl : List Nat}
local macro_rules | `(tactic| walk_at "gn") => `(tactic| simp only [gName, List.set_cons_zero, List.set_cons_succ])

local macro_rules | `(tactic| walk_at "rd") => `(tactic| simp (config := { failIfUnchanged := false, maxSteps := 10000000 }) only [L2.start, cxOf_K, nox_K, List.map_cons, List.map_nil, List.length_cons, List.length_nil, List.cons_append, List.nil_append, List.replicate_succ, List.replicate_zero, Nat.zero_add, Nat.reduceAdd, Nat.reduceSub, Nat.sub_self, tSeq, tIfS, tTest, tOp, tC, tVar, rI0, rI, rU, tUn, tRet, tRetN, tDrop, tNext, tBreak, tCont, tAsg, gName, gNil, gCons, tCons, tNil, tCB, tCall, tTry, tTryAs, tRaise, sFld, tFld, tMake, tMeth, Ends.gone, caught_K, tB, tAnd, tOr, tNot, tAndV, tOrV, tNotV, tIf, tChain, tNoPart, tPart, tSl, tNever, tAug, rIxL, rIxT, rSlL, tLst, tTup, gTup, tRev, tLZ, tConT, tDict0, tDNewT, tDGet, sDPut, rNotInD, rInD, tEither, tSlStep, rBits, rFind, rIn, tBM, tBM0, rAppend, rReverse, rEq, rNe, scal_ii, scal_ss, rCat, rSetL, gSub, ipI, capSt, List.getD_cons_zero, List.getD_cons_succ, decide_true, not_true_eq_false, not_false_eq_true,
  exists_eq_left', exists_eq_left, exists_eq', exists_eq, exists_and_left, and_assoc, Option.some.injEq, V.int.injEq, V.bl.injEq, V.ref.injEq, V.str.injEq, List.getElem?_cons_zero, List.getElem?_cons_succ, List.set_cons_zero, List.set_cons_succ, List.cons.injEq, and_true, true_and, List.append_nil, decide_eq_true_eq, Bool.not_eq_true', decide_eq_false_iff_not, Bool.not_not, Bool.not_true, Bool.not_false, Bool.true_eq_false, Bool.false_eq_true, if_true, if_false, ite_true, ite_false])

abbrev bk0 : Bk := [([115, 111, 109, 101], .row [])]
theorem some_str : Str.ofString "some" = S [115, 111, 109, 101] := by decide +kernel
theorem bk0_at {K : PySem.W.Frag} {H : Hp} {b t u e : Addr} (hb : H b = some (.lst [.ref t])) (ht : H t = some (.tup [.str (Str.ofString "some"), .ref u])) (hu : H u = some (.tup [.str (Str.ofString "row"), .ref e])) (he : H e = some (.tup [])) : BkAt K H (.ref b) bk0 := by
  refine ⟨b, [t], [.ref u], rfl, SqL.of hb, ⟨rfl, rfl, fun j a m v h1 h2 h3 => ?_⟩, .cons (.row (SqT.of hu) (SqT.of he) .nil (by simp)) .nil⟩
  cases j with
  | zero =>
    have e1 : t = a := by simpa using h1
    have e2 : [115, 111, 109, 101] = m := by simpa using h2
    have e3 : V.ref u = v := by simpa using h3
    subst e1 e2 e3
    rw [← some_str]
    exact SqT.of ht
  | succ j => simp at h1
theorem thg_flat {sh : Sh} {v : V} {d : PyData} (hp : Prt sh) (h : Thg sh v d) : Flat sh d := by
  cases sh with
  | whole lo hi =>
    obtain ⟨n, hn, _, rfl⟩ := h
    have e : hi = lo + 3 := hp
    exact ⟨by omega, by omega, by omega⟩
  | text sg =>
    obtain ⟨l, hl, hz, _, rfl⟩ := h
    exact ⟨l, rfl, by omega, hz, fun z h => hp.2.2 z (hz z h)⟩
  | _ => exact (show False from hp).elim
theorem thg_vl {H : Hp} {sh : Sh} {v : V} {d : PyData} (hp : Prt sh) (h : Thg sh v d) : VL H v d [] := by
  cases sh with
  | whole lo hi => obtain ⟨n, hn, rfl, rfl⟩ := h; exact .int _
  | text sg =>
    obtain ⟨l, hl, hz, rfl, rfl⟩ := h
    exact .str _ (str_ok fun c hc => hp.2.2 c (hz c hc))
  | _ => exact (show False from hp).elim
theorem inV_v0 {H : Hp} {sh : Sh} {v : V} {d : PyData} (hp : Prt sh) (h : Thg sh v d) : V0s H (inV sh d) (stpBy sh d []) := by
  cases sh with
  | whole lo hi => obtain ⟨n, hn, rfl, rfl⟩ := h; exact v0_map V.int PyData.int _ fun x _ => .int x
  | text sg =>
    obtain ⟨l, hl, hz, rfl, rfl⟩ := h
    have hpl : ∀ c ∈ l, c < 1000 := fun c hc => hp.2.2 c (hz c hc)
    show V0s H ((outs (S l).cps.toList).map fun z => V.str (S z)) ((outs (S l).cps.toList).map fun z => PyData.str (S z))
    rw [S_list]
    exact v0_map (fun z => V.str (S z)) (fun z => PyData.str (S z)) _ fun z hz => .str _ (outs_ok hpl z hz)
  | _ => exact (show False from hp).elim
end KW
set_option maxHeartbeats 8000000
namespace KW
open PySem L2

variable {g : Gx}
variable {bk : Bk}
variable {m : Nat}
variable {bk : Bk} {shs : List Sh} {ds : List PyData}
variable {bk : Bk} {shs : List Sh} {ds : List PyData} {sg tl : List Nat}
local macro_rules | `(tactic| walk_at "gn") => `(tactic| simp only [gName, List.set_cons_zero, List.set_cons_succ])

local macro_rules | `(tactic| walk_at "rd") => `(tactic| simp (config := { failIfUnchanged := false, maxSteps := 10000000 }) only [L2.start, cxOf_K, nox_K, List.map_cons, List.map_nil, List.length_cons, List.length_nil, List.cons_append, List.nil_append, List.replicate_succ, List.replicate_zero, Nat.zero_add, Nat.reduceAdd, Nat.reduceSub, Nat.sub_self, tSeq, tIfS, tTest, tOp, tC, tVar, rI0, rI, rU, tUn, tRet, tRetN, tDrop, tNext, tBreak, tCont, tAsg, gName, gNil, gCons, tCons, tNil, tCB, tCall, tTry, tTryAs, tRaise, sFld, tFld, tMake, tMeth, Ends.gone, caught_K, tB, tAnd, tOr, tNot, tAndV, tOrV, tNotV, tIf, tChain, tNoPart, tPart, tSl, tNever, tAug, rIxL, rIxT, rSlL, tLst, tTup, gTup, tRev, tLZ, tConT, tDict0, tDNewT, tDGet, sDPut, rNotInD, rInD, tEither, tSlStep, rBits, rFind, rIn, tBM, tBM0, rAppend, rReverse, rEq, rNe, scal_ii, scal_ss, rCat, rSetL, gSub, ipI, capSt, List.getD_cons_zero, List.getD_cons_succ, decide_true, not_true_eq_false, not_false_eq_true,
  exists_eq_left', exists_eq_left, exists_eq', exists_eq, exists_and_left, and_assoc, Option.some.injEq, V.int.injEq, V.bl.injEq, V.ref.injEq, V.str.injEq, List.getElem?_cons_zero, List.getElem?_cons_succ, List.set_cons_zero, List.set_cons_succ, List.cons.injEq, and_true, true_and, List.append_nil, decide_eq_true_eq, Bool.not_eq_true', decide_eq_false_iff_not, Bool.not_not, Bool.not_true, Bool.not_false, Bool.true_eq_false, Bool.false_eq_true, if_true, if_false, ite_true, ite_false])

theorem body_law {k : Nat} {C_Lister : Addr} {C_Stepper : Addr} (F_steps_of : g.Fn k "steps_of" ["book", "shape", "value"] (sp_steps_of g.K)) (F_law_cell_at : g.Fn k "_law_cell_at" ["_law_script", "_law_k"] (sp_law_cell_at g.K)) (F_law_signs : g.Fn k "_law_signs" ["_law_cell", "_law_many"] (sp_law_signs g.K)) (F_law_part : g.Fn k "_law_part" ["_law_cell"] (sp_law_part g.K)) (F_law_thing : g.Fn k "_law_thing" ["_law_part_here", "_law_cell"] (sp_law_thing g.K)) (F_law_inner : g.Fn k "_law_inner" ["_law_part_here", "_law_thing_here"] (sp_law_inner g.K)) (F_law_count : g.Fn k "_law_count" ["_law_parts", "_law_things"] (sp_law_count g.K)) (F_law_alike : g.Fn k "_law_alike" ["_law_found", "_law_parts", "_law_due"] (sp_law_alike g.K)) (b_isinstance : g.mg "isinstance" = none) (b_len : g.mg "len" = none) (b_list : g.mg "list" = none) (b_max : g.mg "max" = none) (b_range : g.mg "range" = none) (b_tuple : g.mg "tuple" = none) (b_zip : g.mg "zip" = none) : Body g k ["_law_script", "_law_book", "_law_signs_here", "_law_many", "_law_near", "_law_text", "_law_found", "_law_cells", "_law_parts", "_law_things", "_law_due", "_law_k", "_law_less", "_law_shape", "_law_head", "_law_tail"] "law" s_law (spTrue g.K) := by
  refine fun f_ cdv A outer s H vs Q E hr h => ?_
  obtain ⟨a, ns, rfl, hS, hl, q⟩ := h
  refine ⟨_, (pss_cons (ps_set (i := 1) sc_law.nd rfl (Or.inl rfl) (pe_lst (pa_cons (pe_tup (pa_cons pe_str (pa_cons (pe_tup (pa_cons pe_str (pa_cons (pe_tup pa_nil) pa_nil))) pa_nil))) pa_nil)))
      (pss_cons (ps_set (i := 2) sc_law.nd rfl (Or.inr rfl) (pe_fn F_law_signs hr (pa_cons (pe_fn F_law_cell_at hr (pa_cons (pv 0) (pa_cons pe_int pa_nil))) (pa_cons (pe_op op_add pe_int (pe_op op_mod (pe_fn F_law_cell_at hr (pa_cons (pv 0) (pa_cons pe_int pa_nil))) pe_int)) pa_nil))))
      (pss_cons (ps_set (i := 3) sc_law.nd rfl (Or.inl rfl) (pe_op op_mod (pe_fn F_law_cell_at hr (pa_cons (pv 0) (pa_cons pe_int pa_nil))) pe_int))
      (pss_cons (ps_set (i := 4) sc_law.nd rfl (Or.inr rfl) (pe_fn F_law_cell_at hr (pa_cons (pv 0) (pa_cons pe_int pa_nil))))
      (pss_cons (ps_set (i := 5) sc_law.nd rfl (Or.inr rfl) (pe_bm PySem.F.plainAttrs_str PySem.F.slot_str_join PySem.F.type_str_join mt_join pe_str (pa_cons (pe_lc (g := gName 0) (src := [none, some 2, some 4]) (N' := (["_law_k", "_law_signs_here", "_law_near"] : List Str)) (.own (.cap (i := 2) rfl rfl (by first | exact Or.inl rfl | exact Or.inr rfl) (.cap (i := 4) rfl rfl (by first | exact Or.inl rfl | exact Or.inr rfl) .nil))) rfl (pi_range1 rfl b_range (pa_cons (pv 3) pa_nil)) (fun cl C s₀ H₀ fp pn => (pg_name (i := 0) (show List.Nodup (["_law_k", "_law_signs_here", "_law_near"] : List Str) by decide +kernel) rfl (Or.inl rfl) (Or.inr rfl))) (fun cl C s₀ H₀ fp pn => pts_nil) (fun cl C s₀ H₀ fp pn => (pe_ix ix_str (pv 1) (pe_op op_mod (pe_op op_mod (pe_op op_mulC (pv 2) (pe_op op_add (pe_op op_mulC (pv 0) (pv 0)) pe_int)) pe_int) (pe_bf b_len call_len_str (pa_cons (pv 1) pa_nil))) (fun _ _ => rfl))) (by intro x hx; simp at hx; first | (subst hx; exact Or.inl rfl) | (rcases hx with rfl | rfl <;> exact Or.inl rfl) | (rcases hx with rfl | rfl | rfl <;> exact Or.inl rfl))) pa_nil)))
      (pss_cons (ps_set (i := 6) sc_law.nd rfl (Or.inl rfl) (pe_fn F_steps_of hr (pa_cons (pv 1) (pa_cons (pe_tup (pa_cons pe_str (pa_cons (pv 2) pa_nil))) (pa_cons (pv 5) pa_nil)))))
      (pss_cons (ps_if (pw_or (pt_not (pt_val (pe_bf b_isinstance call_isinst (pa_cons (pv 6) (pa_cons (pe_bn (T := "list") b_list) pa_nil))))) (pw_or1 (pt_cmpR (op_neD hr.units) (pv 6) (pe_lc (g := gName 0) (src := [none, some 5]) (N' := (["_law_k", "_law_text"] : List Str)) (.own (.cap (i := 5) rfl rfl (by first | exact Or.inl rfl | exact Or.inr rfl) .nil)) rfl (pi_range1 rfl b_range (pa_cons (pv 3) pa_nil)) (fun cl C s₀ H₀ fp pn => (pg_name (i := 0) (show List.Nodup (["_law_k", "_law_text"] : List Str) by decide +kernel) rfl (Or.inl rfl) (Or.inr rfl))) (fun cl C s₀ H₀ fp pn => pts_nil) (fun cl C s₀ H₀ fp pn => (pe_op op_add_str (pe_slice sl_str (pv 1) po_none (po_some (pv 0))) (pe_slice sl_str (pv 1) (po_some (pe_op op_add (pv 0) pe_int)) po_none))) (by intro x hx; simp at hx; first | (subst hx; exact Or.inl rfl) | (rcases hx with rfl | rfl <;> exact Or.inl rfl) | (rcases hx with rfl | rfl | rfl <;> exact Or.inl rfl))) (nomark _)))).pt (pss_one (ps_ret pe_bl)) pss_nil)
      (pss_cons (ps_set (i := 7) sc_law.nd rfl (Or.inl rfl) (pe_op op_cat (pe_slice sl_list (pv 0) (po_some pe_int) (po_some pe_int)) (pe_lc (g := gName 0) (src := [none, some 4]) (N' := (["_law_k", "_law_near"] : List Str)) (.own (.cap (i := 4) rfl rfl (by first | exact Or.inl rfl | exact Or.inr rfl) .nil)) rfl (pi_range1 rfl b_range (pa_cons pe_int pa_nil)) (fun cl C s₀ H₀ fp pn => (pg_name (i := 0) (show List.Nodup (["_law_k", "_law_near"] : List Str) by decide +kernel) rfl (Or.inl rfl) (Or.inr rfl))) (fun cl C s₀ H₀ fp pn => pts_nil) (fun cl C s₀ H₀ fp pn => (pe_op op_mod (pe_op op_mulC (pe_op op_add (pv 1) (pe_op op_mulC (pe_op op_mulC pe_int (pv 0)) (pv 0))) pe_int) pe_int)) (by intro x hx; simp at hx; first | (subst hx; exact Or.inl rfl) | (rcases hx with rfl | rfl <;> exact Or.inl rfl) | (rcases hx with rfl | rfl | rfl <;> exact Or.inl rfl)))))
      (pss_cons (ps_set (i := 7) sc_law.nd rfl (Or.inl rfl) (pe_slice sl_list (pv 7) po_none (po_some (pe_bf b_max (call_max2 rfl) (pa_cons (pe_bf b_len call_len_seq (pa_cons (pe_slice sl_list (pv 0) (po_some pe_int) (po_some pe_int)) pa_nil)) (pa_cons (pe_op op_mod (pv 4) pe_int) pa_nil))))))
      (pss_cons (ps_setC (i := 8) sc_law.nd rfl (Or.inl rfl) (g := gName 0) (src := [none]) (N' := (["_law_cell"] : List Str)) (.own .nil) rfl (pi_list (pv 7)) (fun cl C s₀ H₀ fp pn => (pg_name (i := 0) (show List.Nodup (["_law_cell"] : List Str) by decide +kernel) rfl (Or.inl rfl) (Or.inr rfl))) (fun cl C s₀ H₀ fp pn => pts_nil) (fun cl C s₀ H₀ fp pn => (pe_fn F_law_part hr (pa_cons (pv 0) pa_nil))) (by intro x hx; simp at hx))
      (pss_cons (ps_setC (i := 9) sc_law.nd rfl (Or.inl rfl) (g := gTup g.K 2 (gCons (gName 0) (gCons (gName 1) gNil))) (src := [none, none]) (N' := (["_law_part_here", "_law_cell"] : List Str)) (.own (.own .nil)) rfl (pi_zipL rfl b_zip (pa_cons (pv 8) (pa_cons (pv 7) pa_nil))) (fun cl C s₀ H₀ fp pn => (pg_tup (n := 2) rfl (pgs_cons (pg_name (i := 0) (show List.Nodup (["_law_part_here", "_law_cell"] : List Str) by decide +kernel) rfl (Or.inl rfl) (Or.inr rfl)) (pgs_cons (pg_name (i := 1) (show List.Nodup (["_law_part_here", "_law_cell"] : List Str) by decide +kernel) rfl (Or.inl rfl) (Or.inr rfl)) pgs_nil)))) (fun cl C s₀ H₀ fp pn => pts_nil) (fun cl C s₀ H₀ fp pn => (pe_fn F_law_thing hr (pa_cons (pv 0) (pa_cons (pe_op op_fdivL (pv 1) pe_int) pa_nil)))) (by intro x hx; simp at hx))
      (pss_cons (ps_set (i := 10) sc_law.nd rfl (Or.inl rfl) (pe_lst pa_nil))
      (pss_cons (ps_for PassesOwn.never rfl (pi_range1 rfl b_range (pa_cons (pe_bf b_len call_len_seq (pa_cons (pv 8) pa_nil)) pa_nil)) (pg_name (i := 11) sc_law.nd rfl (Or.inl rfl)) (pss_one (ps_for PassesOwn.never rfl (pi_list (pe_fn F_law_inner hr (pa_cons (pe_ix ix_list (pv 8) (pv 11) (fun _ _ => rfl)) (pa_cons (pe_ix ix_list (pv 9) (pv 11) (fun _ _ => rfl)) pa_nil)))) (pg_name (i := 12) sc_law.nd rfl (Or.inl rfl)) (pss_one (ps_expr (pe_bm PySem.F.plainAttrs_list PySem.F.slot_list_append PySem.F.type_list_append mt_append (pv 10) (pa_cons (pe_bt b_tuple call_tuple_of (pa_cons (pe_op op_cat (pe_op op_cat (pe_slice sl_list (pv 9) po_none (po_some (pv 11))) (pe_lst (pa_cons (pv 12) pa_nil))) (pe_slice sl_list (pv 9) (po_some (pe_op op_add (pv 11) pe_int)) po_none)) pa_nil)) pa_nil)))))))
      (pss_cons (ps_set (i := 13) sc_law.nd rfl (Or.inl rfl) (pe_tup (pa_cons pe_str (pa_cons (pe_bt b_tuple call_tuple_of (pa_cons (pv 8) pa_nil)) pa_nil))))
      (pss_cons (ps_if (pt_not (pt_val (pe_fn F_law_alike hr (pa_cons (pe_fn F_steps_of hr (pa_cons (pv 1) (pa_cons (pv 13) (pa_cons (pe_bt b_tuple call_tuple_of (pa_cons (pv 9) pa_nil)) pa_nil)))) (pa_cons (pv 8) (pa_cons (pv 10) pa_nil)))))) (pss_one (ps_ret pe_bl)) pss_nil)
      (pss_cons (ps_set (i := 14) sc_law.nd rfl (Or.inr rfl) (pe_bt b_tuple call_tuple_of (pa_cons (pe_slice sl_list (pv 9) po_none (po_some pe_int)) pa_nil)))
      (pss_cons (ps_set (i := 15) sc_law.nd rfl (Or.inr rfl) (pe_slice sl_str (pv 5) po_none (po_some pe_int)))
      (pss_cons (ps_setC (i := 10) sc_law.nd rfl (Or.inl rfl) (g := gName 0) (src := [none, some 15]) (N' := (["_law_step", "_law_tail"] : List Str)) (.own (.cap (i := 15) rfl rfl (by first | exact Or.inl rfl | exact Or.inr rfl) .nil)) rfl (pi_list (pe_slice sl_list (pv 10) po_none (po_some (pe_fn F_law_count hr (pa_cons (pe_slice sl_list (pv 8) po_none (po_some pe_int)) (pa_cons (pe_slice sl_list (pv 9) po_none (po_some pe_int)) pa_nil)))))) (fun cl C s₀ H₀ fp pn => (pg_name (i := 0) (show List.Nodup (["_law_step", "_law_tail"] : List Str) by decide +kernel) rfl (Or.inl rfl) (Or.inr rfl))) (fun cl C s₀ H₀ fp pn => pts_nil) (fun cl C s₀ H₀ fp pn => (pe_tup (pa_cons (pe_slice (sl_tup2K (K := g.K)) (pv 0) po_none (po_some pe_int)) (pa_cons (pv 1) pa_nil)))) (by intro x hx; simp at hx; first | (subst hx; exact Or.inl rfl) | (rcases hx with rfl | rfl <;> exact Or.inl rfl) | (rcases hx with rfl | rfl | rfl <;> exact Or.inl rfl)))
      (pss_cons (ps_set (i := 10) sc_law.nd rfl (Or.inl rfl) (pe_op op_cat (pv 10) (pe_lc (g := gName 0) (src := [none, some 14, some 15]) (N' := (["_law_k", "_law_head", "_law_tail"] : List Str)) (.own (.cap (i := 14) rfl rfl (by first | exact Or.inl rfl | exact Or.inr rfl) (.cap (i := 15) rfl rfl (by first | exact Or.inl rfl | exact Or.inr rfl) .nil))) rfl (pi_range1 rfl b_range (pa_cons (pe_bf b_len call_len_str (pa_cons (pv 15) pa_nil)) pa_nil)) (fun cl C s₀ H₀ fp pn => (pg_name (i := 0) (show List.Nodup (["_law_k", "_law_head", "_law_tail"] : List Str) by decide +kernel) rfl (Or.inl rfl) (Or.inr rfl))) (fun cl C s₀ H₀ fp pn => pts_nil) (fun cl C s₀ H₀ fp pn => (pe_tup (pa_cons (pv 1) (pa_cons (pe_op op_add_str (pe_slice sl_str (pv 2) po_none (po_some (pv 0))) (pe_slice sl_str (pv 2) (po_some (pe_op op_add (pv 0) pe_int)) po_none)) pa_nil)))) (by intro x hx; simp at hx; first | (subst hx; exact Or.inl rfl) | (rcases hx with rfl | rfl <;> exact Or.inl rfl) | (rcases hx with rfl | rfl | rfl <;> exact Or.inl rfl)))))
      (pss_cons (ps_set (i := 6) sc_law.nd rfl (Or.inl rfl) (pe_fn F_steps_of hr (pa_cons (pv 1) (pa_cons (pe_tup (pa_cons pe_str (pa_cons (pe_tup (pa_cons (pe_tup (pa_cons pe_str (pa_cons (pe_bt b_tuple call_tuple_of (pa_cons (pe_slice sl_list (pv 8) po_none (po_some pe_int)) pa_nil)) pa_nil))) (pa_cons (pe_tup (pa_cons pe_str (pa_cons (pv 2) pa_nil))) pa_nil))) pa_nil))) (pa_cons (pe_tup (pa_cons (pv 14) (pa_cons (pv 15) pa_nil))) pa_nil)))))
      (pss_one (ps_ret (pe_and (pe_bf b_isinstance call_isinst (pa_cons (pv 6) (pa_cons (pe_bn (T := "list") b_list) pa_nil))) (pe_one (pe_cmpR (op_eqD hr.units) (pv 6) (pv 10) (nomark _)))))))))))))))))))))))))), ?_⟩
  refine cut4 (fun σ H' => ∃ (b : Addr) (sg : List Nat) (m : Nat) (r : Int), σ = [some (.ref a), some (.ref b), some (.str (S sg)), some (.int m), some (.int r), none, none, none, none, none, none, none, none, none, none, none] ∧ m ≤ 16 ∧ 1 ≤ sg.length ∧ sg.length ≤ 62 ∧ (∀ z ∈ sg, z < 1000) ∧ Same H H' ∧ BkAt g.K H' (.ref b) bk0) ?_ (fun N hN => ?_)
  rotate_left
  · walk_at "rd"
    refine ⟨few (by decide), fun e he => ⟨few (by decide), fun u hu => ⟨few (by decide), fun t ht => ⟨few (by decide), fun b hb => ?_⟩⟩⟩⟩
    have s1 := Same.upd_new he (.tup [])
    have s2 := Same.upd_new hu (.tup [V.str (Str.ofString "row"), V.ref e])
    have s3 := Same.upd_new ht (.tup [V.str (Str.ofString "some"), V.ref u])
    have s4 := Same.upd_new hb (.lst [V.ref t])
    have sa := ((s1.trans s2).trans s3).trans s4
    have hbk := bk0_at (K := g.K) (b := b) (t := t) (u := u) (e := e) upd_same (s4 _ _ upd_same) ((s3.trans s4) _ _ upd_same) (((s2.trans s3).trans s4) _ _ upd_same)
    have hS1 := sa.seq hS
    obtain ⟨r, hr1, hr2⟩ := mod_nat (ns.getD 1 0) (j := 62) (by decide)
    obtain ⟨m, hm1, hm2⟩ := mod_nat (ns.getD 2 0) (j := 17) (by decide)
    refine ⟨a, ns, 0, rfl, hS1, hl, a, ns, 1, rfl, hS1, hl, _, rfl, by decide, _, 1 + r, by rw [hr1, Int.natCast_add]; rfl, by omega, fun sg H1 s5 hsl hsz => ⟨a, ns, 2, rfl, s5.seq hS1, hl, _, rfl, by decide, a, ns, 3, rfl, s5.seq hS1, hl, hN _ _ ⟨b, sg, m, _, by rw [hm1], by omega, by omega, by omega, hsz, sa.trans s5, hbk.keep s5⟩⟩⟩
  rintro σ H1 ⟨b, sg, m, r, rfl, hm, hs1, hs2, hsz, s1, hbk⟩
  refine cut1 (fun σ H' => ∃ (l : List Nat), σ = [some (.ref a), some (.ref b), some (.str (S sg)), some (.int m), some (.int r), some (.str (S l)), none, none, none, none, none, none, none, none, none, none] ∧ l.length = m ∧ (∀ z ∈ l, z ∈ sg) ∧ Same H1 H') ?_ (fun N hN => ?_)
  rotate_left
  · walk_at "rd"
    refine ⟨rfl, ?_⟩
    refine tLC_rangeI (n := m) (fun F i zs H' => Same H1 H' ∧ H' F = some (.lst zs) ∧ ∃ cs : List Nat, zs = cs.map (fun c => V.str (S [c])) ∧ cs.length = i ∧ ∀ z ∈ cs, z ∈ sg) (fun R r => by walk_at "rd"; exact r) (by omega) ?_ ?_ ?_ ?_
    · intro F hF
      exact ⟨.upd_new hF _, upd_same, [], rfl, rfl, fun z hz => absurd hz (by simp)⟩
    · rintro F i zs H' ⟨sm, hd, cs, rfl, he, _⟩
      exact ⟨by rw [List.length_map]; exact he, hd⟩
    · rintro F i zs H' hF hi ⟨sm, hd, cs, rfl, he, hc⟩ R rr
      walk_at "rd"
      obtain ⟨x, hx1, hx2⟩ := mod_nat (r * ((i : Int) * (i : Int) + 1) % 1009) (j := (sg.length : Int)) (by omega)
      have hx3 : sg[x]? = some (sg[x]'(by omega)) := List.getElem?_eq_getElem _
      have hii : i * i ≤ 16 * 16 := Nat.mul_le_mul (by omega) (by omega)
      have hii' : (i : Int) * (i : Int) = ((i * i : Nat) : Int) := (Int.natCast_mul i i).symm
      refine ⟨.inl (cm (m := 8) (n := 8) (by rw [Int.natAbs_natCast]; omega) (by rw [Int.natAbs_natCast]; omega)), .inr (.inr (by rw [hii']; constructor <;> omega)), by decide, by rw [S_len]; exact few (by omega), by rw [S_len]; omega, ?_⟩
      rw [S_len, hx1]
      refine ⟨_, _, sg[x]'(by omega), rfl, rfl, by rw [S_len]; exact few (by omega), by rw [S_list]; exact atI_nat hx3, rr _ _ hd ⟨.upd_over hF sm _, upd_same, cs ++ [_], by rw [List.map_append]; rfl, by rw [List.length_append, he]; rfl, fun z hz => ?_⟩⟩
      rcases List.mem_append.mp hz with h | h
      · exact hc z h
      · rw [List.mem_singleton.mp h]; exact List.mem_of_getElem? hx3
    · rintro F zs H' hF ⟨sm, hd, cs, rfl, he, hc⟩
      refine ⟨"", F, cs.map fun c => S [c], rfl, rfl, by rw [List.map_map]; exact SqL.of hd, signs_sum cs (by omega), ?_⟩
      rw [join_signs]
      exact hN _ _ ⟨cs, rfl, he, hc, sm⟩
  rintro σ H2 ⟨l, rfl, hll, hlz, s2⟩
  refine cut2 (fun σ H' => ∃ (o : Option V), σ = [some (.ref a), some (.ref b), some (.str (S sg)), some (.int m), some (.int r), some (.str (S l)), o, none, none, none, none, none, none, none, none, none] ∧ Same H2 H') ?_ (fun N hN => ?_)
  rotate_left
  · walk_at "rd"
    refine ⟨few (by decide), fun p hp => ?_⟩
    have u1 := Same.upd_new hp (.tup [V.str (Str.ofString "text"), V.str (S sg)])
    have hf := text_flat (by omega) hlz hsz
    obtain ⟨nn, hnn⟩ := hf.jd (bk := bk0) 4
    refine ⟨.ref b, .ref p, .str (S l), bk0, .text sg, .str (S l), nn, rfl, hbk.keep (s2.trans u1), .text (SqT.of upd_same) (by omega), hf.enf 4, .str l (str_ok fun c hc => hsz c (hlz c hc)) (by omega), hnn, hf.okl 3, ?_, fun v' L H3 s3 hv => ?_⟩
    · rw [hf.stp, PyData.depth]
      have := depthAll_le (k := 1) fun e he => flat_depth (hf.flat [] e he)
      omega
    · have ty := vl_ty (K := g.K) hv
      refine ⟨_, rfl, _, ty, true, rfl, iteN (by decide) ?_⟩
      rw [hf.stp] at hv
      refine tLC_range1 (n := m) ((outs l).map fun z => V.str (S z)) (fun R r => by walk_at "rd"; exact r) (by simp [outs, hll]) (by omega) ?_ ?_
      · intro i y H' hi hy sm R rr
        walk_at "rd"
        have hy' : V.str (S (l.take i ++ l.drop (i + 1))) = y := by
          rw [List.getElem?_map, outs, List.getElem?_map, List.getElem?_range (by omega)] at hy
          exact Option.some.inj hy
        refine ⟨_, rfl, by rw [S_len]; exact few (by omega), _, rfl, by rw [S_len]; exact few (by omega), _, rfl, _, rfl, ?_, ?_⟩
        · rw [cutS_hi, show ((i : Int) + 1) = ((i + 1 : Nat) : Int) by omega, cutS_lo, S_len, S_len, List.length_take, List.length_drop]
          exact few (by omega)
        · rw [cutS_hi, show ((i : Int) + 1) = ((i + 1 : Nat) : Int) by omega, cutS_lo, S_app, hy']
          exact rr H' (.refl _)
      · intro D H' hD sm hd
        have hpl : ∀ c ∈ l, c < 1000 := fun c hc => hsz c (hlz c hc)
        have d1 := (hv.keep sm).den (K := g.K)
        have e1 : stpBy (.text sg) (.str (S l)) [] = (outs l).map fun z => PyData.str (S z) := by
          show (outs (S l).cps.toList).map _ = _
          rw [S_list]
        have d2 : Den g.K H' (.ref D) (.list (stpBy (.text sg) (.str (S l)) [])) := by
          rw [e1]
          exact .lst (SqL.of hd) (v0_map (H := H') (fun z => V.str (S z)) (fun z => PyData.str (S z)) _ fun z hz => .str _ (outs_ok hpl z hz)).vls.den
        refine ⟨_, d1, _, d2, ?_, ?_⟩
        · rw [PyData.depth]
          have := depthAll_le (k := 1) fun e he => flat_depth (hf.flat [] e he)
          omega
        · rw [PySem.SeqAt.eqv_refl _ d1.lay]
          exact iteN (by decide) (hN _ _ ⟨_, rfl, (u1.trans s3).trans sm⟩)
  rintro σ H3 ⟨o, rfl, s3⟩
  refine cut2 (fun σ H' => ∃ (ca : Addr) (cs : List Int), σ = [some (.ref a), some (.ref b), some (.str (S sg)), some (.int m), some (.int r), some (.str (S l)), o, some (.ref ca), none, none, none, none, none, none, none, none] ∧ H' ca = some (.lst (cs.map V.int)) ∧ cs.length ≤ 8 ∧ Same H3 H') ?_ (fun N hN => ?_)
  rotate_left
  · walk_at "rd"
    have hS3 := ((s1.trans s2).trans s3).seq hS
    refine ⟨_, hS3, fun p hp => ?_⟩
    have u1 := Same.upd_new hp (.lst (cutV (ns.map V.int) (some 4) (some 12)))
    have eA : cutV (ns.map V.int) (some 4) (some 12) = ((ns.drop 4).take 8).map V.int := by
      have := cutV_nn (ns.map V.int) 4 12
      rw [show ((4 : Nat) : Int) = 4 from rfl, show ((12 : Nat) : Int) = 12 from rfl] at this
      rw [this, ← List.map_drop, ← List.map_take]
    have lA : ((ns.drop 4).take 8).length ≤ 8 := by rw [List.length_take]; omega
    refine tLC_range1 (n := 8) (((List.range 8).map fun (k : Nat) => (r + 6421 * (k : Int) * (k : Int)) * 48271 % 2147483647).map V.int) (fun R rr => by walk_at "rd"; exact rr) (by simp) (by omega) ?_ ?_
    · intro i y H' hi hy sm R rr
      rw [List.getElem?_map, List.getElem?_map, List.getElem?_range hi] at hy
      have e : V.int ((r + 6421 * (i : Int) * (i : Int)) * 48271 % 2147483647) = y := Option.some.inj hy
      walk_at "rd"
      refine ⟨.inl (cm (m := 16) (n := 8) (by decide) (by rw [Int.natAbs_natCast]; omega)), .inl (cm (m := 24) (n := 8) ?_ (by rw [Int.natAbs_natCast]; omega)), .inr (.inr ⟨by decide, by decide⟩), by decide, by rw [e]; exact rr H' (.refl _)⟩
      rw [show (6421 : Int) * (i : Int) = ((6421 * i : Nat) : Int) by omega, Int.natAbs_natCast]
      omega
    · intro D H' hD sm hd
      have sA := u1.trans sm
      refine ⟨D, rfl, _, sm _ _ upd_same, _, hd, ?_, fun p2 hp2 => ⟨_, (sA.trans (.upd_new hp2 _)).seq hS3, fun p3 hp3 => ⟨_, .inl (SqL.of upd_same), by decide, _, SqL.of ((Same.upd_new hp3 _) _ _ upd_same), fun p4 hp4 => ?_⟩⟩⟩
      · rw [eA, List.length_map, List.length_map, List.length_map, List.length_range]; exact few (by omega)
      · have hk : ∃ k : Nat, (if r % 9 > ((cutV (ns.map V.int) (some 4) (some 12)).length : Int) then r % 9 else ((cutV (ns.map V.int) (some 4) (some 12)).length : Int)) = (k : Int) ∧ k ≤ 8 := by
          rw [eA, List.length_map]
          split
          · exact ⟨(r % 9).toNat, by omega, by omega⟩
          · exact ⟨_, rfl, lA⟩
        obtain ⟨k, hk1, hk2⟩ := hk
        refine hN _ _ ⟨p4, (((ns.drop 4).take 8) ++ ((List.range 8).map fun (k : Nat) => (r + 6421 * (k : Int) * (k : Int)) * 48271 % 2147483647)).take k, rfl, ?_, ?_, ((sA.trans (.upd_new hp2 _)).trans (.upd_new hp3 _)).trans (.upd_new hp4 _)⟩
        · rw [upd_same, hk1, cutV_hi, eA, ← List.map_append, List.map_take]
        · rw [List.length_take]; omega
  rintro σ H4 ⟨ca, cs, rfl, hca, hcl, s4⟩
  refine cut1 (fun σ H' => ∃ (pa : Addr) (xs : List V) (shs : List Sh), σ = [some (.ref a), some (.ref b), some (.str (S sg)), some (.int m), some (.int r), some (.str (S l)), o, some (.ref ca), some (.ref pa), none, none, none, none, none, none, none] ∧ H' pa = some (.lst xs) ∧ xs.length = cs.length ∧ shs.length = cs.length ∧ (∀ (i : Nat) x sh, xs[i]? = some x → shs[i]? = some sh → PrtAt H' x sh ∧ Prt sh) ∧ Same H4 H') ?_ (fun N hN => ?_)
  rotate_left
  · walk_at "rd"
    refine tLC_rel (K := g.K) (xs := cs.map V.int) (fun _ y H' => ∃ sh, PrtAt H' y sh ∧ Prt sh) ?_ ?_ (fun R rr => by walk_at "rd"; exact rr ca H4 (.refl _) (SqL.of hca)) (by rw [List.length_map]; omega) ?_ ?_
    · rintro i y H' H'' ⟨sh, h1, h2⟩ s'
      exact ⟨sh, h1.keep s'.tps, h2⟩
    · rintro i y H' p zs zs' ⟨sh, h1, h2⟩ hz
      exact ⟨sh, h1.keep (Tps.upd_lst hz), h2⟩
    · intro i x H' hx sm R rr
      rw [List.getElem?_map] at hx
      obtain ⟨c, _, rfl⟩ := Option.map_eq_some_iff.mp hx
      walk_at "rd"
      exact ⟨c, rfl, fun x sh H'' s' h1 h2 => rr x H'' s' ⟨sh, h1, h2⟩⟩
    · intro D ys H' hD sm hd hyl hrel
      obtain ⟨shs, hsl, hsh⟩ := list_choice (P := fun y sh => PrtAt H' y sh ∧ Prt sh) ys (fun i z hz => hrel i z hz)
      rw [List.length_map] at hyl
      exact hN _ _ ⟨D, ys, shs, rfl, hd, hyl, by omega, hsh, sm⟩
  rintro σ H5 ⟨pa, xs, shs, rfl, hpa, hxl, hsl, hpr, s5⟩
  have hca5 := s5 _ _ hca
  refine cut1 (fun σ H' => ∃ (ta : Addr), σ = [some (.ref a), some (.ref b), some (.str (S sg)), some (.int m), some (.int r), some (.str (S l)), o, some (.ref ca), some (.ref pa), some (.ref ta), none, none, none, none, none, none] ∧ H' ta = some (.lst ((shs.zip cs).map fun w => thV w.1 (w.2 / 5))) ∧ Same H5 H') ?_ (fun N hN => ?_)
  rotate_left
  · walk_at "rd"
    refine tLC_zipL (K := g.K) (a := pa) (b := ca) (xs := xs) (ys := cs.map V.int) ((shs.zip cs).map fun w => thV w.1 (w.2 / 5)) (fun R rr => by walk_at "rd"; exact rr) (SqL.of hpa) (SqL.of hca5) (by rw [List.length_map]; omega) (by rw [List.length_map, List.length_zip]; omega) (by omega) ?_ ?_
    · intro i x y z H' hx hy hz sm R rr
      rw [List.getElem?_map] at hy
      obtain ⟨c, hc, rfl⟩ := Option.map_eq_some_iff.mp hy
      have hi := (List.getElem?_eq_some_iff.mp hx).1
      have hs : shs[i]? = some (shs[i]'(by omega)) := List.getElem?_eq_getElem _
      have hzz : (shs.zip cs)[i]? = some (shs[i]'(by omega), c) := by rw [List.getElem?_zip_eq_some]; exact ⟨hs, hc⟩
      rw [List.getElem?_map, hzz] at hz
      have e : thV (shs[i]'(by omega)) (c / 5) = z := Option.some.inj hz
      obtain ⟨h1, h2⟩ := hpr i x _ hx hs
      walk_at "rd"
      exact ⟨small_div (by decide) (by decide), x, c / 5, _, rfl, (h1.keep sm.tps).at_ h2, h2, fun H'' s' => by rw [e]; exact rr H'' s'⟩
    · intro D H' hD sm hd
      exact hN _ _ ⟨D, rfl, hd, sm⟩
  rintro σ H6 ⟨ta, rfl, hta, s6⟩
  have hpr6 : ∀ (i : Nat) x sh, xs[i]? = some x → shs[i]? = some sh → PrtAt H6 x sh ∧ Prt sh := fun i x sh h1 h2 => by
    obtain ⟨g1, g2⟩ := hpr i x sh h1 h2
    exact ⟨g1.keep s6.tps, g2⟩
  have hpa6 := s6 _ _ hpa
  generalize hus : (shs.zip cs).map (fun w => thV w.1 (w.2 / 5)) = us at hta
  obtain ⟨ds, hds⟩ : ∃ ds, ds = (shs.zip cs).map fun w => thD w.1 (w.2 / 5) := ⟨_, rfl⟩
  have hul : us.length = shs.length := by rw [← hus, List.length_map, List.length_zip]; omega
  have hdl : ds.length = shs.length := by rw [hds, List.length_map, List.length_zip]; omega
  have hpt : ∀ (i : Nat) x v sh d, xs[i]? = some x → us[i]? = some v → shs[i]? = some sh → ds[i]? = some d → PrtAt H6 x sh ∧ Prt sh ∧ Thg sh v d := fun i x v sh d h1 h2 h3 h4 => by
    obtain ⟨g1, g2⟩ := hpr6 i x sh h1 h3
    have hi := (List.getElem?_eq_some_iff.mp h3).1
    have hc : cs[i]? = some (cs[i]'(by omega)) := List.getElem?_eq_getElem _
    have hzz : (shs.zip cs)[i]? = some (sh, cs[i]'(by omega)) := by rw [List.getElem?_zip_eq_some]; exact ⟨h3, hc⟩
    rw [← hus, List.getElem?_map, hzz] at h2
    rw [hds, List.getElem?_map, hzz] at h4
    have e2 : thV sh (cs[i]'(by omega) / 5) = v := Option.some.inj h2
    have e4 : thD sh (cs[i]'(by omega) / 5) = d := Option.some.inj h4
    subst e2 e4
    exact ⟨g1, g2, thg_of g2 _⟩
  have hv0 : ∀ H' : Hp, V0s H' us ds := fun H' => ⟨by omega, fun i u d h1 h2 => by
    have hi := (List.getElem?_eq_some_iff.mp h1).1
    have h3 : shs[i]? = some (shs[i]'(by omega)) := List.getElem?_eq_getElem _
    have h4 : xs[i]? = some (xs[i]'(by omega)) := List.getElem?_eq_getElem _
    obtain ⟨_, g2, g3⟩ := hpt i _ u _ d h4 h1 h3 h2
    exact thg_vl g2 g3⟩
  obtain ⟨Ls, hLs⟩ : ∃ Ls, Ls = (shs.zip ds).map fun w => stpBy w.1 w.2 [] := ⟨_, rfl⟩
  have hLl : Ls.length = shs.length := by rw [hLs, List.length_map, List.length_zip]; omega
  refine cut2 (fun σ H' => ∃ (du : Addr) (rs : List V) (o11 o12 : Option V), σ = [some (.ref a), some (.ref b), some (.str (S sg)), some (.int m), some (.int r), some (.str (S l)), o, some (.ref ca), some (.ref pa), some (.ref ta), some (.ref du), o11, o12, none, none, none] ∧ H' du = some (.lst rs) ∧ V0s H' rs ((chg ds 0 Ls).map PyData.tuple) ∧ Same H6 H') ?_ (fun N hN => ?_)
  rotate_left
  · walk_at "rd"
    refine ⟨few (by decide), fun du hdu => ?_⟩
    have u0 := Same.upd_new hdu (.lst [])
    refine tFor_range1 (n := shs.length) (fun i σ H' => ∃ (rs : List V) (o11 o12 : Option V), σ = [some (.ref a), some (.ref b), some (.str (S sg)), some (.int m), some (.int r), some (.str (S l)), o, some (.ref ca), some (.ref pa), some (.ref ta), some (.ref du), o11, o12, none, none, none] ∧ H' du = some (.lst rs) ∧ V0s H' rs ((chg ds 0 (Ls.take i)).map PyData.tuple) ∧ rs.length ≤ 1000 * i ∧ Same H6 H') (fun R rr => ?_) (by omega) ⟨[], none, none, rfl, upd_same, .nil, Nat.zero_le _, u0⟩ ?_ ?_
    · walk_at "rd"
      refine ⟨xs, .inl (SqL.of (u0 _ _ hpa6)), ?_⟩
      rw [show xs.length = shs.length by omega]
      exact rr
    · rintro i σ H' hi ⟨rs, o11, o12, rfl, hrs, hrv, hrl, sm⟩
      walk_at "rd"
      have hx : xs[i]? = some (xs[i]'(by omega)) := List.getElem?_eq_getElem _
      have hu : us[i]? = some (us[i]'(by omega)) := List.getElem?_eq_getElem _
      have hs : shs[i]? = some (shs[i]'(by omega)) := List.getElem?_eq_getElem _
      have hd : ds[i]? = some (ds[i]'(by omega)) := List.getElem?_eq_getElem _
      have hzz : (shs.zip ds)[i]? = some (shs[i]'(by omega), ds[i]'(by omega)) := by rw [List.getElem?_zip_eq_some]; exact ⟨hs, hd⟩
      have hL : Ls[i]? = some (stpBy (shs[i]'(by omega)) (ds[i]'(by omega)) []) := by simp only [hLs, List.getElem?_map, hzz]; rfl
      obtain ⟨g1, g2, g3⟩ := hpt i _ _ _ _ hx hu hs hd
      have hvi := fun H' => inV_v0 (H := H') g2 g3
      have hfl := (thg_flat g2 g3).len []
      generalize shs[i]'(by omega) = sh at hs hzz hL g1 g2 g3 hvi hfl
      generalize ds[i]'(by omega) = d at hd hzz hL g3 hvi hfl
      have hvl := (hvi H').1
      refine tFor_listN (K := g.K) (xs := inV sh d) (fun c j σ H2 => ∃ (rs' : List V) (o12 : Option V), σ = [some (.ref a), some (.ref b), some (.str (S sg)), some (.int m), some (.int r), some (.str (S l)), o, some (.ref ca), some (.ref pa), some (.ref ta), some (.ref du), some (.int i), o12, none, none, none] ∧ H2 c = some (.lst (inV sh d)) ∧ c ≠ du ∧ H2 du = some (.lst rs') ∧ V0s H2 rs' ((chg ds 0 (Ls.take i)).map PyData.tuple ++ ((stpBy sh d []).take j).map fun s => PyData.tuple (ds.take i ++ [s] ++ ds.drop (i + 1))) ∧ rs'.length ≤ 1000 * i + j ∧ Same H6 H2) (fun R rr => ?_) (fun c j σ H2 _ ⟨_, _, _, h, _⟩ => SqL.of h) ?_ ?_
      · walk_at "rd"
        exact ⟨_, SqL.of (sm _ _ hpa6), _, atI_nat hx, _, SqL.of (sm _ _ hta), _, atI_nat hu, _, _, sh, d, rfl, (g1.keep sm.tps).at_ g2, g2, g3, fun D H2 s2 hD hd2 => rr D H2 ⟨rs, o12, rfl, hd2, Ne.symm (ne_of_none hrs hD), s2 _ _ hrs, by rw [List.take_zero, List.map_nil, List.append_nil]; exact hrv.keep s2.tps, by omega, sm.trans s2⟩⟩
      · rintro c j x2 σ H2 hx2 ⟨rs', o12', rfl, e1, e2, e3, e4, e5, e6⟩
        obtain ⟨s, hsj, hxs⟩ := (hvi H2).at hx2
        walk_at "rd"
        have c1 : (cutV us none (some (i : Int))).length ≤ us.length := cutV_length _ _ _
        have c2 : (cutV us (some ((i : Int) + 1)) none).length ≤ us.length := cutV_length _ _ _
        refine ⟨.inl ⟨rfl, _, SqL.of e3⟩, us, SqL.of (e6 _ _ hta), fun p hp => ⟨few (by decide), fun p1 hp1 => ?_⟩⟩
        have w1 := Same.upd_new hp (.lst (cutV us none (some (i : Int))))
        have w2 := Same.upd_new hp1 (.lst [x2])
        refine ⟨_, w2 _ _ upd_same, _, upd_same, by rw [List.length_singleton]; exact few (by omega), fun p2 hp2 => ?_⟩
        have w3 := Same.upd_new hp2 (.lst (cutV us none (some (i : Int)) ++ [x2]))
        refine ⟨us, SqL.of (((w1.trans w2).trans w3) _ _ (e6 _ _ hta)), fun p3 hp3 => ?_⟩
        have w4 := Same.upd_new hp3 (.lst (cutV us (some ((i : Int) + 1)) none))
        refine ⟨_, w4 _ _ upd_same, _, upd_same, by rw [List.length_append, List.length_singleton]; exact few (by omega), fun p4 hp4 => ?_⟩
        have w5 := Same.upd_new hp4 (.lst (cutV us none (some (i : Int)) ++ [x2] ++ cutV us (some ((i : Int) + 1)) none))
        refine ⟨_, .inl ⟨SqL.of upd_same, fun t ht => ?_⟩⟩
        have w6 := Same.upd_new ht (.tup (cutV us none (some (i : Int)) ++ [x2] ++ cutV us (some ((i : Int) + 1)) none))
        have wa := ((((w1.trans w2).trans w3).trans w4).trans w5).trans w6
        have hj := (List.getElem?_eq_some_iff.mp hx2).1
        have key : ∀ Hn : Hp, Same H2 Hn → Hn t = some (.tup (cutV us none (some (i : Int)) ++ [x2] ++ cutV us (some ((i : Int) + 1)) none)) → ∃ x, Hn du = some (.lst x) ∧ x.length < sizeLine ∧ upd Hn du (.lst (x ++ [.ref t])) c = some (.lst (inV sh d)) ∧ c ≠ du ∧ ∃ x1, upd Hn du (.lst (x ++ [.ref t])) du = some (.lst x1) ∧ V0s (upd Hn du (.lst (x ++ [.ref t]))) x1 ((chg ds 0 (Ls.take i)).map PyData.tuple ++ ((stpBy sh d []).take (j + 1)).map fun s => PyData.tuple (ds.take i ++ [s] ++ ds.drop (i + 1))) ∧ x1.length ≤ 1000 * i + (j + 1) ∧ Same H6 (upd Hn du (.lst (x ++ [.ref t]))) := by
          intro Hn sn hn
          have tps : Tps Hn (upd Hn du (.lst (rs' ++ [.ref t]))) := Tps.upd_lst (sn _ _ e3)
          refine ⟨rs', sn _ _ e3, few (by omega), by rw [upd_ne e2]; exact sn _ _ e1, e2, rs' ++ [.ref t], upd_same, ?_, by rw [List.length_append, List.length_singleton]; omega, .upd_over hdu (e6.trans sn) _⟩
          rw [take_snoc hsj, List.map_append, ← List.append_assoc]
          refine V0s.append ((e4.keep sn.tps).keep tps) (V0s.one ?_)
          refine .tup (tps _ _ hn) (by rw [List.length_append, List.length_append, List.length_singleton]; omega) ?_
          rw [cutV_hi, show ((i : Int) + 1) = ((i + 1 : Nat) : Int) by omega, cutV_lo]
          exact ((((hv0 _).take i).append (.one ((hvi _).2 j x2 s hx2 hsj))).append ((hv0 _).drop (i + 1))).vls
        exact key _ wa upd_same
      · rintro c σ H2 ⟨rs', o12', rfl, e1, e2, e3, e4, e5, e6⟩
        refine ⟨rs', _, _, rfl, e3, ?_, by omega, e6⟩
        rw [chg_snoc ds hL, List.map_append, List.map_map]
        rw [hvl, List.take_length] at e4
        exact e4
    · rintro σ H' ⟨rs, o11, o12, rfl, hrs, hrv, hrl, sm⟩
      rw [← hLl, List.take_length] at hrv
      exact hN _ _ ⟨du, rs, o11, o12, rfl, hrs, hrv, sm⟩
  rintro σ H7 ⟨du, rs, o11, o12, rfl, hrs, hrv, s7⟩
  have hfl : ∀ w ∈ shs.zip ds, Flat w.1 w.2 := fun w hw => by
    obtain ⟨i, hi, e⟩ := List.getElem_of_mem hw
    have hw' : (shs.zip ds)[i]? = some w := by rw [List.getElem?_eq_getElem hi, e]
    obtain ⟨h1, h2⟩ := List.getElem?_zip_eq_some.mp hw'
    have hi' := (List.getElem?_eq_some_iff.mp h1).1
    obtain ⟨_, g2, g3⟩ := hpt i (xs[i]'(by omega)) (us[i]'(by omega)) w.1 w.2 (List.getElem?_eq_getElem _) (List.getElem?_eq_getElem _) h1 h2
    exact thg_flat g2 g3
  have h8 : shs.length ≤ 8 := by omega
  have hxS : ∀ (H' : Hp) (k : Nat), Same H6 H' → ShAts g.K H' (xs.take k) (shs.take k) := fun H' k s' => shats_of (by rw [List.length_take, List.length_take]; omega) fun i x sh h1 h3 => by
    rw [List.getElem?_take] at h1 h3
    split at h1
    · rename_i c
      rw [if_pos c] at h3
      obtain ⟨g1, g2⟩ := hpr6 i x sh h1 h3
      exact (g1.keep s'.tps).at_ g2
    · cases h1
  have hvd : ∀ (H' : Hp) (k : Nat), Vds H' (us.take k) (ds.take k) := fun H' k => vds_of (by rw [List.length_take, List.length_take]; omega) fun i u d h1 h2 => by
    rw [List.getElem?_take] at h1 h2
    split at h1
    · rename_i c
      rw [if_pos c] at h2
      have hi := (List.getElem?_eq_some_iff.mp h1).1
      obtain ⟨_, g2, g3⟩ := hpt i (xs[i]'(by omega)) u (shs[i]'(by omega)) d (List.getElem?_eq_getElem _) h1 (List.getElem?_eq_getElem _) h2
      exact thg_vd g2 g3
    · cases h1
  refine cut2 (fun σ H' => ∃ (o13 : Option V), σ = [some (.ref a), some (.ref b), some (.str (S sg)), some (.int m), some (.int r), some (.str (S l)), o, some (.ref ca), some (.ref pa), some (.ref ta), some (.ref du), o11, o12, o13, none, none] ∧ Same H7 H') ?_ (fun N hN => ?_)
  rotate_left
  · walk_at "rd"
    refine ⟨xs, .inl ⟨SqL.of (s7 _ _ hpa6), fun tp htp => ⟨few (by decide), fun p hp => ?_⟩⟩⟩
    have u1 := Same.upd_new htp (.tup xs)
    have u2 := Same.upd_new hp (.tup [V.str (Str.ofString "row"), V.ref tp])
    refine ⟨us, .inl ⟨SqL.of ((u1.trans u2) _ _ (s7 _ _ hta)), fun tt htt => ?_⟩⟩
    have u3 := Same.upd_new htt (.tup us)
    have s7' := (u1.trans u2).trans u3
    obtain ⟨nn, hnn⟩ := row_jd (bk := bk0) hdl hfl 3
    have hxa := hxS _ 8 (s7.trans s7')
    have hva := hvd (upd (upd (upd H7 tp (.tup xs)) p (.tup [V.str (Str.ofString "row"), V.ref tp])) tt (.tup us)) 8
    rw [List.take_of_length_le (by omega), List.take_of_length_le (by omega)] at hxa hva
    refine ⟨.ref b, .ref p, .ref tt, bk0, .row shs, .tuple ds, nn, rfl, hbk.keep ((((((s2.trans s3).trans s4).trans s5).trans s6).trans s7).trans s7'), .row (SqT.of (u3 _ _ upd_same)) (SqT.of ((u2.trans u3) _ _ upd_same)) hxa (by omega), row_enf hfl 3, .tup upd_same (by omega) hva, hnn, row_okl hdl h8 hfl 2, ?_, fun v' L H8 s8 hv => ?_⟩
    · rw [row_stp hfl 2, PyData.depth]
      have := depthAll_le (k := 2) fun e he => fit_depth (row_fit hdl hfl he)
      omega
    · rw [row_stp hfl 2, ← hLs] at hv
      have s78 := s7'.trans s8
      refine ⟨v', pa, du, xs, rs, L, shs, _, rfl, hv, s78 _ _ (s7 _ _ hpa6), by omega, fun i x sh h1 h3 => ?_, s78 _ _ hrs, hrv.keep s78.tps, fun e he => ?_, fun H9 s9 => ⟨true, rfl, iteN (by decide) (hN _ _ ⟨_, rfl, s78.trans s9⟩)⟩⟩
      · obtain ⟨g1, g2⟩ := hpr6 i x sh h1 h3
        exact (g1.keep (s7.trans s78).tps).at_ g2
      · rw [hLs] at he
        have hf := row_fit hdl hfl he
        have := fit_depth hf
        exact ⟨hf, by omega⟩
  rintro σ H8 ⟨o13, rfl, s8⟩
  refine cut2 (fun σ H' => ∃ (hd : Addr), σ = [some (.ref a), some (.ref b), some (.str (S sg)), some (.int m), some (.int r), some (.str (S l)), o, some (.ref ca), some (.ref pa), some (.ref ta), some (.ref du), o11, o12, o13, some (.ref hd), some (.str (S (l.take 8)))] ∧ H' hd = some (.tup (us.take 4)) ∧ Same H8 H') ?_ (fun N hN => ?_)
  rotate_left
  · walk_at "rd"
    have e4 : cutV us none (some 4) = us.take 4 := cutV_hi us 4
    have e8 : cutS (S l) none (some 8) = S (l.take 8) := cutS_hi l 8
    refine ⟨us, SqL.of ((s7.trans s8) _ _ hta), fun p hp => ⟨us.take 4, .inl ⟨SqL.of (by rw [upd_same, e4]), fun p2 hp2 => ⟨_, rfl, by rw [S_len]; exact few (by omega), ?_⟩⟩⟩⟩
    rw [e8]
    exact hN _ _ ⟨p2, rfl, upd_same, (Same.upd_new hp _).trans (.upd_new hp2 _)⟩
  rintro σ H9 ⟨hd, rfl, hhd, s9⟩
  have hsum : (lens (shs.take 4) (ds.take 4)).sum = ((Ls.take 4).map List.length).sum := by
    have hz : ((shs.zip ds).take 4) = (shs.take 4).zip (ds.take 4) := by simp [List.zip, List.take_zipWith]
    rw [lens, hLs, ← List.map_take, hz, List.map_map]
    congr 1
    refine List.map_congr_left fun w hw => ?_
    rw [← hz] at hw
    obtain ⟨i, hi, e⟩ := List.getElem_of_mem (List.mem_of_mem_take hw)
    have hw' : (shs.zip ds)[i]? = some w := by rw [List.getElem?_eq_getElem hi, e]
    obtain ⟨h1, h2⟩ := List.getElem?_zip_eq_some.mp hw'
    have hi' := (List.getElem?_eq_some_iff.mp h1).1
    obtain ⟨_, g2, g3⟩ := hpt i (xs[i]'(by omega)) (us[i]'(by omega)) w.1 w.2 (List.getElem?_eq_getElem _) (List.getElem?_eq_getElem _) h1 h2
    exact (inV_v0 (H := H9) g2 g3).1
  have hrl : rs.length ≤ 800 := by
    have h1 := hrv.1
    rw [List.length_map] at h1
    have h2 := chg_len ds (k := 100) 0 Ls fun L hL => by
      rw [hLs] at hL
      obtain ⟨w, hw, rfl⟩ := List.mem_map.mp hL
      exact (hfl w hw).len []
    omega
  refine cut1 (fun σ H' => ∃ (du2 : Addr) (rs2 : List V), σ = [some (.ref a), some (.ref b), some (.str (S sg)), some (.int m), some (.int r), some (.str (S l)), o, some (.ref ca), some (.ref pa), some (.ref ta), some (.ref du2), o11, o12, o13, some (.ref hd), some (.str (S (l.take 8)))] ∧ H' du2 = some (.lst rs2) ∧ V0s H' rs2 ((chg (ds.take 4) 0 (Ls.take 4)).map fun r => PyData.tuple [.tuple r, .str (S (l.take 8))]) ∧ Same H9 H') ?_ (fun N hN => ?_)
  rotate_left
  · walk_at "rd"
    have e4 : ∀ ys : List V, cutV ys none (some 4) = ys.take 4 := fun ys => cutV_hi ys 4
    refine tLC_relG (fun b' ys H1 => ys = rs.take ((Ls.take 4).map List.length).sum ∧ Same H9 H1) (fun R rr => ?_) ?_
    · walk_at "rd"
      refine ⟨xs, SqL.of (((s7.trans s8).trans s9) _ _ hpa6), fun p hp => ?_⟩
      have w1 := Same.upd_new hp (.lst (cutV xs none (some 4)))
      refine ⟨us, SqL.of (w1 _ _ (((s7.trans s8).trans s9) _ _ hta)), fun p1 hp1 => ?_⟩
      have w2 := Same.upd_new hp1 (.lst (cutV us none (some 4)))
      have w12 := w1.trans w2
      refine ⟨p, p1, xs.take 4, us.take 4, shs.take 4, ds.take 4, rfl, SqL.of (by rw [w2 _ _ upd_same, e4]), SqL.of (by rw [upd_same, e4]), ⟨by rw [List.length_take, List.length_take]; omega, by rw [List.length_take, List.length_take]; omega, by rw [List.length_take, List.length_take]; omega, fun i x v sh d h1 h2 h3 h4 => ?_⟩, by rw [List.length_take]; omega, fun H1 v1 => ⟨_, rfl, rs, SqL.of ((((s8.trans s9).trans w12).trans v1) _ _ hrs), fun p2 hp2 => ?_⟩⟩
      · rw [List.getElem?_take] at h1 h2 h3 h4
        split at h1
        · rename_i c
          rw [if_pos c] at h2 h3 h4
          obtain ⟨g1, g2, g3⟩ := hpt i x v sh d h1 h2 h3 h4
          exact ⟨(g1.keep (((s7.trans s8).trans s9).trans w12).tps).at_ g2, g2, g3⟩
        · cases h1
      · rw [hsum]
        exact rr p2 _ _ (SqL.of upd_same) ⟨by rw [cutV_hi], (w12.trans v1).trans (.upd_new hp2 _)⟩
    · rintro b' ys H1 hS ⟨rfl, u1⟩
      refine ⟨by rw [List.length_take]; omega, fun D j y H2 => ∃ p q vs2 r, y = .ref p ∧ H2 p = some (.tup [.ref q, .str (S (l.take 8))]) ∧ H2 q = some (.tup vs2) ∧ vs2.length ≤ 1000 ∧ (chg (ds.take 4) 0 (Ls.take 4))[j]? = some r ∧ V0s H2 vs2 r, ?_, ?_, ?_, ?_⟩
      · rintro D j y H2 H3 ⟨p, q', vs2, r', rfl, g1, g2, g3, g4, g5⟩ s3
        exact ⟨p, q', vs2, r', rfl, s3 _ _ g1, s3 _ _ g2, g3, g4, g5.keep s3.tps⟩
      · rintro D j y H2 zs zs' ⟨p, q', vs2, r', rfl, g1, g2, g3, g4, g5⟩ hz
        exact ⟨p, q', vs2, r', rfl, Tps.upd_lst hz _ _ g1, Tps.upd_lst hz _ _ g2, g3, g4, g5.keep (Tps.upd_lst hz)⟩
      · rintro D j x H2 zs hx s2' hD R rr
        have hj := (List.getElem?_eq_some_iff.mp hx).1
        rw [List.length_take] at hj
        have hx' : rs[j]? = some x := by rw [List.getElem?_take, if_pos (by omega)] at hx; exact hx
        have sB := ((s8.trans s9).trans u1).trans s2'
        obtain ⟨d', hd1, hd2⟩ := hrv.at hx'
        rw [List.getElem?_map] at hd1
        obtain ⟨r0, hr0, rfl⟩ := Option.map_eq_some_iff.mp hd1
        have hcut := chg_firsts ds Ls 4 (by omega)
        have hr4 : (chg (ds.take 4) 0 (Ls.take 4))[j]? = some (r0.take 4) := by
          rw [← hcut, List.getElem?_map, List.getElem?_take, if_pos (by omega), hr0]; rfl
        cases hd2 with
        | @tup p0 vs0 _ L0 hp0 hl0 hv0' =>
        have hvv : V0s H2 vs0 r0 := (V0s.of hv0' rfl).keep sB.tps
        have hsv : vs0.length ≤ 1000 := by
          have h1 := hvv.1
          obtain ⟨i, s', L', _, _, e⟩ := chg_at ds 0 Ls r0 (List.mem_of_getElem? hr0)
          rw [e] at h1
          simp only [List.length_append, List.length_take, List.length_drop, List.length_singleton] at h1
          omega
        walk_at "rd"
        refine ⟨p0, vs0, rfl, SqT.of (sB _ _ hp0), fun p hp => ⟨few (by decide), fun p1 hp1 => ?_⟩, fun ec => ⟨few (by decide), fun p1 hp1 => ?_⟩⟩
        · have w1 := Same.upd_new hp (.tup (cutV vs0 none (some 4)))
          have w2 := Same.upd_new hp1 (.tup [V.ref p, V.str (S (l.take 8))])
          exact rr _ _ (w1.trans w2) ⟨p1, p, vs0.take 4, r0.take 4, rfl, upd_same, by rw [w2 _ _ upd_same, e4], by rw [List.length_take]; omega, hr4, (hvv.take 4).keep (w1.trans w2).tps⟩
        · have w2 := Same.upd_new hp1 (.tup [V.ref p0, V.str (S (l.take 8))])
          rw [e4] at ec
          exact rr _ _ w2 ⟨p1, p0, vs0.take 4, r0.take 4, rfl, upd_same, by rw [ec]; exact w2 _ _ (sB _ _ hp0), by rw [List.length_take]; omega, hr4, (hvv.take 4).keep w2.tps⟩
      · rintro D ys H2 hD s2' hdl2 hyl hrel
        have hcut := congrArg List.length (chg_firsts ds Ls 4 (by omega))
        have hr1 := hrv.1
        rw [List.length_map, List.length_take] at hcut
        rw [List.length_map] at hr1
        rw [List.length_take] at hyl
        refine hN _ _ ⟨D, ys, rfl, hdl2, ⟨by rw [List.length_map]; omega, fun j u e g1 g2 => ?_⟩, u1.trans s2'⟩
        obtain ⟨p, q', vs2, r', rfl, f1, f2, f3, f4, f5⟩ := hrel j u g1
        rw [List.getElem?_map, f4] at g2
        have : PyData.tuple [.tuple r', .str (S (l.take 8))] = e := Option.some.inj g2
        subst this
        refine .tup f1 (by simp) (V0s.append (us := [_]) (ds := [_]) (.one (.tup f2 (by omega) f5.vls)) (.one (.str _ (str_ok fun c hc => hsz c (hlz c (List.mem_of_mem_take hc)))))).vls
  rintro σ H10 ⟨du2, rs2, rfl, hdu2, hrv2, s10⟩
  refine cut1 (fun σ H' => ∃ (du3 : Addr) (rs3 : List V), σ = [some (.ref a), some (.ref b), some (.str (S sg)), some (.int m), some (.int r), some (.str (S l)), o, some (.ref ca), some (.ref pa), some (.ref ta), some (.ref du3), o11, o12, o13, some (.ref hd), some (.str (S (l.take 8)))] ∧ H' du3 = some (.lst rs3) ∧ V0s H' rs3 (((chg (ds.take 4) 0 (Ls.take 4)).map fun r => PyData.tuple [.tuple r, .str (S (l.take 8))]) ++ (outs (l.take 8)).map fun z => PyData.tuple [.tuple (ds.take 4), .str (S z)]) ∧ Same H10 H') ?_ (fun N hN => ?_)
  rotate_left
  · walk_at "rd"
    have t8 : (l.take 8).length ≤ 8 := by rw [List.length_take]; omega
    have tz : ∀ z ∈ outs (l.take 8), PyData.strOk (S z) = true := outs_ok fun c hc => hsz c (hlz c (List.mem_of_mem_take hc))
    generalize l.take 8 = tl at *
    refine tLC_rangeR (n := tl.length) (fun i y H' => ∃ p, y = .ref p ∧ H' p = some (.tup [.ref hd, .str (S (tl.take i ++ tl.drop (i + 1)))])) ?_ ?_ (fun R rr => by walk_at "rd"; rw [S_len]; exact ⟨few (by omega), rr⟩) (by omega) ?_ ?_
    · rintro i y H2 H3 ⟨p, rfl, g1⟩ s3
      exact ⟨p, rfl, s3 _ _ g1⟩
    · rintro i y H2 p zs zs' ⟨p', rfl, g1⟩ hz
      exact ⟨p', rfl, Tps.upd_lst hz _ _ g1⟩
    · intro i H' hi sm R rr
      walk_at "rd"
      refine ⟨_, rfl, by rw [S_len]; exact few (by omega), _, rfl, by rw [S_len]; exact few (by omega), _, rfl, _, rfl, ?_, ?_⟩
      · rw [cutS_hi, show ((i : Int) + 1) = ((i + 1 : Nat) : Int) by omega, cutS_lo, S_len, S_len, List.length_take, List.length_drop]
        exact few (by omega)
      · rw [cutS_hi, show ((i : Int) + 1) = ((i + 1 : Nat) : Int) by omega, cutS_lo, S_app]
        exact ⟨few (by decide), fun p hp => rr _ _ (.upd_new hp _) ⟨p, rfl, upd_same⟩⟩
    · intro D ys H2 hD sm hdD hyl hrel
      have h2 := hrv2.1
      have hcl : (chg (ds.take 4) 0 (Ls.take 4)).length ≤ 800 := by
        have hcut := congrArg List.length (chg_firsts ds Ls 4 (by omega))
        have hr1 := hrv.1
        rw [List.length_map, List.length_take] at hcut
        rw [List.length_map] at hr1
        omega
      rw [List.length_map] at h2
      refine ⟨D, rfl, rs2, sm _ _ hdu2, ys, hdD, few (by omega), fun p hp => ?_⟩
      have w1 := Same.upd_new hp (.lst (rs2 ++ ys))
      refine hN _ _ ⟨p, rs2 ++ ys, rfl, upd_same, (hrv2.keep (sm.trans w1).tps).append ⟨by rw [List.length_map, outs, List.length_map, List.length_range]; exact hyl, fun j u e g1 g2 => ?_⟩, sm.trans w1⟩
      obtain ⟨p', rfl, f1⟩ := hrel j u g1
      have hj := (List.getElem?_eq_some_iff.mp g1).1
      have hzz : (outs tl)[j]? = some (tl.take j ++ tl.drop (j + 1)) := by rw [outs, List.getElem?_map, List.getElem?_range (by omega)]; rfl
      rw [List.getElem?_map, hzz] at g2
      have : PyData.tuple [.tuple (ds.take 4), .str (S (tl.take j ++ tl.drop (j + 1)))] = e := Option.some.inj g2
      subst this
      have sC := (s10.trans sm).trans w1
      exact .tup (w1 _ _ f1) (by simp) (V0s.append (us := [_]) (ds := [_]) (.one (.tup (sC _ _ hhd) (by rw [List.length_take]; omega) ((hv0 _).take 4).vls)) (.one (.str _ (tz _ (List.mem_of_getElem? hzz))))).vls
  rintro σ H11 ⟨du3, rs3, rfl, hdu3, hrv3, s11⟩
  have e4 : ∀ ys : List V, cutV ys none (some 4) = ys.take 4 := fun ys => cutV_hi ys 4
  have hz4 : (shs.take 4).zip (ds.take 4) = (shs.zip ds).take 4 := by simp [List.zip, List.take_zipWith]
  have hf4 : ∀ w ∈ (shs.take 4).zip (ds.take 4), Flat w.1 w.2 := fun w hw => by
    rw [hz4] at hw
    exact hfl w (List.mem_of_mem_take hw)
  have hl4 : (ds.take 4).length = (shs.take 4).length := by rw [List.length_take, List.length_take]; omega
  have hL4 : Ls.take 4 = ((shs.take 4).zip (ds.take 4)).map fun w => stpBy w.1 w.2 [] := by rw [hz4, hLs, List.map_take]
  have t8 : (l.take 8).length ≤ 8 := by rw [List.length_take]; omega
  have ht : Flat (.text sg) (.str (S (l.take 8))) := text_flat (by omega) (fun z hz => hlz z (List.mem_of_mem_take hz)) hsz
  have hok8 : PyData.strOk (S (l.take 8)) = true := str_ok fun c hc => hsz c (hlz c (List.mem_of_mem_take hc))
  obtain ⟨nn, hnn⟩ := two_jd (bk := bk0) hl4 hf4 ht
  have sD := (((s7.trans s8).trans s9).trans s10).trans s11
  walk_at "rd"
  refine ⟨xs, SqL.of (sD _ _ hpa6), fun p hp => ⟨xs.take 4, .inl ⟨SqL.of (by rw [upd_same, e4]), fun q0 hq0 => ⟨few (by decide), fun p1 hp1 => ⟨few (by decide), fun p2 hp2 => ⟨few (by decide), fun p3 hp3 => ⟨few (by decide), fun p4 hp4 => ⟨few (by decide), fun p5 hp5 => ?_⟩⟩⟩⟩⟩⟩⟩⟩
  have w0 := Same.upd_new hp (.lst (cutV xs none (some 4)))
  have w1 := Same.upd_new hq0 (.tup (xs.take 4))
  have w2 := Same.upd_new hp1 (.tup [V.str (Str.ofString "row"), V.ref q0])
  have w3 := Same.upd_new hp2 (.tup [V.str (Str.ofString "text"), V.str (S sg)])
  have w4 := Same.upd_new hp3 (.tup [V.ref p1, V.ref p2])
  have w5 := Same.upd_new hp4 (.tup [V.str (Str.ofString "row"), V.ref p3])
  have w6 := Same.upd_new hp5 (.tup [V.ref hd, V.str (S (l.take 8))])
  have v5 := w5.trans w6
  have v4 := w4.trans v5
  have v3 := w3.trans v4
  have v2 := w2.trans v3
  have v1 := w1.trans v2
  have v0 := w0.trans v1
  refine ⟨.ref b, .ref p4, .ref p5, bk0, sh2 (shs.take 4) sg, d2 (ds.take 4) (l.take 8), nn, rfl, hbk.keep ((((((s2.trans s3).trans s4).trans s5).trans s6).trans sD).trans v0), .row (SqT.of (w6 _ _ upd_same)) (SqT.of (v5 _ _ upd_same)) (.cons (.row (SqT.of (v3 _ _ upd_same)) (SqT.of (v2 _ _ upd_same)) (hxS _ 4 (sD.trans v0)) (by rw [List.length_take]; omega)) (.cons (.text (SqT.of (v4 _ _ upd_same)) (by omega)) .nil)) (by simp), two_enf hf4 ht, .tup upd_same (by simp) (.cons (.tup (((s10.trans s11).trans v0) _ _ hhd) (by rw [List.length_take]; omega) (hvd _ 4)) (.cons (.str _ hok8 (by omega)) .nil)), hnn, two_okl hl4 (by rw [List.length_take]; omega) hf4 ht (by omega), two_depth hl4 hf4 ht, fun v' L H12 s12 hv => ?_⟩
  have ty := vl_ty (K := g.K) hv
  have hdp := two_depth (bk := bk0) hl4 hf4 ht
  rw [two_stp hf4 ht, ← hL4] at hv
  rw [two_stp hf4 ht, ← hL4] at hdp
  have d1 := hv.den (K := g.K)
  have d3 : Den g.K H12 (.ref du3) _ := .lst (SqL.of ((v0.trans s12) _ _ hdu3)) (hrv3.keep (v0.trans s12).tps).vls.den
  refine ⟨_, rfl, _, ty, true, rfl, iteT ⟨_, d1, _, d3, by omega, ?_⟩⟩
  rw [PySem.SeqAt.eqv_refl _ d1.lay]
  exact q H12
end KW
set_option maxHeartbeats 8000000
namespace KW
open PySem L2

variable {g : Gx}
variable {bk : Bk}
variable {m : Nat}
variable {bk : Bk} {shs : List Sh} {ds : List PyData}
variable {bk : Bk} {shs : List Sh} {ds : List PyData} {sg tl : List Nat}
local macro_rules | `(tactic| walk_at "gn") => `(tactic| simp only [gName, List.set_cons_zero, List.set_cons_succ])

local macro_rules | `(tactic| walk_at "rd") => `(tactic| simp (config := { failIfUnchanged := false, maxSteps := 10000000 }) only [L2.start, cxOf_K, nox_K, List.map_cons, List.map_nil, List.length_cons, List.length_nil, List.cons_append, List.nil_append, List.replicate_succ, List.replicate_zero, Nat.zero_add, Nat.reduceAdd, Nat.reduceSub, Nat.sub_self, tSeq, tIfS, tTest, tOp, tC, tVar, rI0, rI, rU, tUn, tRet, tRetN, tDrop, tNext, tBreak, tCont, tAsg, gName, gNil, gCons, tCons, tNil, tCB, tCall, tTry, tTryAs, tRaise, sFld, tFld, tMake, tMeth, Ends.gone, caught_K, tB, tAnd, tOr, tNot, tAndV, tOrV, tNotV, tIf, tChain, tNoPart, tPart, tSl, tNever, tAug, rIxL, rIxT, rSlL, tLst, tTup, gTup, tRev, tLZ, tConT, tDict0, tDNewT, tDGet, sDPut, rNotInD, rInD, tEither, tSlStep, rBits, rFind, rIn, tBM, tBM0, rAppend, rReverse, rEq, rNe, scal_ii, scal_ss, rCat, rSetL, gSub, ipI, capSt, List.getD_cons_zero, List.getD_cons_succ, decide_true, not_true_eq_false, not_false_eq_true,
  exists_eq_left', exists_eq_left, exists_eq', exists_eq, exists_and_left, and_assoc, Option.some.injEq, V.int.injEq, V.bl.injEq, V.ref.injEq, V.str.injEq, List.getElem?_cons_zero, List.getElem?_cons_succ, List.set_cons_zero, List.set_cons_succ, List.cons.injEq, and_true, true_and, List.append_nil, decide_eq_true_eq, Bool.not_eq_true', decide_eq_false_iff_not, Bool.not_not, Bool.not_true, Bool.not_false, Bool.true_eq_false, Bool.false_eq_true, if_true, if_false, ite_true, ite_false])

structure Top (K : PySem.W.Frag) (mg : Str → Option Value) (C_Lister : Addr) (C_Stepper : Addr) : Prop where
  f_law_cell_at : ∀ P w base, (Gx.mk P w K mg base).Raw "_law_cell_at" "_law_cell_at" s_law_cell_at ["_law_script", "_law_k"]
  f_is_whole_number : ∀ P w base, (Gx.mk P w K mg base).Raw "is_whole_number" "is_whole_number" s_is_whole_number ["thing"]
  f_branch_place : ∀ P w base, (Gx.mk P w K mg base).Raw "branch_place" "branch_place" s_branch_place ["branches", "mark"]
  f_shape_of : ∀ P w base, (Gx.mk P w K mg base).Raw "shape_of" "shape_of" s_shape_of ["book", "name"]
  f_has_mark : ∀ P w base, (Gx.mk P w K mg base).Raw "has_mark" "has_mark" s_has_mark ["branches", "value"]
  f_has_form : ∀ P w base, (Gx.mk P w K mg base).Raw "has_form" "has_form" s_has_form ["shape", "value"]
  f_things_within : ∀ P w base, (Gx.mk P w K mg base).Raw "things_within" "things_within" s_things_within ["book", "shape", "value"]
  f_sum_of_sizes : ∀ P w base, (Gx.mk P w K mg base).Raw "sum_of_sizes" "sum_of_sizes" s_sum_of_sizes ["keys"]
  f_list_key : ∀ P w base, (Gx.mk P w K mg base).Raw "list_key" "list_key" s_list_key ["shape", "keys"]
  f_key_made : ∀ P w base, (Gx.mk P w K mg base).Raw "key_made" "key_made" s_key_made ["shape", "value", "keys"]
  f_weighed : ∀ P w base, (Gx.mk P w K mg base).Raw "weighed" "weighed" s_weighed ["book", "shape", "value"]
  f_fits : ∀ P w base, (Gx.mk P w K mg base).Raw "fits" "fits" s_fits ["book", "shape", "value"]
  f_copied : ∀ P w base, (Gx.mk P w K mg base).Raw "copied" "copied" s_copied ["thing"]
  f_whole_steps : ∀ P w base, (Gx.mk P w K mg base).Raw "whole_steps" "whole_steps" s_whole_steps ["low", "value"]
  f_Lister___init__ : ∀ P w base, (Gx.mk P w K mg base).RawI "Lister" C_Lister "Lister.__init__" s_Lister___init__ ["self", "book"]
  f_Stepper___init__ : ∀ P w base, (Gx.mk P w K mg base).RawI "Stepper" C_Stepper "Stepper.__init__" s_Stepper___init__ ["self", "book"]
  f_refuse_no_value : ∀ P w base, (Gx.mk P w K mg base).Raw "refuse_no_value" "refuse_no_value" s_refuse_no_value ["book", "shape", "value"]
  f_without_each : ∀ P w base, (Gx.mk P w K mg base).Raw "without_each" "without_each" s_without_each ["things"]
  f_with_each_step : ∀ P w base, (Gx.mk P w K mg base).Raw "with_each_step" "with_each_step" s_with_each_step ["things", "inner"]
  f_Stepper_steps_by : ∀ P w base, (Gx.mk P w K mg base).RawM C_Stepper "steps_by" "Stepper.steps_by" s_Stepper_steps_by ["self", "shape", "value", "inner"]
  f_Stepper_steps_from : ∀ P w base, (Gx.mk P w K mg base).RawM C_Stepper "steps_from" "Stepper.steps_from" s_Stepper_steps_from ["self", "shape", "value"]
  f_steps_of : ∀ P w base, (Gx.mk P w K mg base).Raw "steps_of" "steps_of" s_steps_of ["book", "shape", "value"]
  f_law_signs : ∀ P w base, (Gx.mk P w K mg base).Raw "_law_signs" "_law_signs" s_law_signs ["_law_cell", "_law_many"]
  f_law_part : ∀ P w base, (Gx.mk P w K mg base).Raw "_law_part" "_law_part" s_law_part ["_law_cell"]
  f_law_thing : ∀ P w base, (Gx.mk P w K mg base).Raw "_law_thing" "_law_thing" s_law_thing ["_law_part_here", "_law_cell"]
  f_law_inner : ∀ P w base, (Gx.mk P w K mg base).Raw "_law_inner" "_law_inner" s_law_inner ["_law_part_here", "_law_thing_here"]
  f_law_count : ∀ P w base, (Gx.mk P w K mg base).Raw "_law_count" "_law_count" s_law_count ["_law_parts", "_law_things"]
  f_law_alike : ∀ P w base, (Gx.mk P w K mg base).Raw "_law_alike" "_law_alike" s_law_alike ["_law_found", "_law_parts", "_law_due"]
  cl_Lister : Cls K C_Lister
  n_Lister_book : NoAttr K C_Lister "book"
  n_Lister_makers : NoAttr K C_Lister "makers"
  cl_Stepper : Cls K C_Stepper
  n_Stepper_book : NoAttr K C_Stepper "book"
  n_Stepper_lister : NoAttr K C_Stepper "lister"
  c_OF_ONE_PART : ∀ P w base, (Gx.mk P w K mg base).ConT "OF_ONE_PART" ([.str "many", .str "rising", .str "unlike"])
  b_all : mg "all" = none
  b_bool : mg "bool" = none
  b_dict : mg "dict" = none
  b_enumerate : mg "enumerate" = none
  b_int : mg "int" = none
  b_isinstance : mg "isinstance" = none
  b_len : mg "len" = none
  b_list : mg "list" = none
  b_max : mg "max" = none
  b_range : mg "range" = none
  b_str : mg "str" = none
  b_sum : mg "sum" = none
  b_tuple : mg "tuple" = none
  b_zip : mg "zip" = none
theorem law_body {K : PySem.W.Frag} {mg : Str → Option Value} {C_Lister : Addr} {C_Stepper : Addr} (t : Top K mg C_Lister C_Stepper) (P : Program) (w : World) (base : Heap) :
    Body (Gx.mk P w K mg base) 11 ["_law_script", "_law_book", "_law_signs_here", "_law_many", "_law_near", "_law_text", "_law_found", "_law_cells", "_law_parts", "_law_things", "_law_due", "_law_k", "_law_less", "_law_shape", "_law_head", "_law_tail"] "law" s_law (spTrue K) := by
  have G_law_cell_at := ok_law_cell_at (g := Gx.mk P w K mg base) (C_Lister := C_Lister) (C_Stepper := C_Stepper) (t.f_law_cell_at P w base) t.b_len
  have G_is_whole_number := ok_is_whole_number (g := Gx.mk P w K mg base) (C_Lister := C_Lister) (C_Stepper := C_Stepper) (t.f_is_whole_number P w base) t.b_bool t.b_int t.b_isinstance
  have G_branch_place := ok_branch_place (g := Gx.mk P w K mg base) (C_Lister := C_Lister) (C_Stepper := C_Stepper) (t.f_branch_place P w base) t.b_enumerate
  have G_shape_of := ok_shape_of (g := Gx.mk P w K mg base) (C_Lister := C_Lister) (C_Stepper := C_Stepper) (t.f_shape_of P w base) 
  have G_has_mark := ok_has_mark (g := Gx.mk P w K mg base) (k := 1) (C_Lister := C_Lister) (C_Stepper := C_Stepper) (t.f_has_mark P w base) (G_branch_place.mono (by decide)) t.b_isinstance t.b_len t.b_str t.b_tuple
  have G_has_form := ok_has_form (g := Gx.mk P w K mg base) (k := 2) (C_Lister := C_Lister) (C_Stepper := C_Stepper) (t.f_has_form P w base) (G_is_whole_number.mono (by decide)) (G_has_mark.mono (by decide)) t.b_all t.b_isinstance t.b_len t.b_list t.b_str t.b_tuple (t.c_OF_ONE_PART P w base)
  have G_things_within := ok_things_within (g := Gx.mk P w K mg base) (k := 1) (C_Lister := C_Lister) (C_Stepper := C_Stepper) (t.f_things_within P w base) (G_shape_of.mono (by decide)) (G_branch_place.mono (by decide)) t.b_list t.b_zip (t.c_OF_ONE_PART P w base)
  have G_sum_of_sizes := ok_sum_of_sizes (g := Gx.mk P w K mg base) (C_Lister := C_Lister) (C_Stepper := C_Stepper) (t.f_sum_of_sizes P w base) t.b_sum
  have G_list_key := ok_list_key (g := Gx.mk P w K mg base) (k := 1) (C_Lister := C_Lister) (C_Stepper := C_Stepper) (t.f_list_key P w base) (G_sum_of_sizes.mono (by decide)) t.b_len t.b_tuple
  have G_key_made := ok_key_made (g := Gx.mk P w K mg base) (k := 2) (C_Lister := C_Lister) (C_Stepper := C_Stepper) (t.f_key_made P w base) (G_branch_place.mono (by decide)) (G_sum_of_sizes.mono (by decide)) (G_list_key.mono (by decide)) t.b_len t.b_tuple
  have G_weighed_1 := ok_weighed (g := Gx.mk P w K mg base) (m := 0) (k := 3) (C_Lister := C_Lister) (C_Stepper := C_Stepper) (t.f_weighed P w base) (G_has_form.mono (by decide)) (G_things_within.mono (by decide)) (G_key_made.mono (by decide)) ((t.f_weighed P w base).none (fun _ _ _ _ h => no_weighed h))
  have G_weighed_2 := ok_weighed (g := Gx.mk P w K mg base) (m := 1) (k := 4) (C_Lister := C_Lister) (C_Stepper := C_Stepper) (t.f_weighed P w base) (G_has_form.mono (by decide)) (G_things_within.mono (by decide)) (G_key_made.mono (by decide)) (G_weighed_1.mono (by decide))
  have G_weighed_3 := ok_weighed (g := Gx.mk P w K mg base) (m := 2) (k := 5) (C_Lister := C_Lister) (C_Stepper := C_Stepper) (t.f_weighed P w base) (G_has_form.mono (by decide)) (G_things_within.mono (by decide)) (G_key_made.mono (by decide)) (G_weighed_2.mono (by decide))
  have G_weighed_4 := ok_weighed (g := Gx.mk P w K mg base) (m := 3) (k := 6) (C_Lister := C_Lister) (C_Stepper := C_Stepper) (t.f_weighed P w base) (G_has_form.mono (by decide)) (G_things_within.mono (by decide)) (G_key_made.mono (by decide)) (G_weighed_3.mono (by decide))
  have G_weighed := ok_weighed (g := Gx.mk P w K mg base) (m := 4) (k := 7) (C_Lister := C_Lister) (C_Stepper := C_Stepper) (t.f_weighed P w base) (G_has_form.mono (by decide)) (G_things_within.mono (by decide)) (G_key_made.mono (by decide)) (G_weighed_4.mono (by decide))
  have G_fits := ok_fits (g := Gx.mk P w K mg base) (k := 8) (C_Lister := C_Lister) (C_Stepper := C_Stepper) (t.f_fits P w base) (G_weighed.mono (by decide))
  have G_copied_1 := ok_copied (g := Gx.mk P w K mg base) (m := 0) (k := 0) (C_Lister := C_Lister) (C_Stepper := C_Stepper) (t.f_copied P w base) ((t.f_copied P w base).none (fun _ _ _ _ h => no_copied h)) t.b_dict t.b_isinstance t.b_list t.b_tuple
  have G_copied_2 := ok_copied (g := Gx.mk P w K mg base) (m := 1) (k := 1) (C_Lister := C_Lister) (C_Stepper := C_Stepper) (t.f_copied P w base) (G_copied_1.mono (by decide)) t.b_dict t.b_isinstance t.b_list t.b_tuple
  have G_copied_3 := ok_copied (g := Gx.mk P w K mg base) (m := 2) (k := 2) (C_Lister := C_Lister) (C_Stepper := C_Stepper) (t.f_copied P w base) (G_copied_2.mono (by decide)) t.b_dict t.b_isinstance t.b_list t.b_tuple
  have G_copied_4 := ok_copied (g := Gx.mk P w K mg base) (m := 3) (k := 3) (C_Lister := C_Lister) (C_Stepper := C_Stepper) (t.f_copied P w base) (G_copied_3.mono (by decide)) t.b_dict t.b_isinstance t.b_list t.b_tuple
  have G_copied_5 := ok_copied (g := Gx.mk P w K mg base) (m := 4) (k := 4) (C_Lister := C_Lister) (C_Stepper := C_Stepper) (t.f_copied P w base) (G_copied_4.mono (by decide)) t.b_dict t.b_isinstance t.b_list t.b_tuple
  have G_copied_6 := ok_copied (g := Gx.mk P w K mg base) (m := 5) (k := 5) (C_Lister := C_Lister) (C_Stepper := C_Stepper) (t.f_copied P w base) (G_copied_5.mono (by decide)) t.b_dict t.b_isinstance t.b_list t.b_tuple
  have G_copied_7 := ok_copied (g := Gx.mk P w K mg base) (m := 6) (k := 6) (C_Lister := C_Lister) (C_Stepper := C_Stepper) (t.f_copied P w base) (G_copied_6.mono (by decide)) t.b_dict t.b_isinstance t.b_list t.b_tuple
  have G_copied := ok_copied (g := Gx.mk P w K mg base) (m := 7) (k := 7) (C_Lister := C_Lister) (C_Stepper := C_Stepper) (t.f_copied P w base) (G_copied_7.mono (by decide)) t.b_dict t.b_isinstance t.b_list t.b_tuple
  have G_whole_steps := ok_whole_steps (g := Gx.mk P w K mg base) (C_Lister := C_Lister) (C_Stepper := C_Stepper) (t.f_whole_steps P w base) 
  have G_Lister___init__ := ok_Lister___init__ (g := Gx.mk P w K mg base) (C_Lister := C_Lister) (C_Stepper := C_Stepper) (t.f_Lister___init__ P w base) t.cl_Lister t.n_Lister_book t.n_Lister_makers
  have G_Stepper___init__ := ok_Stepper___init__ (g := Gx.mk P w K mg base) (k := 2) (C_Lister := C_Lister) (C_Stepper := C_Stepper) (t.f_Stepper___init__ P w base) G_Lister___init__ (by decide) t.cl_Stepper t.n_Stepper_book t.n_Stepper_lister
  have G_refuse_no_value := ok_refuse_no_value (g := Gx.mk P w K mg base) (k := 9) (C_Lister := C_Lister) (C_Stepper := C_Stepper) (t.f_refuse_no_value P w base) (G_fits.mono (by decide))
  have G_without_each := ok_without_each (g := Gx.mk P w K mg base) (C_Lister := C_Lister) (C_Stepper := C_Stepper) (t.f_without_each P w base) t.b_len t.b_range
  have G_with_each_step := ok_with_each_step (g := Gx.mk P w K mg base) (C_Lister := C_Lister) (C_Stepper := C_Stepper) (t.f_with_each_step P w base) t.b_enumerate
  have G_Stepper_steps_by := ok_Stepper_steps_by (g := Gx.mk P w K mg base) (k := 1) (C_Lister := C_Lister) (C_Stepper := C_Stepper) (t.f_Stepper_steps_by P w base) (G_whole_steps.mono (by decide)) (G_without_each.mono (by decide)) (G_with_each_step.mono (by decide)) t.b_list t.b_tuple
  have G_Stepper_steps_from_1 := ok_Stepper_steps_from (g := Gx.mk P w K mg base) (m := 0) (k := 2) (C_Lister := C_Lister) (C_Stepper := C_Stepper) (t.f_Stepper_steps_from P w base) (G_things_within.mono (by decide)) ((t.f_Stepper_steps_from P w base).none (fun _ _ _ _ h => no_steps_from h)) (G_Stepper_steps_by.mono (by decide)) t.cl_Stepper t.n_Stepper_book t.n_Stepper_lister
  have G_Stepper_steps_from_2 := ok_Stepper_steps_from (g := Gx.mk P w K mg base) (m := 1) (k := 3) (C_Lister := C_Lister) (C_Stepper := C_Stepper) (t.f_Stepper_steps_from P w base) (G_things_within.mono (by decide)) (G_Stepper_steps_from_1.mono (by decide)) (G_Stepper_steps_by.mono (by decide)) t.cl_Stepper t.n_Stepper_book t.n_Stepper_lister
  have G_Stepper_steps_from_3 := ok_Stepper_steps_from (g := Gx.mk P w K mg base) (m := 2) (k := 4) (C_Lister := C_Lister) (C_Stepper := C_Stepper) (t.f_Stepper_steps_from P w base) (G_things_within.mono (by decide)) (G_Stepper_steps_from_2.mono (by decide)) (G_Stepper_steps_by.mono (by decide)) t.cl_Stepper t.n_Stepper_book t.n_Stepper_lister
  have G_Stepper_steps_from := ok_Stepper_steps_from (g := Gx.mk P w K mg base) (m := 3) (k := 5) (C_Lister := C_Lister) (C_Stepper := C_Stepper) (t.f_Stepper_steps_from P w base) (G_things_within.mono (by decide)) (G_Stepper_steps_from_3.mono (by decide)) (G_Stepper_steps_by.mono (by decide)) t.cl_Stepper t.n_Stepper_book t.n_Stepper_lister
  have G_steps_of := ok_steps_of (g := Gx.mk P w K mg base) (k := 10) (C_Lister := C_Lister) (C_Stepper := C_Stepper) (t.f_steps_of P w base) (G_copied.mono (by decide)) (G_refuse_no_value.mono (by decide)) G_Stepper___init__ (by decide) (G_Stepper_steps_from.mono (by decide)) t.cl_Stepper t.n_Stepper_book t.n_Stepper_lister
  have G_law_signs := ok_law_signs (g := Gx.mk P w K mg base) (C_Lister := C_Lister) (C_Stepper := C_Stepper) (t.f_law_signs P w base) t.b_range
  have G_law_part := ok_law_part (g := Gx.mk P w K mg base) (k := 1) (C_Lister := C_Lister) (C_Stepper := C_Stepper) (t.f_law_part P w base) (G_law_signs.mono (by decide))
  have G_law_thing := ok_law_thing (g := Gx.mk P w K mg base) (C_Lister := C_Lister) (C_Stepper := C_Stepper) (t.f_law_thing P w base) t.b_len t.b_range
  have G_law_inner := ok_law_inner (g := Gx.mk P w K mg base) (C_Lister := C_Lister) (C_Stepper := C_Stepper) (t.f_law_inner P w base) t.b_len t.b_range
  have G_law_count := ok_law_count (g := Gx.mk P w K mg base) (k := 1) (C_Lister := C_Lister) (C_Stepper := C_Stepper) (t.f_law_count P w base) (G_law_inner.mono (by decide)) t.b_len t.b_sum t.b_zip
  have G_law_alike := ok_law_alike (g := Gx.mk P w K mg base) (C_Lister := C_Lister) (C_Stepper := C_Stepper) (t.f_law_alike P w base) t.b_bool t.b_isinstance t.b_len t.b_list t.b_str t.b_tuple t.b_zip
  exact body_law (g := Gx.mk P w K mg base) (k := 11) (C_Lister := C_Lister) (C_Stepper := C_Stepper) (G_steps_of.mono (by decide)) (G_law_cell_at.mono (by decide)) (G_law_signs.mono (by decide)) (G_law_part.mono (by decide)) (G_law_thing.mono (by decide)) (G_law_inner.mono (by decide)) (G_law_count.mono (by decide)) (G_law_alike.mono (by decide)) t.b_isinstance t.b_len t.b_list t.b_max t.b_range t.b_tuple t.b_zip
end KW
def PySem.W.Fast.tw14999675502674386458 : Nat := 0
def PySem.W.Fast.tw1371423274394962098 : Nat := 0
def PySem.W.Fast.tw16417164135857754710 : Nat := 0
def PySem.W.Fast.tw4459871816013270489 : Nat := 0
def PySem.W.Fast.tw1362358101474545004 : Nat := 0
def PySem.W.Fast.tw10857554999274732309 : Nat := 0
def PySem.W.Fast.tw15142427011522064774 : Nat := 0
def PySem.W.Fast.tw17668742480666010987 : Nat := 0
def PySem.W.Fast.tw15288655124575691334 : Nat := 0
def PySem.W.Fast.tw1832101972634436780 : Nat := 0
def PySem.W.Fast.tw13349075911874499843 : Nat := 0
def PySem.W.Fast.tw14640614441536088047 : Nat := 0
def PySem.W.Fast.tw5965201827125576659 : Nat := 0
def PySem.W.Fast.tw17896109083640929675 : Nat := 0
def PySem.W.Fast.tw8481032236815526493 : Nat := 0
def PySem.W.Fast.tw5629223455023279925 : Nat := 0
def PySem.W.Fast.tw1184667145520034942 : Nat := 0
def PySem.W.Fast.tw7346032322038747243 : Nat := 0
def PySem.W.Fast.tw8372905851303400586 : Nat := 0
def PySem.W.Fast.tw14986046696736577418 : Nat := 0
def PySem.W.Fast.tw10141198743460441306 : Nat := 0
def PySem.W.Fast.tw14077597816863103622 : Nat := 0
def PySem.W.Fast.tw9100429833079075403 : Nat := 0
def PySem.W.Fast.tw10040545745299011346 : Nat := 0
def PySem.W.Fast.tw11118336265628547805 : Nat := 0
def PySem.W.Fast.tw3105289003071398376 : Nat := 0
def PySem.W.Fast.tw6424184840085324070 : Nat := 0
def PySem.W.Fast.tw5875083460318921969 : Nat := 0
def PySem.W.Fast.tw14391596201374412279 : Nat := 0
def PySem.W.Fast.tw3969151817493571712 : Nat := 0
def PySem.W.Fast.tw14765816788107545616 : Nat := 0
def PySem.W.Fast.tw7410830101144867828 : Nat := 0
def PySem.W.Fast.tw11807698940066324327 : Nat := 0
def PySem.W.Fast.tw3057719706243728660 : Nat := 0
def PySem.W.Fast.tw10887466329127292711 : Nat := 0
def PySem.W.Fast.tw18035456757905625628 : Nat := 0
def PySem.W.Fast.tw4140646019892128391 : Nat := 0
def PySem.W.Fast.tw14936944984121478925 : Nat := 0
def PySem.W.Fast.tw15024664943491356644 : Nat := 0
def PySem.W.Fast.tw15080562249046644840 : Nat := 0
def PySem.W.Fast.tw2454912786117529515 : Nat := 0
def PySem.W.Fast.tw4927656635815266678 : Nat := 0
def PySem.W.Fast.tw2917915873958025949 : Nat := 0
def PySem.W.Fast.tw13348228345332288816 : Nat := 0
def PySem.W.Fast.tw2233165427129118911 : Nat := 0
def PySem.W.Fast.tw8160365780271720714 : Nat := 0
def PySem.W.Fast.tw1021328335889450581 : Nat := 0
def PySem.W.Fast.tw11161876142125259916 : Nat := 0
def PySem.W.Fast.tw11303911282804963938 : Nat := 0
def PySem.W.Fast.tw11422568806091196984 : Nat := 0
def PySem.W.Fast.tw11728854797960588614 : Nat := 0
def PySem.W.Fast.tw11874311890125183277 : Nat := 0
def PySem.W.Fast.tw11932207427597862263 : Nat := 0
def PySem.W.Fast.tw12401165330035885347 : Nat := 0
def PySem.W.Fast.tw12905310894944912060 : Nat := 0
def PySem.W.Fast.tw13098994256001782360 : Nat := 0
def PySem.W.Fast.tw13696222135654634493 : Nat := 0
def PySem.W.Fast.tw13746685587897427931 : Nat := 0
def PySem.W.Fast.tw14817946814109414733 : Nat := 0
def PySem.W.Fast.tw1508069925081730390 : Nat := 0
def PySem.W.Fast.tw15616236440022141757 : Nat := 0
def PySem.W.Fast.tw15830558175912826071 : Nat := 0
def PySem.W.Fast.tw15924279894145758431 : Nat := 0
def PySem.W.Fast.tw1596678111272182644 : Nat := 0
def PySem.W.Fast.tw16029058470724340460 : Nat := 0
def PySem.W.Fast.tw16737022477542854759 : Nat := 0
def PySem.W.Fast.tw17186492563745941922 : Nat := 0
def PySem.W.Fast.tw17293512117533351053 : Nat := 0
def PySem.W.Fast.tw17606861616855119390 : Nat := 0
def PySem.W.Fast.tw17843573408933102081 : Nat := 0
def PySem.W.Fast.tw17991216489224588762 : Nat := 0
def PySem.W.Fast.tw1869179354905937336 : Nat := 0
def PySem.W.Fast.tw1912048384911607039 : Nat := 0
def PySem.W.Fast.tw2425955343920065976 : Nat := 0
def PySem.W.Fast.tw2537872428824108121 : Nat := 0
def PySem.W.Fast.tw2917704162096995011 : Nat := 0
def PySem.W.Fast.tw3084400677388312579 : Nat := 0
def PySem.W.Fast.tw3647851294509392856 : Nat := 0
def PySem.W.Fast.tw3671939183361661854 : Nat := 0
def PySem.W.Fast.tw4787335354522560739 : Nat := 0
def PySem.W.Fast.tw4818096647325776897 : Nat := 0
def PySem.W.Fast.tw5093100637290156311 : Nat := 0
def PySem.W.Fast.tw5593555467694964184 : Nat := 0
def PySem.W.Fast.tw5980095861219909127 : Nat := 0
def PySem.W.Fast.tw6330233161635276595 : Nat := 0
def PySem.W.Fast.tw6566683530556484404 : Nat := 0
def PySem.W.Fast.tw6726368255547270983 : Nat := 0
def PySem.W.Fast.tw818127649793231373 : Nat := 0
def PySem.W.Fast.tw83055381925449858 : Nat := 0
def PySem.W.Fast.tw8305717613032500415 : Nat := 0
def PySem.W.Fast.tw9756215647743702770 : Nat := 0
open PySem PySem.W PyProof.Rows
set_option maxRecDepth 100000 in
set_option maxHeartbeats 0 in
theorem PySem.Challenge.cw_countgen_k71_steps_of_rows_holds : PySem.Challenge.rw_countgen_k71_steps_of_rows.Holds := by
  w_on; o_law; k_head; (case hw => w_witness2)
  k_fill
  refine L2.walk_gx (l := PySem.Challenge.rw_countgen_k71_steps_of_rows) 11 "_law_script" KW.s_law ["_law_script", "_law_book", "_law_signs_here", "_law_many", "_law_near", "_law_text", "_law_found", "_law_cells", "_law_parts", "_law_things", "_law_due", "_law_k", "_law_less", "_law_shape", "_law_head", "_law_tail"] rfl rfl ⟨rfl, by decide, by decide⟩ KW.sc_law (fun w h Y => by first | exact PySem.W.kIn_of Y | exact PySem.W.km_in_of Y) ?F
  case F =>
    intro w mg h KX G
    refine' ⟨L2.lawRaw_mk KX G ?a ?l ?c ?k (fun _ _ _ _ _ _ _ _ => .of_eq rfl), fun base => KW.law_body ⟨?f_law_cell_at, ?f_is_whole_number, ?f_branch_place, ?f_shape_of, ?f_has_mark, ?f_has_form, ?f_things_within, ?f_sum_of_sizes, ?f_list_key, ?f_key_made, ?f_weighed, ?f_fits, ?f_copied, ?f_whole_steps, ?f_Lister___init__, ?f_Stepper___init__, ?f_refuse_no_value, ?f_without_each, ?f_with_each_step, ?f_Stepper_steps_by, ?f_Stepper_steps_from, ?f_steps_of, ?f_law_signs, ?f_law_part, ?f_law_thing, ?f_law_inner, ?f_law_count, ?f_law_alike, ?cl_Lister, ?n_Lister_book, ?n_Lister_makers, ?cl_Stepper, ?n_Stepper_book, ?n_Stepper_lister, ?c_OF_ONE_PART, ?b_all, ?b_bool, ?b_dict, ?b_enumerate, ?b_int, ?b_isinstance, ?b_len, ?b_list, ?b_max, ?b_range, ?b_str, ?b_sum, ?b_tuple, ?b_zip⟩ _ w base⟩
    (case a => k_is)
    (case l => k_is)
    (case c => k_is)
    (case k => k_is)
    case f_Lister___init__ =>
      refine' L2.rawI_mk KX G ["self", "book"] ?aC ?mk ?kc ?a ?i ?l ?c ?k (fun _ _ _ _ _ _ us hl => match us, hl with | [_, _], _ => rfl)
      (case aC => k_is)
      (case mk => k_is)
      (case kc => k_is)
      (case a => k_is)
      (case i => k_is)
      (case l => k_is)
      (case c => k_is)
      (case k => k_is)
    case f_Stepper___init__ =>
      refine' L2.rawI_mk KX G ["self", "book"] ?aC ?mk ?kc ?a ?i ?l ?c ?k (fun _ _ _ _ _ _ us hl => match us, hl with | [_, _], _ => rfl)
      (case aC => k_is)
      (case mk => k_is)
      (case kc => k_is)
      (case a => k_is)
      (case i => k_is)
      (case l => k_is)
      (case c => k_is)
      (case k => k_is)
    case f_law_cell_at =>
      refine' L2.raw_mk KX G ["_law_script", "_law_k"] ?a ?l ?c ?k (fun _ _ _ _ _ _ us hl => match us, hl with | [_, _], _ => rfl)
      (case a => k_is)
      (case l => k_is)
      (case c => k_is)
      (case k => k_is)
    case f_is_whole_number =>
      refine' L2.raw_mk KX G ["thing"] ?a ?l ?c ?k (fun _ _ _ _ _ _ us hl => match us, hl with | [_], _ => rfl)
      (case a => k_is)
      (case l => k_is)
      (case c => k_is)
      (case k => k_is)
    case f_branch_place =>
      refine' L2.raw_mk KX G ["branches", "mark"] ?a ?l ?c ?k (fun _ _ _ _ _ _ us hl => match us, hl with | [_, _], _ => rfl)
      (case a => k_is)
      (case l => k_is)
      (case c => k_is)
      (case k => k_is)
    case f_shape_of =>
      refine' L2.raw_mk KX G ["book", "name"] ?a ?l ?c ?k (fun _ _ _ _ _ _ us hl => match us, hl with | [_, _], _ => rfl)
      (case a => k_is)
      (case l => k_is)
      (case c => k_is)
      (case k => k_is)
    case f_has_mark =>
      refine' L2.raw_mk KX G ["branches", "value"] ?a ?l ?c ?k (fun _ _ _ _ _ _ us hl => match us, hl with | [_, _], _ => rfl)
      (case a => k_is)
      (case l => k_is)
      (case c => k_is)
      (case k => k_is)
    case f_has_form =>
      refine' L2.raw_mk KX G ["shape", "value"] ?a ?l ?c ?k (fun _ _ _ _ _ _ us hl => match us, hl with | [_, _], _ => rfl)
      (case a => k_is)
      (case l => k_is)
      (case c => k_is)
      (case k => k_is)
    case f_things_within =>
      refine' L2.raw_mk KX G ["book", "shape", "value"] ?a ?l ?c ?k (fun _ _ _ _ _ _ us hl => match us, hl with | [_, _, _], _ => rfl)
      (case a => k_is)
      (case l => k_is)
      (case c => k_is)
      (case k => k_is)
    case f_sum_of_sizes =>
      refine' L2.raw_mk KX G ["keys"] ?a ?l ?c ?k (fun _ _ _ _ _ _ us hl => match us, hl with | [_], _ => rfl)
      (case a => k_is)
      (case l => k_is)
      (case c => k_is)
      (case k => k_is)
    case f_list_key =>
      refine' L2.raw_mk KX G ["shape", "keys"] ?a ?l ?c ?k (fun _ _ _ _ _ _ us hl => match us, hl with | [_, _], _ => rfl)
      (case a => k_is)
      (case l => k_is)
      (case c => k_is)
      (case k => k_is)
    case f_key_made =>
      refine' L2.raw_mk KX G ["shape", "value", "keys"] ?a ?l ?c ?k (fun _ _ _ _ _ _ us hl => match us, hl with | [_, _, _], _ => rfl)
      (case a => k_is)
      (case l => k_is)
      (case c => k_is)
      (case k => k_is)
    case f_weighed =>
      refine' L2.raw_mk KX G ["book", "shape", "value"] ?a ?l ?c ?k (fun _ _ _ _ _ _ us hl => match us, hl with | [_, _, _], _ => rfl)
      (case a => k_is)
      (case l => k_is)
      (case c => k_is)
      (case k => k_is)
    case f_fits =>
      refine' L2.raw_mk KX G ["book", "shape", "value"] ?a ?l ?c ?k (fun _ _ _ _ _ _ us hl => match us, hl with | [_, _, _], _ => rfl)
      (case a => k_is)
      (case l => k_is)
      (case c => k_is)
      (case k => k_is)
    case f_copied =>
      refine' L2.raw_mk KX G ["thing"] ?a ?l ?c ?k (fun _ _ _ _ _ _ us hl => match us, hl with | [_], _ => rfl)
      (case a => k_is)
      (case l => k_is)
      (case c => k_is)
      (case k => k_is)
    case f_whole_steps =>
      refine' L2.raw_mk KX G ["low", "value"] ?a ?l ?c ?k (fun _ _ _ _ _ _ us hl => match us, hl with | [_, _], _ => rfl)
      (case a => k_is)
      (case l => k_is)
      (case c => k_is)
      (case k => k_is)
    case f_refuse_no_value =>
      refine' L2.raw_mk KX G ["book", "shape", "value"] ?a ?l ?c ?k (fun _ _ _ _ _ _ us hl => match us, hl with | [_, _, _], _ => rfl)
      (case a => k_is)
      (case l => k_is)
      (case c => k_is)
      (case k => k_is)
    case f_without_each =>
      refine' L2.raw_mk KX G ["things"] ?a ?l ?c ?k (fun _ _ _ _ _ _ us hl => match us, hl with | [_], _ => rfl)
      (case a => k_is)
      (case l => k_is)
      (case c => k_is)
      (case k => k_is)
    case f_with_each_step =>
      refine' L2.raw_mk KX G ["things", "inner"] ?a ?l ?c ?k (fun _ _ _ _ _ _ us hl => match us, hl with | [_, _], _ => rfl)
      (case a => k_is)
      (case l => k_is)
      (case c => k_is)
      (case k => k_is)
    case f_Stepper_steps_by =>
      refine' L2.rawM_mk KX G ["self", "shape", "value", "inner"] ?a ?i ?l ?c ?k (fun _ _ _ _ _ _ us hl => match us, hl with | [_, _, _, _], _ => rfl)
      (case a => k_is)
      (case i => k_is)
      (case l => k_is)
      (case c => k_is)
      (case k => k_is)
    case f_Stepper_steps_from =>
      refine' L2.rawM_mk KX G ["self", "shape", "value"] ?a ?i ?l ?c ?k (fun _ _ _ _ _ _ us hl => match us, hl with | [_, _, _], _ => rfl)
      (case a => k_is)
      (case i => k_is)
      (case l => k_is)
      (case c => k_is)
      (case k => k_is)
    case f_steps_of =>
      refine' L2.raw_mk KX G ["book", "shape", "value"] ?a ?l ?c ?k (fun _ _ _ _ _ _ us hl => match us, hl with | [_, _, _], _ => rfl)
      (case a => k_is)
      (case l => k_is)
      (case c => k_is)
      (case k => k_is)
    case f_law_signs =>
      refine' L2.raw_mk KX G ["_law_cell", "_law_many"] ?a ?l ?c ?k (fun _ _ _ _ _ _ us hl => match us, hl with | [_, _], _ => rfl)
      (case a => k_is)
      (case l => k_is)
      (case c => k_is)
      (case k => k_is)
    case f_law_part =>
      refine' L2.raw_mk KX G ["_law_cell"] ?a ?l ?c ?k (fun _ _ _ _ _ _ us hl => match us, hl with | [_], _ => rfl)
      (case a => k_is)
      (case l => k_is)
      (case c => k_is)
      (case k => k_is)
    case f_law_thing =>
      refine' L2.raw_mk KX G ["_law_part_here", "_law_cell"] ?a ?l ?c ?k (fun _ _ _ _ _ _ us hl => match us, hl with | [_, _], _ => rfl)
      (case a => k_is)
      (case l => k_is)
      (case c => k_is)
      (case k => k_is)
    case f_law_inner =>
      refine' L2.raw_mk KX G ["_law_part_here", "_law_thing_here"] ?a ?l ?c ?k (fun _ _ _ _ _ _ us hl => match us, hl with | [_, _], _ => rfl)
      (case a => k_is)
      (case l => k_is)
      (case c => k_is)
      (case k => k_is)
    case f_law_count =>
      refine' L2.raw_mk KX G ["_law_parts", "_law_things"] ?a ?l ?c ?k (fun _ _ _ _ _ _ us hl => match us, hl with | [_, _], _ => rfl)
      (case a => k_is)
      (case l => k_is)
      (case c => k_is)
      (case k => k_is)
    case f_law_alike =>
      refine' L2.raw_mk KX G ["_law_found", "_law_parts", "_law_due"] ?a ?l ?c ?k (fun _ _ _ _ _ _ us hl => match us, hl with | [_, _, _], _ => rfl)
      (case a => k_is)
      (case l => k_is)
      (case c => k_is)
      (case k => k_is)
    case cl_Lister =>
      refine' ⟨?a, ?b, ?c, ?d⟩
      (case a => k_is)
      (case b => k_is)
      (case c => k_is)
      (case d => k_is)
    case n_Lister_book =>
      refine' L2.noattr_mk ?a
      (case a => k_is)
    case n_Lister_makers =>
      refine' L2.noattr_mk ?a
      (case a => k_is)
    case cl_Stepper =>
      refine' ⟨?a, ?b, ?c, ?d⟩
      (case a => k_is)
      (case b => k_is)
      (case c => k_is)
      (case d => k_is)
    case n_Stepper_book =>
      refine' L2.noattr_mk ?a
      (case a => k_is)
    case n_Stepper_lister =>
      refine' L2.noattr_mk ?a
      (case a => k_is)
    case c_OF_ONE_PART =>
      refine' L2.conT_mk KX G ?a ?l ?z ?r
      (case a => k_is)
      (case l => k_is)
      (case z => decide)
      (case r => exact (.cons ⟨_, rfl⟩ (.cons ⟨_, rfl⟩ (.cons ⟨_, rfl⟩ .nil))))
    case b_all =>
      refine' PySem.W.mg_none_of KX G ?a
      (case a => k_is)
    case b_bool =>
      refine' PySem.W.mg_none_of KX G ?a
      (case a => k_is)
    case b_dict =>
      refine' PySem.W.mg_none_of KX G ?a
      (case a => k_is)
    case b_enumerate =>
      refine' PySem.W.mg_none_of KX G ?a
      (case a => k_is)
    case b_int =>
      refine' PySem.W.mg_none_of KX G ?a
      (case a => k_is)
    case b_isinstance =>
      refine' PySem.W.mg_none_of KX G ?a
      (case a => k_is)
    case b_len =>
      refine' PySem.W.mg_none_of KX G ?a
      (case a => k_is)
    case b_list =>
      refine' PySem.W.mg_none_of KX G ?a
      (case a => k_is)
    case b_max =>
      refine' PySem.W.mg_none_of KX G ?a
      (case a => k_is)
    case b_range =>
      refine' PySem.W.mg_none_of KX G ?a
      (case a => k_is)
    case b_str =>
      refine' PySem.W.mg_none_of KX G ?a
      (case a => k_is)
    case b_sum =>
      refine' PySem.W.mg_none_of KX G ?a
      (case a => k_is)
    case b_tuple =>
      refine' PySem.W.mg_none_of KX G ?a
      (case a => k_is)
    case b_zip =>
      refine' PySem.W.mg_none_of KX G ?a
      (case a => k_is)
